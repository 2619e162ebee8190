import PyProof.Rows.All
import Wide.All
import OpenK.AllK
import Wide.FinOn
import Lean
import PyProof.EqAt
import PyProof.EqKinds
import PyProof.TupleCall
import PyProof.P3In
import PyProof.ReprRoads
import PyProof.MaxThree
import PyProof.Rows.SetFrom
import PyProof.SetRoads
import PyProof.Rows.TupDisplay
import PySem.SetTable
import PyProof.TupleKey
import PyProof.SetKind
import PyProof.IsRules
import KE.KSortTup
import PyProof.FactsAll.set_1
import KE.KDictList
import PyProof.ReprLen
import PyProof.ReprRoads
import PyProof.ListMulRoad
import PyProof.FactsAll.tuple
import PyProof.CallStr
import PyProof.StrCalls2
import PyProof.StrLawsJoin
import PyProof.ReprLen
import PyProof.ReprRoads
import PyProof.Rows.CallKwBuiltin
import PySem.Challenge.RW_glowflock_k49_rings_looked_at
set_option compiler.extract_closed false
set_option Elab.async false
set_option linter.all false
set_option maxRecDepth 100000
open Array renaming append_assoc->Qi,forIn_toList->Vs,getD->xp,getD_eq_getD_getElem?->wR,getElem?_eq_getElem->vy,getElem?_eq_none->VF,getElem?_eq_some_iff->Vj,getElem?_toList->vt,length_toList->wu,perm_iff_toList_perm->qb,replicate->xq,size_map->xD,toList->xX
open Bool renaming and_comm->xT,and_eq_true->wX,and_eq_true_iff->qP,and_false->Wi,and_true->xV,beq_eq_decide_eq->VP,eq_iff_iff->VU,false_and->WQ,false_eq_true->wN,false_ne_true->vo,not_eq_true'->Wl,not_false->xC,not_true->Wf,or_eq_true->xl,or_false->xJ,true_and->Wx,true_or->Xa
open Classical renaming byContradiction->WP
open Decidable renaming of_not_not->qV
open False renaming elim->WN
open Int renaming emod_lt_of_pos->Qz,emod_nonneg->xv,eq_ofNat_of_zero_le->vQ,le_refl->qJ,toNat->Qx,toNat_natCast->wG
open List renaming Pairwise->xK,Perm->xH,all_cons->qZ,all_eq_true->Wc,all_map->Xd,any_cons->Vi,append_assoc->Vx,append_nil->vS,drop_succ_cons->V0,drop_zero->qL,eq_nil_of_length_eq_zero->Wy,ext_getElem->We,filterMap_cons->Vl,filter_append->W5,filter_congr->Vd,filter_cons->VN,filter_filter->V5,find?_cons->Wv,find?_eq_none->V4,flatten_cons->Wj,foldl_cons->xh,forIn_cons->qz,forIn_nil->xA,getD_eq_getElem?_getD->wc,getElem?_append->qX,getElem?_append_left->vv,getElem?_append_right->vp,getElem?_cons_succ->Vw,getElem?_cons_zero->qw,getElem?_eq_getElem->we,getElem?_eq_none->wW,getElem?_eq_some_iff->vV,getElem?_map->wE,getElem?_range->Qc,getElem?_replicate->WZ,getElem?_set_ne->qQ,getElem?_set_self->qD,getElem?_tail->Qy,getElem?_take_of_lt->ql,getElem?_zip_eq_some->Vn,getElem_cons_succ->Va,getElem_cons_zero->qI,getElem_map->vU,getElem_mem->vb,getElem_of_mem->Wo,getElem_range->W4,getElem_replicate->VG,length->QV,length_append->wf,length_cons->wU,length_drop->wP,length_eraseIdx->qW,length_filter_le->vO,length_map->wd,length_nil->VQ,length_pos_iff->WX,length_range->vc,length_replicate->VO,length_set->vD,length_singleton->vq,length_tail->vL,length_take->wC,lookup_cons->Vh,map->xb,map_append->wB,map_congr_left->Wp,map_cons->wv,map_drop->xQ,map_map->VW,map_nil->WE,map_replicate->QC,map_tail->xU,map_take->xP,mem_append->wJ,mem_append_left->vF,mem_append_right->wM,mem_cons->wm,mem_cons_of_mem->wI,mem_cons_self->wO,mem_filter->Wm,mem_filterMap->Vo,mem_iff_getElem?->vM,mem_map->wT,mem_of_find?_eq_some->qk,mem_of_getElem?->Wg,mem_of_mem_drop->vj,mem_of_mem_take->vk,mem_range->wS,mem_singleton->wz,nodup_append->WM,nodup_cons->Wn,nodup_nil->WR,nodup_range->VL,not_mem_nil->vI,of_mem_zip->qx,pairwise_map->QP,perm_ext_iff_of_nodup->qa,range->wo,range_succ->WJ,replicate->wl,replicate_succ->vW,set_cons_succ->Qv,set_cons_zero->Qw,set_eq_of_length_le->qt,set_eq_take_append_cons_drop->VH,size_toArray->wq,tail_cons->xz,take_add_one->qf,take_length->Wd,take_of_length_le->W8,take_succ_cons->Qb,toArray->Qs,zipIdx_cons->Q5,zipIdx_nil->xn
open List.Pairwise renaming imp_of_mem->Xc
open Nat renaming add_assoc->Vk,add_le_add_left->Wa,add_mul->QX,add_sub_cancel->Qm,div_div_eq_div_mul->qH,eq_or_lt_of_le->Wu,le_add_right->WU,le_of_lt->WD,le_of_lt_succ->WL,le_refl->wg,le_trans->wV,lt_irrefl->W0,lt_of_le_of_lt->vY,lt_of_lt_of_le->wL,lt_of_succ_lt_succ->W9,lt_or_ge->wK,lt_succ_of_lt->Vb,lt_trans->Qk,lt_trichotomy->qg,min_eq_left->xo,mod_lt->qU,mod_mul->qG,mul_add->qF,mul_assoc->Wr,mul_comm->VY,mul_le_mul->xG,mul_left_comm->QM,mul_mod->Q0,mul_one->QZ,ne_of_gt->vi,ne_of_lt->wF,not_lt_zero->vT,one_mul->QY,pow_le_pow_right->qS,pow_succ->WV,sub_self->VR,succ_ne_self->qm,succ_pos->qp,zero_le->vB
open Nat.succ renaming inj->qu
open Ne renaming symm->vH
open Option renaming getD_none->Q1,getD_some->Q4,isSome->xM,isSome_map->QE,map->Xg,map_eq_none_iff->qK,map_eq_some_iff->W6,map_some->xm
open Option.some renaming inj->wH,injEq->Vy
open Prod renaming ext->Xb
open PyProof.Rows renaming callWith_type1->vC,slot_tuple_getitem->WY
open PyProof.Rows.F renaming entry_set_update_loop->Vt,plain_set_update_loop->WF
open PyProof.Rows.IsTup renaming new->Vg
open PySem renaming Fin->Qr,call->xk,mem_of_lookup->Wz,seqSlot_of->Q8
open PySem.Around renaming under->xZ,under_plain->Qq,under_plainId->VZ
open PySem.Builtin.Frozenset renaming newClass->xR,updateFrom->xE
open PySem.Builtin.Range renaming rangeSize->Xe
open PySem.Builtin.Slice renaming sliceAdjust->Vm,sliceApplied->V8,sliceFields->xW,slicePartIndex->xx,slicePlaces->WO
open PySem.Builtin.SmallTypes renaming nextOf->vG,ownedTupleHandOut->Vr,ownedTupleIsFree->Wh
open PySem.Builtin.Tuple renaming tupleExact->WT,tupleHashOf->vA,tupleItemsOf->V9,tupleTooMany->qc
open PySem.Calls renaming Name_function_global->V7,evalArgs_plain->qR,spliced_cons->Qj,spliced_nil->QD
open PySem.Challenge renaming pw_glowflock_k49_rings_looked_at->WS,rw_glowflock_k49_rings_looked_at->Wb
open PySem.Code renaming isGuard->x8,quiet_builtin->Qp
open PySem.EntryCells renaming newEntry->Qa
open PySem.F renaming args_enumerate_next_1->Vv,args_object_init_3->VT,args_tuple_add_2->Vp,args_tuple_iterator_next_1->V2,args_tuple_mul_2->Qu,args_zip_next_1->QL,called_enumerate->Vq,called_set->WW,called_zip->Qn,entry_enumerate_new->qM,entry_enumerate_next->VE,entry_tuple_add->Vu,entry_tuple_iterator_next->V3,entry_tuple_mul->QT,entry_type_call->QQ,entry_zip_new->qB,entry_zip_next->Q6,excBase_ValueError->qT,newCall_zip_2->qA,plainAttrs_list->vE,plain_set_new->xr,slot_dict_getitem->qi,slot_enumerate_next->Wt,slot_int_rmul->xu,slot_list_append->vJ,slot_tuple_add->VC,slot_tuple_eq->qC,slot_tuple_hash->Vc,slot_tuple_iterator_next->WK,slot_tuple_mul->VM,slot_tuple_rmul->QR,slot_zip_next->VS,typeCall_zip_2->qo,type_list_append->vK
open PySem.Heap renaming IsTuple->Vf,MadeExcOf->xy,SameBut->vg,get?_push_ne->Vz,get?_push_of_some->wb,get?_push_size->wj,get?_update_other->VD,get?_update_self->WG,lt_size->wk,size_push->vn
open PySem.Heap.IsSliceOf renaming new->Xh
open PySem.Heap.SameBut renaming update->vX
open PySem.IntMulOk renaming of_left->Q9,of_right->QU
open PySem.IsRange renaming new->Xf
open PySem.Obj renaming cls_mapFields->QK,data_mapFields->W1,isFreed_of_fields->Ve,mapFields->VI,mapSeq->wZ,putSet->qj
open PySem.Paired renaming length->V6,snoc->QW
open PySem.PassesOwn renaming never->wY
open PySem.PyData renaming canLay0->WB,canLayAll0->Wk,depth->VX,depthAll->W2,eqv->wQ,eqvAll->vR,intsShort->Q7,intsShortAll->Qe,showable->xt,showableAll->Qt,shown_int_le->Qd,weight->xS,weightAll->qr
open PySem.SeqAt renaming canLay_of_shaped->WC,shaped->Ws
open PySem.SeqAt.EqAt renaming int_str->Qf,str_int->Qg
open PySem.SetTable renaming below->vZ,fill->xO,grown->qO,has->Qo,insertAt->vP,laid->xN,layClean->QN,sizeAbove->W3,turns->qN
open PySem.SetTable.below renaming go->VA
open PySem.SetTable.layClean renaming free->Wq
open PySem.SetTable.probe renaming go->qh
open PySem.SetTable.sizeAbove renaming go->vN
open PySem.Shared renaming heap->W7
open PySem.Str renaming ofString->Ww
open PySem.StrLaws renaming seqIndex_nonneg->xw
open PySem.Value renaming isInt->VB,isStrOf->xI
open PySem.Value.type renaming inj->xF
open PySem.W renaming Frag->wa,OpenLaw->qy,WalkO->xL,cellsFrom_some->qE,codeIn->wA,excIn->VJ,findIn->WA,fnOf->wD,hideAll->xf,hideAll_get->q5,instObj->xc,isFn->xY,keepIn->ww,kia_one->WH,kia_tup->WI,kitAny->xB,kitOne->V1,kitx_bool->QG,kitx_dict->QJ,kitx_int->Q2,kitx_list->QI,kitx_none->QF,kitx_str->Q3,kitx_tuple->Ql,methodObj->qd,mg_none_of->vh,mg_of->wx,mroIn->qY,nsIn->wn,of_hideAll->Qh,specialIn->qe,takesIn->xg
namespace GH
open PySem PySem.W PyProof.Rows
noncomputable def zsY (p : Program) (w : World) (m : Nat) (an : Option Value) (N : Nat) (s0 : Shared) : Option Shared :=
 Option.bind (Fast.tw14082659384304107361 Fast.tw14364793385576792824 p w m an N s0 (topStub p)) λ s1=>match staticsOk (Fast.tw5923862056798008813 p.main.body) s0.heap s1.heap && namesBound p s1.heap && gensDone s1 && laidKept s0.heap s1.heap with | true=>some s1 | false=>none
noncomputable def zsP (w : World) (os : OsState) : Shared:=⟨boot_heap w.params,#[],boot_drawn,boot_toks,os⟩
theorem left_once {p q : Program} {loose : List Str} {Xt : Shared -> Bool} {A : Type} {Yf : Shared -> A} {Ya : World -> A} {N : Nat} (e : opening p = plainProg p.main.scope.names) (hN : Nat.ble 600 N = true) (f : ∀ s,fenceModules? p s = some s) {m : Nat} {an : Option Value}
   (size : ∀ w : World,((boot_heap w.params).isNs mainGlobals,(boot_heap w.params).objs.size,(boot_heap w.params).nsMap mainGlobals "__annotations__") = (true,m,an))
   (h : ∀ w : World,(λ os=>(zsY p w m an N (zsP w os)).map (λ s=>(Fast.tw4187177175401517315 q loose (Fast.tw5923862056798008813 p.main.body) Xt true s,Yf s))) = λ _=>some (openGood q loose,Ya w)) : LeftO p q loose Xt Yf Ya N:=λ w=>by
 obtain ⟨⟨h',gs,d,k,os⟩,e',e2⟩:=W6.mp (boot_open e hN f (w:=w));obtain ⟨rfl,rfl,rfl,rfl⟩ : h' = boot_heap w.params /\ gs = #[] /\ d = boot_drawn /\ k = boot_toks:=by simpa using e2
 obtain ⟨z1,z2,z3⟩ : _ /\ _ /\ _:=by simpa only [Prod.mk.injEq] using size w
 have r:=congrFun (h w) os;unfold openEnds;rw [e']
 show Xg _ (topFrom treeTable p w N _) = _
 rw [<- r];unfold topFrom zsY zsP;rw [<- Fast.te14082659384304107361,<- Fast.te14364793385576792824,<- Fast.te5923862056798008813,<- Fast.te4187177175401517315];dsimp only;rw [z1,z2,z3]
 rfl
def qv : Program:=view WS [1,2,4,5,7,8,9,10,11,12,13,14,15,16,17,18,19,21,22,23,24,25,26,27,29,31,32,33,34,35,36,37,38,39,40,41,42,43,44,45,46]
theorem said : Wb.wellSaid = true:=by kernel_rfl
theorem size (w : World) : ((boot_heap w.params).isNs mainGlobals,(boot_heap w.params).objs.size,(boot_heap w.params).nsMap mainGlobals "__annotations__") = (true,11,some (.ref 6)):=by kernel_rfl
local macro_rules | `(tactic| o_head $H)=>`(tactic| (refine holds_open (q:=GH.qv) (loose:=[]) (Xt:=λ s=>xlAt GH.qv [] s && recOk (RowW.records (OpenRow.toRowW (OpenLaw.row Wb))) s) (XP:=XL GH.qv []) (Yf:=Hook.obs $H) (Ya:=Hook.val $H) (YP:=Hook.says $H) (N:=3116) ?hl (Hook.of $H) (Hook.keeps $H) (λ s e=>xl_of s (qP.mp e).1) XL.keeps (by rfl) (by rfl) (by rfl) (λ s e=>recFacts_of (qP.mp e).2) (by rfl) (by first | assumption | decide +kernel) (by decide +kernel) ⟨rfl,rfl,rfl,rfl,rfl,by decide +kernel⟩ ?hw ?hc; (case hl=>refine GH.left_once (by kernel_rfl) rfl (λ s=>by kernel_rfl) GH.size ?_; intro w; kernel_rfl)))
local macro_rules | `(tactic| o_law)=>`(tactic| refine holds_law GH.said λ said=>?_)
set_option maxHeartbeats 0
open_top head for Wb
end GH
set_option maxHeartbeats 200000
namespace L2
open PySem PySem.Spec PyProof.Rows
abbrev Key:=Sum Int Str
def zh1 : Key -> Value -> Bool
 | .inl k,v=>VB k v
 | .inr x,v=>xI x v
def ztx (w : World) : Key -> Int
 | .inl k=>hashInt k
 | .inr x=>hashStr w x
theorem zbw : ∀ {k : Key} {v : Value},zh1 k v = true -> (∃ i t,k = Sum.inl i /\ v = Value.int i t) \/ (∃ x t,k = Sum.inr x /\ v = Value.str x t)
 | .inl i,v,h=>by
   obtain ⟨t,e⟩:=Value.isInt_shape (k:=i) (v:=v) h;exact .inl ⟨i,t,rfl,e⟩
 | .inr x,v,h=>by
   obtain ⟨t,e⟩:=Value.isStrOf_shape (x:=x) (v:=v) h;exact .inr ⟨x,t,rfl,e⟩
theorem zm8 (i : Int) (t : Tok) : zh1 (.inl i) (.int i t) = true:=by simp [zh1,VB]
theorem zmz (x : Str) (t : Tok) : zh1 (.inr x) (.str x t) = true:=by simp [zh1,xI]
theorem zrE (a b : Int) : decide ((Sum.inl a : Key) = Sum.inl b) = (a == b):=by
 by_cases e : a = b
 . subst e; simp
 . have h : ¬ (Sum.inl a : Key) = Sum.inl b:=λ q=>e (Sum.inl.inj q)
   rw [decide_eq_false h];exact (beq_eq_false_iff_ne.mpr e).symm
theorem zri (a b : Str) : decide ((Sum.inr a : Key) = Sum.inr b) = decide (a = b):=by
 by_cases e : a = b
 . subst e; simp
 . have h : ¬ (Sum.inr a : Key) = Sum.inr b:=λ q=>e (Sum.inr.inj q)
   rw [decide_eq_false h,decide_eq_false e]
theorem zrT (a : Int) (b : Str) : decide ((Sum.inl a : Key) = Sum.inr b) = false:=decide_eq_false (λ q=>nomatch q)
theorem zsn (a : Str) (b : Int) : decide ((Sum.inr a : Key) = Sum.inl b) = false:=decide_eq_false (λ q=>nomatch q)
def zbT (prog : Program) (w : World) : PySem.KeyKind prog w Key where
 is:=zh1
 hash:=ztx w
 inj:=λ v a b ha hb=>by
   rcases zbw ha with ⟨i,t,rfl,rfl⟩ | ⟨x,t,rfl,rfl⟩
   . rcases zbw hb with ⟨j,u,rfl,e⟩ | ⟨y,u,rfl,e⟩
     . injection e with e1 _; rw [e1]
     . exact nomatch e
   . rcases zbw hb with ⟨j,u,rfl,e⟩ | ⟨y,u,rfl,e⟩
     . exact nomatch e
     . injection e with e1 _; rw [e1]
 byValue:=λ k v h=>by
   rcases zbw h with ⟨i,t,rfl,rfl⟩ | ⟨x,t,rfl,rfl⟩ <;> rfl
 pyHash:=λ hv h=>by
   rcases zbw hv with ⟨i,t,rfl,rfl⟩ | ⟨x,t,rfl,rfl⟩
   . exact wpAny_pyHash_int h
   . exact wpAny_pyHash_str h
 eqBool:=λ hu hv h=>by
   rcases zbw hu with ⟨i,t,rfl,rfl⟩ | ⟨x,t,rfl,rfl⟩
   . rcases zbw hv with ⟨j,u,rfl,rfl⟩ | ⟨y,u,rfl,rfl⟩
     . rw [zrE] at h; exact wpAny_eqBool_int h
     . rw [zrT] at h; exact Qf i t y u _ _ _ _ h
   . rcases zbw hv with ⟨j,u,rfl,rfl⟩ | ⟨y,u,rfl,rfl⟩
     . rw [zsn] at h; exact Qg x t j u _ _ _ _ h
     . rw [zri] at h; exact wpAny_eqBool_str h
 «strs»:=λ k x t v h=>by
   rcases zbw h with ⟨i,u,rfl,e⟩ | ⟨y,u,rfl,e⟩
   . exact nomatch e
   . injection e with e1 _
     subst e1;cases v <;> rfl
theorem zjM (prog : Program) (w : World) (i : Int) (t : Tok) : (zbT prog w).is (.inl i) (.int i t) = true:=zm8 i t
theorem zjC (prog : Program) (w : World) (x : Str) (t : Tok) : (zbT prog w).is (.inr x) (.str x t) = true:=zmz x t
inductive V where
 | non | bl (b : Bool) | int (i : Int) | str (x : Str) | byt (b : Array UInt8) | flt (b : UInt64) | ref (a : Addr) | ty (n : String)
 deriving DecidableEq
def zaQ : V -> Value -> Prop
 | .non,u=>u = Value.none
 | .bl b,u=>u = Value.bool b
 | .int i,u=>∃ t,u = Value.int i t
 | .str x,u=>∃ t,u = Value.str x t
 | .byt b,u=>∃ t,u = Value.bytes b t
 | .flt b,u=>∃ t,u = Value.float b t
 | .ref a,u=>u = Value.ref a
 | .ty n,u=>u = Value.type n
abbrev zaG : List V -> List Value -> Prop:=Paired zaQ
theorem zaG.length {xs : List V} {us : List Value} (r : zaG xs us) : xs.length = us.length:=V6 r
theorem zaG.get : ∀ {xs : List V} {us : List Value} {i : Nat} {x : V},zaG xs us -> xs[i]? = some x -> ∃ u,us[i]? = some u /\ zaQ x u
 | _,_,_,_,.nil,e=>by simp at e
 | _,_,0,_,.cons r _,e=>by simp at e; subst e; exact ⟨_,rfl,r⟩
 | _,_,i + 1,x,.cons _ t,e=>by
   obtain ⟨u,h1,h2⟩:=zaG.get (i:=i) (x:=x) t (by simpa using e);exact ⟨u,by simpa using h1,h2⟩
theorem zaG.set {x : V} {u : Value} (r : zaQ x u) : ∀ {xs : List V} {us : List Value} (i : Nat),zaG xs us -> zaG (xs.set i x) (us.set i u)
 | _,_,_,.nil=>.nil
 | _,_,0,.cons _ t=>.cons r t
 | _,_,i + 1,.cons q t=>.cons q (zaG.set r i t)
theorem zaG.append : ∀ {xs ys : List V} {us ws : List Value},zaG xs us -> zaG ys ws -> zaG (xs ++ ys) (us ++ ws)
 | _,_,_,_,.nil,s=>s
 | _,_,_,_,.cons r t,s=>.cons r (zaG.append t s)
theorem zaG.take : ∀ {xs : List V} {us : List Value} (n : Nat),zaG xs us -> zaG (xs.take n) (us.take n)
 | _,_,0,_=>.nil
 | _,_,_ + 1,.nil=>.nil
 | _,_,n + 1,.cons r t=>.cons r (zaG.take n t)
theorem zaG.drop : ∀ {xs : List V} {us : List Value} (n : Nat),zaG xs us -> zaG (xs.drop n) (us.drop n)
 | _,_,0,r=>r
 | _,_,_ + 1,.nil=>.nil
 | _,_,n + 1,.cons _ t=>zaG.drop n t
def zhR : Option V -> Option Value -> Prop
 | some v,some u=>zaQ v u
 | none,none=>True
 | _,_=>False
def KV {κ : Type} : List (κ × V) -> List (κ × Value) -> Prop:=Paired λ (p : κ × V) (q : κ × Value)=>p.1 = q.1 /\ zaQ p.2 q.2
def kV : Key -> V
 | .inl i=>.int i
 | .inr x=>.str x
inductive HO where
 /-- a list -/
 | lst (xs : List V)
 /-- a tuple (never changes) -/
 | tup (xs : List V)
 /-- a dict whose keys are ints and texts; one whose keys are tuples of ints and texts (the empty one is both) -/
 | dK (kvs : List (Key × V)) | dT (kvs : List (List Key × V))
 /-- a set of ints: its members,its size -/
 | set (S : Int -> Bool) (n : Nat)
 /-- an instance of the class at C,its dict at dx,its attributes -/
 | ins (C dx : Addr) (fs : List (Str × V))
 /-- the dict of the instance at x -/
 | own (x : Addr)
 /-- the dict of an exception -/
 | xd (fs : List (Str × V))
 /-- a bound method,f of x -/
 | met (f x : Addr)
 /-- a range object lo,lo + 1,.. below hi -/
 | rng (lo hi : Int)
 /-- a thing that is known to the object (the script; a dict while a loop walks it): read,never written while it is so -/
 | frz (o : Obj) (u : HO)
 /-- a code object's table -/
 | tbl (ps : Array Value)
 /-- any other thing,by what is true of its one object (a def of one's own: SetO a S n:=HO.ext λ h=>..) -/
 | ext (φ : Heap -> Prop)
abbrev Hp:=Addr -> Option HO
def upd (H : Hp) (a : Addr) (o : HO) : Hp:=λ b=>if b = a then some o else H b
theorem zar {H : Hp} {a : Addr} {o : HO} : upd H a o a = some o:=by unfold upd; rw [if_pos rfl]
theorem zbj {H : Hp} {a b : Addr} {o : HO} (h : b ≠ a) : upd H a o b = H b:=by unfold upd; rw [if_neg h]
theorem zne {H : Hp} {a b : Addr} {o u : HO} (h : H a = some o) (h' : H b = some u) (d : o ≠ u) : a ≠ b:=by
 intro e; subst e; rw [h] at h'; exact d (wH h')
theorem zay {H : Hp} {a b : Addr} {o : HO} (h : H a = some o) (h' : H b = none) : a ≠ b:=by
 intro e; subst e; rw [h] at h'; cases h'
section
variable (P : Program) (w : World)
def za9 (H : Hp) (h : Heap) (a : Addr) : HO -> Prop
 | .lst xs=>xs.length <= sizeLine /\ ∃ (its : List Value) (n : Nat),zaG xs its /\ h.get? a = some { cls:=.type "list",data:=.seq its.toArray n }
 | .tup xs=>xs.length <= sizeLine /\ ∃ its : List Value,zaG xs its /\ IsTup h a its.toArray
 | .dK kvs=>kvs.length <= sizeLine /\ (a == sysModules) = false /\ ∃ vs,KV kvs vs /\ h.DictOf (zbT P w) a vs
 | .dT kvs=>kvs.length <= sizeLine /\ (a == sysModules) = false /\ ∃ xs : List (List Key × Addr × Value),
     Paired (λ (p : List Key × V) (q : List Key × Addr × Value)=>p.1 = q.1 /\ H q.2.1 = some (.tup (p.1.map kV)) /\ zaQ p.2 q.2.2) kvs xs /\
     ∃ o es ep,h.get? a = some o /\ o.ExactDict /\ o.data = .dict es ep /\ es.toList = xs.map (entryOfKey (tupleKind (zbT P w))) /\ (xs.map (·.1)).Nodup
 | .set S n=>h.SetOf (intKind P w) a S n
 | .ins C dx fs=>H dx = some (.own a) /\ fs.length <= 1000 /\ dx ≠ a /\ h.get? a = some (xc C dx) /\
     ∃ mA,h.Ns1 dx mA /\ (∀ f,zhR (fs.lookup f) (mA f)) /\ PySem.Within mA (fs.map (·.1))
 | .own _=>∃ o,h.get? a = some o
 | .xd fs=>∃ mA,h.Ns1 a mA /\ ∀ f,zhR (fs.lookup f) (mA f)
 | .rng lo hi=>∃ t u v,h.get? a = some { cls:=.type "range",data:=.fields #[.int lo t,.int hi u,.int 1 v] }
 | .frz o u=>h.get? a = some o /\ za9 H h a u
 | .tbl ps=>h.get? a = some { cls:=.none,data:=.fields ps }
 | .met f x=>h.get? a = some (qd (.ref f) (.ref x))
 | .ext φ=>φ h /\ (∃ o,h.get? a = some o) /\ ∀ h1 h2 : Heap,φ h1 -> (∀ o,h1.get? a = some o -> h2.get? a = some o) -> φ h2
def HOk (H : Hp) (h : Heap) : Prop:=∀ a o,H a = some o -> za9 P w H h a o
end
section
variable {P : Program} {w : World} {H H' : Hp} {h h' : Heap} {a : Addr} {o : HO}
theorem za9.lt (x : za9 P w H h a o) : a < h.objs.size:=by
 cases o with
 | lst xs=>obtain ⟨_,_,_,_,e⟩:=x; exact wk e
 | tup xs=>obtain ⟨_,_,_,p⟩:=x; exact p.lt
 | dK kvs=>obtain ⟨_,_,_,_,o,_,_,e,_⟩:=x; exact wk e
 | dT kvs=>obtain ⟨_,_,_,_,o,_,_,e,_⟩:=x; exact wk e
 | set S n=>obtain ⟨o,_,_,_,e,_⟩:=x; exact wk e
 | ins C dx fs=>obtain ⟨_,_,_,e,_⟩:=x; exact wk e
 | own y=>obtain ⟨_,e⟩:=x; exact wk e
 | xd fs=>obtain ⟨_,⟨_,_,_,e,_⟩,_⟩:=x; exact wk e
 | rng lo hi=>obtain ⟨_,_,_,e⟩:=x; exact wk e
 | frz ob u=>obtain ⟨e,_⟩:=x; exact wk e
 | tbl ps=>exact wk (show h.get? a = some _ from x)
 | met f y=>exact wk (show h.get? a = some _ from x)
 | ext φ=>obtain ⟨_,⟨_,e⟩,_⟩:=x; exact wk e
theorem Paired.mapP {α β : Type} {F G : α -> β -> Prop} : ∀ {l₁ : List α} {l₂ : List β},Paired F l₁ l₂ -> (∀ a b,F a b -> G a b) -> Paired G l₁ l₂
 | _,_,.nil,_=>.nil
 | _,_,.cons r t,f=>.cons (f _ _ r) (Paired.mapP t f)
theorem za9.stay (x : za9 P w H h a o) (k : ∀ b u,(b = a \/ H b = some (.own a)) -> h.get? b = some u -> h'.get? b = some u)
   (ho : ∀ b,H b = some (.own a) -> H' b = some (.own a)) (ht : ∀ b xs,H b = some (.tup xs) -> H' b = some (.tup xs)) : za9 P w H' h' a o:=by
 induction o with
 | lst xs=>obtain ⟨z,its,n,r,e⟩:=x; exact ⟨z,its,n,r,k _ _ (.inl rfl) e⟩
 | tup xs=>obtain ⟨z,its,r,ob,e,c⟩:=x; exact ⟨z,its,r,ob,k _ _ (.inl rfl) e,c⟩
 | dK kvs=>obtain ⟨z,y,vs,r,ob,es,ep,e,c⟩:=x; exact ⟨z,y,vs,r,ob,es,ep,k _ _ (.inl rfl) e,c⟩
 | dT kvs =>
   obtain ⟨z,y,xs,r,ob,es,ep,e,c⟩:=x;exact ⟨z,y,xs,Paired.mapP r λ p q z=>⟨z.1,ht _ _ z.2.1,z.2.2⟩,ob,es,ep,k _ _ (.inl rfl) e,c⟩
 | set S n=>obtain ⟨ob,es,ep,t,e,c⟩:=x; exact ⟨ob,es,ep,t,k _ _ (.inl rfl) e,c⟩
 | ins C dx fs =>
   obtain ⟨d,z,ne,e,mA,⟨od,es,ep,e2,c⟩,r⟩:=x;exact ⟨ho _ d,z,ne,k _ _ (.inl rfl) e,mA,⟨od,es,ep,k _ _ (.inr d) e2,c⟩,r⟩
 | own y=>obtain ⟨ob,e⟩:=x; exact ⟨ob,k _ _ (.inl rfl) e⟩
 | xd fs=>obtain ⟨mA,⟨od,es,ep,e,c⟩,r⟩:=x; exact ⟨mA,⟨od,es,ep,k _ _ (.inl rfl) e,c⟩,r⟩
 | rng lo hi=>obtain ⟨t,u,v,e⟩:=x; exact ⟨t,u,v,k _ _ (.inl rfl) e⟩
 | frz ob u ih=>obtain ⟨e,q⟩:=x; exact ⟨k _ _ (.inl rfl) e,ih q⟩
 | tbl ps =>
   have e : h.get? a = some { cls:=.none,data:=.fields ps }:=x
   show h'.get? a = some { cls:=.none,data:=.fields ps }
   exact k a _ (.inl rfl) e
 | met f y =>
   have e : h.get? a = some (qd (.ref f) (.ref y)):=x
   show h'.get? a = some (qd (.ref f) (.ref y))
   exact k a _ (.inl rfl) e
 | ext φ=>obtain ⟨p,⟨o,e⟩,st⟩:=x; exact ⟨st _ _ p λ o q=>k _ _ (.inl rfl) q,⟨o,k _ _ (.inl rfl) e⟩,st⟩
theorem HOk.lt (x : HOk P w H h) (e : H a = some o) : a < h.objs.size:=(x a o e).lt
theorem HOk.fresh (x : HOk P w H h) (e : h.objs.size <= a) : H a = none:=by
 cases q : H a with
 | none=>rfl
 | some u=>exact absurd (wL (x.lt q) e) (W0 _)
theorem HOk.kept (x : HOk P w H h) (k : ∀ b u,h.get? b = some u -> h'.get? b = some u) : HOk P w H h':=λ a o e =>
 (x a o e).stay (λ b u _ q=>k b u q) (λ _ q=>q) λ _ _ q=>q
theorem HOk.laid (x : HOk P w H h) (k : ∀ b u,h.get? b = some u -> h'.get? b = some u) (hp : h.objs.size <= a) (new : za9 P w (upd H a o) h' a o) : HOk P w (upd H a o) h':=λ b u e=>by
 have hn:=x.fresh hp
 by_cases hb : b = a
 . subst hb; rw [zar] at e; cases e; exact new
 . rw [zbj hb] at e
   exact (x b u e).stay (λ c v _ q=>k c v q) (λ c q=>by rw [zbj (zay q hn)]; exact q) λ c xs q=>by rw [zbj (zay q hn)]; exact q
end
def Rd (H : Hp) (a : Addr) (u : HO) : Prop:=H a = some u \/ ∃ o,H a = some (.frz o u)
theorem Rd.ok {P : Program} {w : World} {H : Hp} {h : Heap} {a : Addr} {u : HO} (r : Rd H a u) (x : HOk P w H h) : za9 P w H h a u:=by
 rcases r with r | ⟨o,r⟩
 . exact x a u r
 . obtain ⟨_,q⟩:=x a _ r
   exact q
def Mut : Option HO -> Prop
 | some (.lst _)=>True
 | some (.dK _)=>True
 | some (.dT _)=>True
 | some (.set _ _)=>True
 | some (.ins _ _ _)=>True
 | some (.ext _)=>True
 | _=>False
section
variable {P : Program} {w : World} {H : Hp} {h h' : Heap} {x e : Addr} {o' : HO}
theorem HOk.write (ok : HOk P w H h) (mu : Mut (H x)) (he : e = x \/ H e = some (.own x)) (k : ∀ b u,b ≠ e -> h.get? b = some u -> h'.get? b = some u) (heo : ∃ u,h'.get? e = some u)
   (new : za9 P w (upd H x o') h' x o') : HOk P w (upd H x o') h':=λ b u q=>by
 have nown : ∀ c y,H c = some (.own y) -> c ≠ x:=λ c y r z=>by subst z; rw [r] at mu; exact mu
 have ntup : ∀ c xs,H c = some (.tup xs) -> c ≠ x:=λ c xs r z=>by subst z; rw [r] at mu; exact mu
 by_cases hb : b = x
 . subst hb; rw [zar] at q; cases q; exact new
 . rw [zbj hb] at q
   by_cases hbe : b = e
   . have q' : H b = some (.own x):=by
       rcases he with z | z
       . exact absurd (hbe.trans z) hb
       . rw [hbe]; exact z
     rw [q] at q'; cases q';obtain ⟨v,hv⟩:=heo;exact ⟨v,by rw [hbe]; exact hv⟩
   . refine (ok b u q).stay (λ c v hc r=>k c v ?_ r) (λ c r=>by rw [zbj (nown c b r)]; exact r) λ c xs r=>by rw [zbj (ntup c xs r)]; exact r
     rcases hc with rfl | hc
     . exact hbe
     . rintro rfl
       rcases he with z | z
       . exact nown c b hc z
       . rw [hc] at z; cases z; exact hb rfl
end
structure Un (fs ex : List Addr) (H H' : Hp) (h h' : Heap) : Prop where
 keep : ∀ b o,h.get? b = some o -> H b = none -> b ∉ fs -> b ∉ ex -> h'.get? b = some o
 slot : ∀ b o,h.get? b = some o -> H b = none -> b ∈ fs -> b ∉ ex -> ∃ sl,h'.get? b = some { o with slots:=sl }
 free : ∀ b o,h.get? b = some o -> H b = none -> b ∉ ex -> H' b = none
 there : ∀ b o,h.get? b = some o -> b ∉ ex -> ∃ o',h'.get? b = some o'
 tups : ∀ b xs,H b = some (.tup xs) -> H' b = some (.tup xs)
 frzs : ∀ b o u,H b = some (.frz o u) -> H' b = some (.frz o u)
 tbls : ∀ b ps,H b = some (.tbl ps) -> ∃ more,H' b = some (.tbl (ps ++ more))
section
variable {fs fs' ex ex' : List Addr} {H H1 H2 : Hp} {h h1 h2 h' : Heap} {a x e : Addr} {o : HO}
theorem Un.any (u : Un fs ex H H1 h h1) {b : Addr} {ob : Obj} (q : h.get? b = some ob) (n : H b = none) (hx : b ∉ ex) : ∃ sl,h1.get? b = some { ob with slots:=sl }:=by
 by_cases hb : b ∈ fs
 . exact u.slot b ob q n hb hx
 . exact ⟨ob.slots,u.keep b ob q n hb hx⟩
theorem Un.kept (k : ∀ b u,h.get? b = some u -> h'.get? b = some u) : Un fs ex H H h h' :=
 ⟨λ b ob q _ _ _=>k b ob q,λ b ob q _ _ _=>⟨ob.slots,k b ob q⟩,λ _ _ _ n _=>n,λ b ob q _=>⟨ob,k b ob q⟩,λ _ _ q=>q,λ _ _ _ q=>q,λ _ ps q=>⟨#[],by rw [q]; simp⟩⟩
theorem Un.refl : Un fs ex H H h h:=Un.kept λ _ _ q=>q
theorem Un.laid (k : ∀ b u,h.get? b = some u -> h'.get? b = some u) (hp : h.objs.size <= a) (hn : H a = none) : Un fs ex H (upd H a o) h h' where
 keep:=λ b u q _ _ _=>k b u q
 slot:=λ b u q _ _ _=>⟨u.slots,k b u q⟩
 free:=λ b u q n _=>by rw [zbj (wF (wL (wk q) hp))]; exact n
 there:=λ b u q _=>⟨u,k b u q⟩
 tups:=λ b xs q=>by rw [zbj (zay q hn)]; exact q
 frzs:=λ b u xs q=>by rw [zbj (zay q hn)]; exact q
 tbls:=λ b ps q=>⟨#[],by rw [zbj (zay q hn),q]; simp⟩
theorem Un.write (mu : Mut (H x)) (he : e = x \/ H e = some (.own x)) (k : ∀ b u,b ≠ e -> h.get? b = some u -> h'.get? b = some u) (heo : ∃ u,h'.get? e = some u) : Un fs ex H (upd H x o) h h':=by
 have hx : ∀ b,H b = none -> b ≠ x:=λ b n z=>by subst z; rw [n] at mu; exact mu
 have hb : ∀ b,H b = none -> b ≠ e:=λ b n z=>by
   subst z;rcases he with r | r
   . exact hx b n r
   . rw [n] at r; cases r
 have hm : ∀ b u,H b = some u -> ¬ Mut (some u) -> b ≠ x:=λ b u q nm z=>by subst z; rw [q] at mu; exact nm mu
 refine ⟨λ b u q n _ _=>k b u (hb b n) q,λ b u q n _ _=>⟨u.slots,k b u (hb b n) q⟩,λ b u q n _=>by rw [zbj (hx b n)]; exact n,λ b u q _=>?_,
   λ b xs q=>by rw [zbj (hm b _ q λ z=>z)]; exact q,λ b u xs q=>by rw [zbj (hm b _ q λ z=>z)]; exact q,λ b ps q=>⟨#[],by rw [zbj (hm b _ q λ z=>z),q]; simp⟩⟩
 by_cases hbe : b = e
 . subst hbe; exact heo
 . exact ⟨u,k b u hbe q⟩
end
def trk (h : Heap) (H : Hp) : List Addr:=(wo h.objs.size).filter λ a=>(H a).isSome
def zjr (h : Heap) (H : Hp) : Heap:=xf h (trk h H)
theorem zmu (h : Heap) (H : Hp) : (zjr h H).objs.size = h.objs.size:=PySem.W.hideAll_size _ _
theorem znr {h : Heap} {H : Hp} {b : Addr} {o : Obj} (e : h.get? b = some o) (n : H b = none) : (zjr h H).get? b = some o :=
 q5 _ e λ hm=>by
   have q : (H b).isSome = true:=(Wm.mp hm).2;rw [n] at q; simp at q
theorem zp9 {h : Heap} {H : Hp} {b : Addr} {o : Obj} (e : (zjr h H).get? b = some o) : h.get? b = some o /\ H b = none:=by
 have e' : h.get? b = some o:=Qh (trk h H) e;refine ⟨e',?_⟩;cases q : H b with
 | none=>rfl
 | some x =>
   have hm : b ∈ trk h H:=Wm.mpr ⟨wS.mpr (wk e'),by simp [q]⟩;have z : (zjr h H).get? b = none:=PySem.W.hideAll_none (trk h H) hm;rw [z] at e; cases e
def zqw (g h : Heap) (L : Addr) : List (Addr × Obj):=(wo h.objs.size).filterMap λ a=>if a = L \/ (g.get? a).isSome = true then none else (h.get? a).map λ o=>(a,o)
def rest (g h : Heap) (L d : Addr) : List (Addr × Obj):=(zqw g h L).filter λ p=>decide (p.1 ≠ d)
structure Mod (K : wa) (mg : Str -> Option Value) (base : Heap) : Prop where
 kin : K.In base
 glob : base.Ns mainGlobals mg
 blt : ∃ mb,base.Ns builtinsNs mb /\ ∀ x : Str,x ≠ "__name__" -> mb x = bootBuiltins x
 nolimit : base.NoLimit
structure Cx where
 prog : Program
 w : World
 K : wa
 mg : Str -> Option Value
 base : Heap
 A : Around
 N : List Str
 s₀ : Shared
 H₀ : Hp
 env : Env
 outer : List Env
 stack : List Env
 ex : List Addr
 fn : Str -> Bool
 calm : Bool
 pn : List (Addr × Obj)
 xe : Value -> Shared -> Prop
def frs (l : List Env) : List Addr:=l.filterMap (·.frame)
abbrev Cx.fs (X : Cx) : List Addr:=frs X.outer
def Vis (sc : Scope) (x : Str) : Prop:=sc.names.lookup x = some .local \/ sc.names.lookup x = some .cell \/ sc.names.lookup x = some .free
def Loc (sc : Scope) (x : Str) : Prop:=sc.names.lookup x = some .local \/ sc.names.lookup x = some .cell
def ztu (env : Env) (h : Heap) (m : Str -> Option Value) (x : Str) (u : Value) : Prop :=
 (env.kindOf x = some .local /\ m x = some u) \/ ((env.kindOf x = some .cell \/ env.kindOf x = some .free) /\ ∃ c,env.cells.lookup x = some c /\ h.IsCell c (some u))
structure Cx.Ok (X : Cx) : Prop where
 mod : Mod X.K X.mg X.base
 kind : X.env.scope.kind = .function
 glob : X.env.globals = mainGlobals
 blt : X.env.builtins = builtinsNs
 above : X.s₀.heap.objs.size <= X.env.locals
 inj : ∀ x y c,X.env.cells.lookup x = some c -> X.env.cells.lookup y = some c -> x = y
 has : ∀ x,(X.env.kindOf x = some .cell \/ X.env.kindOf x = some .free) -> ∃ c,X.env.cells.lookup x = some c
 cab : ∀ x c,X.fn x = true -> X.env.cells.lookup x = some c -> X.s₀.heap.objs.size <= c
 hd : X.calm = true -> X.A.handled = none
 frames : X.A.frames = some X.stack
 stk : X.stack = X.outer \/ (X.stack = X.env :: X.outer /\ X.env.frame = some X.env.locals)
 exf : ∀ b ∈ X.ex,b ≠ X.env.locals /\ ∀ x c,X.env.cells.lookup x = some c -> c ≠ b
 bs : ∀ b o,X.base.get? b = some o -> X.s₀.heap.get? b = some o /\ X.H₀ b = none
 bsz : X.base.objs.size <= X.s₀.heap.objs.size
 noex : ∀ b o,X.base.get? b = some o -> b ∉ X.ex
 exfs : ∀ b ∈ X.ex,b ∉ X.fs
 funs : X.s₀.heap.FunFrames X.base X.outer
 frf : ∀ b ∈ X.fs,X.H₀ b = none
structure Inv (X : Cx) (pins : List (Addr × Obj)) (σ : List (Option V)) (H : Hp) (s : Shared) : Prop where
 ok : X.Ok
 os : s.os = X.s₀.os
 bare : AllBare s.gens
 base : Un X.fs X.ex X.H₀ H X.s₀.heap s.heap
 loc : ∃ m,s.heap.Ns X.env.locals m /\ ∀ (i : Nat) (x : Str) (v : V),X.N[i]? = some x -> σ[i]? = some (some v) -> Vis X.env.scope x -> ∃ u,zaQ v u /\ ztu X.env s.heap m x u
 cell : ∀ x c,X.env.cells.lookup x = some c -> ∃ v,s.heap.IsCell c v
 free : H X.env.locals = none
 freeC : ∀ x c,X.env.cells.lookup x = some c -> H c = none
 pin : ∀ p ∈ X.pn ++ pins,s.heap.get? p.1 = some p.2 /\ H p.1 = none /\ p.1 ≠ X.env.locals /\ p.1 ∉ X.fs /\ ∀ v,p.2.data ≠ .cell v
 hok : HOk X.prog X.w H s.heap
 len : σ.length = X.N.length
section
variable {X : Cx} {pins : List (Addr × Obj)} {σ : List (Option V)} {H H' : Hp} {s : Shared} {h' : Heap}
theorem Cx.Ok.nofr (ok : X.Ok) {b : Addr} {o : Obj} (e : X.base.get? b = some o) : b ∉ X.fs:=λ hb=>by
 have:=(ok.funs.mem hb).1;rw [e] at this; cases this
theorem Inv.bs (I : Inv X pins σ H s) : ∀ b o,X.base.get? b = some o -> s.heap.get? b = some o /\ H b = none:=λ b o e =>
 ⟨I.base.keep b o (I.ok.bs b o e).1 (I.ok.bs b o e).2 (I.ok.nofr e) (I.ok.noex b o e),I.base.free b o (I.ok.bs b o e).1 (I.ok.bs b o e).2 (I.ok.noex b o e)⟩
theorem Inv.bk (I : Inv X pins σ H s) : ∀ b o,X.base.get? b = some o -> s.heap.get? b = some o:=λ b o e=>(I.bs b o e).1
theorem Inv.mod (I : Inv X pins σ H s) : Mod X.K X.mg X.base:=I.ok.mod
theorem Inv.kIn (I : Inv X pins σ H s) : X.K.In s.heap:=I.ok.mod.kin.keeps I.bk
theorem Inv.lt (I : Inv X pins σ H s) : X.env.locals < s.heap.objs.size:=let ⟨_,hn,_⟩:=I.loc; hn.lt
theorem Inv.sz (I : Inv X pins σ H s) : X.s₀.heap.objs.size <= s.heap.objs.size:=wV I.ok.above (WD I.lt)
theorem Inv.nofs (I : Inv X pins σ H s) {a : Addr} (h : s.heap.objs.size <= a) : a ∉ X.fs:=λ hb=>by
 obtain ⟨_,o,ho,_⟩:=I.ok.funs.mem hb;exact absurd (wL (wk ho) (wV I.sz h)) (W0 _)
theorem Inv.cne (I : Inv X pins σ H s) : ∀ x c,X.env.cells.lookup x = some c -> c ≠ X.env.locals:=λ x c e z=>by
 obtain ⟨v,o,ho,hd⟩:=I.cell x c e;obtain ⟨m,⟨o',es,ep,ho',hd',_⟩,_⟩:=I.loc;rw [z,ho'] at ho; cases ho; rw [hd'] at hd; cases hd
theorem Inv.funs (I : Inv X pins σ H s) : s.heap.FunFrames X.base X.outer:=by
 have all : ∀ (l : List Env),(∀ b ∈ frs l,b ∈ X.fs) -> X.s₀.heap.FunFrames X.base l -> s.heap.FunFrames X.base l:=by
   intro l
   induction l with
   | nil=>intro _ _; trivial
   | cons env r ih =>
     intro hs hl;obtain ⟨hk,⟨L,o,hf,hn,ho,hd⟩,hr⟩:=hl;have hL : L ∈ X.fs:=hs L (by unfold frs; rw [Vl,hf]; exact wO);obtain ⟨sl,e⟩:=I.base.slot L o ho (I.ok.frf L hL) hL λ z=>I.ok.exfs L z hL
     exact ⟨hk,⟨L,_,hf,hn,e,hd⟩,ih (λ b hb=>hs b (by unfold frs; rw [Vl,hf]; exact wI _ hb)) hr⟩
 exact all X.outer (λ _ hb=>hb) I.ok.funs
theorem Inv.stack (I : Inv X pins σ H s) : s.heap.FunFrames X.base X.stack:=by
 rcases I.ok.stk with e | ⟨e,hf⟩
 . rw [e]; exact I.funs
 . rw [e]
   obtain ⟨m,hn,_⟩:=I.loc;refine .cons (by rw [I.ok.kind]; decide) hf hn ?_ I.funs;exact Heap.get?_none_of_le (wV I.ok.bsz I.ok.above)
theorem Inv.stkSub (I : Inv X pins σ H s) : ∀ b ∈ frs X.stack,b ∈ X.env.locals :: X.fs:=λ b hb=>by
 rcases I.ok.stk with e | ⟨e,hf⟩
 . rw [e] at hb; exact wI _ hb
 . rw [e] at hb
   unfold frs at hb;rw [Vl,hf] at hb;exact hb
theorem Inv.stkFree (I : Inv X pins σ H s) : ∀ b ∈ frs X.stack,H b = none:=λ b hb=>by
 rcases wm.mp (I.stkSub b hb) with e | hb
 . rw [e]; exact I.free
 . obtain ⟨_,o,ho,_⟩:=I.ok.funs.mem hb
   exact I.base.free b o ho (I.ok.frf b hb) λ z=>I.ok.exfs b z hb
theorem Inv.step {g' : Array GenState} {t' : Nat} {d' : Drawn} {ch : List Addr} (I : Inv X pins σ H s)
   (hch : ∀ b ∈ ch,(b ∈ X.ex \/ X.s₀.heap.objs.size <= b) /\ b ≠ X.env.locals /\ (∀ x c,X.env.cells.lookup x = some c -> c ≠ b) /\ ∀ p ∈ X.pn ++ pins,p.1 ≠ b)
   (keep : ∀ b o,b ≠ X.env.locals -> b ∉ X.fs -> b ∉ ch -> s.heap.get? b = some o -> H b = none -> h'.get? b = some o)
   (slot : ∀ b o,b ≠ X.env.locals -> b ∈ X.fs -> b ∉ ch -> s.heap.get? b = some o -> H b = none -> ∃ sl,h'.get? b = some { o with slots:=sl }) (free : ∀ b o,b ∉ ch -> s.heap.get? b = some o -> H b = none -> H' b = none)
   (there : ∀ b o,b ∉ ch -> s.heap.get? b = some o -> ∃ o',h'.get? b = some o')
   (tups : ∀ b xs,H b = some (.tup xs) -> H' b = some (.tup xs)) (frzs : ∀ b o u,H b = some (.frz o u) -> H' b = some (.frz o u)) (tbls : ∀ b ps,H b = some (.tbl ps) -> ∃ more,H' b = some (.tbl (ps ++ more)))
   (ns : ∀ m,s.heap.Ns X.env.locals m -> h'.Ns X.env.locals m) (hok : HOk X.prog X.w H' h') (hg : AllBare g') :
   Inv X pins σ H' { s with heap:=h',gens:=g',drawn:=d',toks:=t' }:=by
 have neL : ∀ b o,X.s₀.heap.get? b = some o -> b ≠ X.env.locals:=λ b o e=>wF (wL (wk e) I.ok.above)
 have neC : ∀ b o,X.s₀.heap.get? b = some o -> b ∉ X.ex -> b ∉ ch:=λ b o e hx hb=>by
   rcases (hch b hb).1 with z | z
   . exact hx z
   . exact absurd (wL (wk e) z) (W0 _)
 have cellK : ∀ x c,X.env.cells.lookup x = some c -> ∀ v,s.heap.IsCell c v -> h'.IsCell c v:=λ x c e v ⟨o,ho,hd⟩=>by
   have nch : c ∉ ch:=λ z=>(hch c z).2.2.1 x c e rfl
   by_cases hc : c ∈ X.fs
   . obtain ⟨sl,q⟩:=slot c o (I.cne x c e) hc nch ho (I.freeC x c e)
     exact ⟨_,q,hd⟩
   . exact ⟨o,keep c o (I.cne x c e) hc nch ho (I.freeC x c e),hd⟩
 refine ⟨I.ok,I.os,hg,⟨λ b o e n hb hx=>?_,λ b o e n hb hx=>?_,λ b o e n hx=>?_,λ b o e hx=>?_,λ b xs e=>tups b xs (I.base.tups b xs e),λ b o xs e=>frzs b o xs (I.base.frzs b o xs e),λ b ps e=>?_⟩,?_,λ x c e=>?_,?_,λ x c e=>?_,λ p hp=>?_,hok,I.len⟩
 . exact keep b o (neL b o e) hb (neC b o e hx) (I.base.keep b o e n hb hx) (I.base.free b o e n hx)
 . obtain ⟨sl,e1⟩:=I.base.slot b o e n hb hx
   obtain ⟨sl',e2⟩:=slot b _ (neL b o e) hb (neC b o e hx) e1 (I.base.free b o e n hx);exact ⟨sl',e2⟩
 . obtain ⟨o',e1⟩:=I.base.there b o e hx
   exact free b o' (neC b o e hx) e1 (I.base.free b o e n hx)
 . obtain ⟨o',e1⟩:=I.base.there b o e hx
   exact there b o' (neC b o e hx) e1
 . obtain ⟨m1,e1⟩:=I.base.tbls b ps e
   obtain ⟨m2,e2⟩:=tbls b _ e1;exact ⟨m1 ++ m2,by rw [e2,Qi]⟩
 . obtain ⟨m,hn,hl⟩:=I.loc
   refine ⟨m,ns m hn,λ i x v e1 e2 e3=>?_⟩;obtain ⟨u,r,l⟩:=hl i x v e1 e2 e3;refine ⟨u,r,?_⟩;rcases l with l | ⟨k,c,e,z⟩
   . exact .inl l
   . exact .inr ⟨k,c,e,cellK x c e _ z⟩
 . obtain ⟨v,z⟩:=I.cell x c e
   exact ⟨v,cellK x c e v z⟩
 . obtain ⟨m,⟨o,_,_,ho,_⟩,_⟩:=I.loc
   exact free _ o (λ z=>(hch _ z).2.1 rfl) ho I.free
 . obtain ⟨v,o,ho,hd⟩:=I.cell x c e
   exact free c o (λ z=>(hch c z).2.2.1 x c e rfl) ho (I.freeC x c e)
 . obtain ⟨e,n,ne,nf,d⟩:=I.pin p hp
   have nch : p.1 ∉ ch:=λ z=>(hch p.1 z).2.2.2 p hp rfl
   exact ⟨keep p.1 p.2 ne nf nch e n,free p.1 p.2 nch e n,ne,nf,d⟩
theorem Inv.un {t' : Nat} (I : Inv X pins σ H s) (u : Un X.fs [] H H' s.heap h') (hok : HOk X.prog X.w H' h') : Inv X pins σ H' { s with heap:=h',toks:=t' }:=by
 obtain ⟨m,⟨o,es,ep,ho,r⟩,_⟩:=id I.loc;obtain ⟨sl,hL⟩:=u.any ho I.free (by simp)
 exact I.step (g':=s.gens) (d':=s.drawn) (ch:=[]) (λ _ z=>nomatch z) (λ b o _ hb _ e n=>u.keep b o e n hb (by simp)) (λ b o _ hb _ e n=>u.slot b o e n hb (by simp)) (λ b o _ e n=>u.free b o e n (by simp)) (λ b o _ e=>u.there b o e (by simp)) u.tups u.frzs u.tbls (λ m' hm=>by
   obtain ⟨o',es',ep',ho',r'⟩:=hm;rw [ho] at ho'; cases ho';exact ⟨_,es',ep',hL,r'⟩) hok I.bare
theorem Inv.call {g' : Array GenState} {t' : Nat} {d' : Drawn} {ch : List Addr} (I : Inv X pins σ H s) (u : Un (frs X.stack) ch H H' s.heap h') (hok : HOk X.prog X.w H' h') (hg : AllBare g')
   (hch : ∀ b ∈ ch,(b ∈ X.ex \/ X.s₀.heap.objs.size <= b) /\ b ≠ X.env.locals /\ (∀ x c,X.env.cells.lookup x = some c -> c ≠ b) /\ ∀ p ∈ X.pn ++ pins,p.1 ≠ b) :
   Inv X pins σ H' { s with heap:=h',gens:=g',drawn:=d',toks:=t' }:=by
 obtain ⟨m,⟨o,es,ep,ho,r⟩,_⟩:=id I.loc;obtain ⟨sl,hL⟩:=u.any ho I.free λ z=>(hch _ z).2.1 rfl
 exact I.step (ch:=ch) hch (λ b o hL hb hc e n=>u.keep b o e n (λ z=>(wm.mp (I.stkSub b z)).elim hL hb) hc) (λ b o _ _ hc e n=>u.any e n hc) (λ b o hc e n=>u.free b o e n hc) (λ b o hc e=>u.there b o e hc) u.tups u.frzs u.tbls (λ m' hm=>by
   obtain ⟨o',es',ep',ho',r'⟩:=hm;rw [ho] at ho'; cases ho';exact ⟨_,es',ep',hL,r'⟩) hok hg
theorem Inv.turned {t' : Nat} {it : Addr} (I : Inv X pins σ H s) (k : ∀ b o,b ≠ it -> s.heap.get? b = some o -> h'.get? b = some o) (hn : H it = none) (hL : it ≠ X.env.locals)
   (h1 : it ∈ X.ex \/ X.s₀.heap.objs.size <= it) (h2 : ∀ x c,X.env.cells.lookup x = some c -> c ≠ it) (h3 : ∀ p ∈ X.pn ++ pins,p.1 ≠ it) : Inv X pins σ H { s with heap:=h',toks:=t' }:=by
 have nit : ∀ b u,H b = some u -> b ≠ it:=λ b u e z=>by rw [z,hn] at e; cases e
 refine I.step (g':=s.gens) (d':=s.drawn) (ch:=[it]) (λ b hb=>?_) (λ b o _ _ hc e _=>k b o (λ z=>hc (by simp [z])) e) (λ b o _ _ hc e _=>⟨o.slots,k b o (λ z=>hc (by simp [z])) e⟩) (λ _ _ _ _ n=>n)
   (λ b o hc e=>⟨o,k b o (λ z=>hc (by simp [z])) e⟩) (λ _ _ e=>e) (λ _ _ _ e=>e) (λ b ps e=>⟨#[],by rw [e]; simp⟩) (λ m hm=>?_) (λ b u e=>?_) I.bare
 . have e : b = it:=by simpa using hb
   subst e;exact ⟨h1,hL,h2,h3⟩
 . obtain ⟨o,es,ep,ho,r⟩:=hm
   exact ⟨o,es,ep,k _ o (vH hL) ho,r⟩
 . refine (I.hok b u e).stay (λ c v hc q=>k c v ?_ q) (λ _ q=>q) λ _ _ q=>q
   rcases hc with z | z
   . rw [z]; exact nit b u e
   . exact nit c _ z
theorem Inv.tok (I : Inv X pins σ H s) (t : Nat) : Inv X pins σ H { s with toks:=t }:=I.un (h':=s.heap) (t':=t) Un.refl I.hok
theorem Inv.kept {t' : Nat} (I : Inv X pins σ H s) (k : ∀ b u,s.heap.get? b = some u -> h'.get? b = some u) : Inv X pins σ H { s with heap:=h',toks:=t' }:=I.un (Un.kept k) (I.hok.kept k)
theorem Inv.laid {a : Addr} {o : HO} {t' : Nat} (I : Inv X pins σ H s) (k : ∀ b u,s.heap.get? b = some u -> h'.get? b = some u) (hp : s.heap.objs.size <= a) (new : za9 X.prog X.w (upd H a o) h' a o) :
   Inv X pins σ (upd H a o) { s with heap:=h',toks:=t' }:=I.un (Un.laid k hp (I.hok.fresh hp)) (I.hok.laid k hp new)
theorem Inv.write {x e : Addr} {o : HO} {t' : Nat} (I : Inv X pins σ H s) (mu : Mut (H x)) (he : e = x \/ H e = some (.own x)) (k : ∀ b u,b ≠ e -> s.heap.get? b = some u -> h'.get? b = some u) (heo : ∃ u,h'.get? e = some u)
   (new : za9 X.prog X.w (upd H x o) h' x o) : Inv X pins σ (upd H x o) { s with heap:=h',toks:=t' }:=I.un (Un.write mu he k heo) (I.hok.write mu he k heo new)
theorem Inv.pins_of {pins' : List (Addr × Obj)} (I : Inv X pins σ H s) (h : ∀ p ∈ pins',s.heap.get? p.1 = some p.2 /\ H p.1 = none /\ p.1 ≠ X.env.locals /\ p.1 ∉ X.fs /\ ∀ v,p.2.data ≠ .cell v) : Inv X pins' σ H s :=
 ⟨I.ok,I.os,I.bare,I.base,I.loc,I.cell,I.free,I.freeC,λ p hp=>(wJ.mp hp).elim (λ z=>I.pin p (vF _ z)) (h p),I.hok,I.len⟩
theorem zkj {N : List Str} (hN : N.Nodup) {i j : Nat} {x : Str} (a : N[i]? = some x) (b : N[j]? = some x) : i = j:=by
 obtain ⟨h1,e1⟩:=vV.mp a;obtain ⟨h2,e2⟩:=vV.mp b;exact (List.getElem_inj hN).mp (e1.trans e2.symm)
theorem zh4 {M : Model} {A : Around} {E : Value -> Shared -> Prop} {i : Nat} {x : Str} {v : V} {u : Value} {Q : Unit -> Shared -> Prop} (I : Inv X pins σ H s) (hN : X.N.Nodup) (hi : X.N[i]? = some x) (hx : Loc X.env.scope x) (r : zaQ v u)
   (h : ∀ s',Inv X pins (σ.set i (some v)) H s' -> (∃ a,vg a s.heap s'.heap /\ (a = X.env.locals \/ X.env.cells.lookup x = some a)) -> Q () s') (hf : X.fn x = true \/ X.env.scope.names.lookup x = some .local:=by first | exact .inl rfl | exact .inr rfl | assumption) : wpAny M A (storeName X.env x u) Q E s:=by
 obtain ⟨m,hn,hl⟩:=id I.loc;have hcls : (X.env.scope.kind == .class || (X.env.scope.kind == .module && X.env.locals != X.env.globals)) = false:=by rw [I.ok.kind]; rfl
 have hiσ : i < σ.length:=by rw [I.len]; exact (vV.mp hi).1
 have cne:=I.cne
 have tracked : ∀ {a : Addr} {h' : Heap},(∃ o,s.heap.get? a = some o /\ H a = none) -> vg a s.heap h' -> HOk X.prog X.w H h':=λ {a h'} ha hs b ob e=>by
   obtain ⟨_,_,hfree⟩:=ha;refine (I.hok b ob e).stay (λ c w' hc q=>(hs.2 c ?_).trans q) (λ _ q=>q) λ _ _ q=>q
   rintro rfl;rcases hc with rfl | hc
   . rw [hfree] at e; cases e
   . rw [hfree] at hc; cases hc
 rcases hx with hk | hk
 . refine wpAny_storeName_local hk hn (λ h' hn' hs=>?_) hcls
   obtain ⟨oL,_,_,hoL,_⟩:=id hn;refine h _ ⟨I.ok,I.os,I.bare,⟨λ b o e n hb hx=>?_,λ b o e n hb hx=>?_,I.base.free,λ b o e hx=>?_,I.base.tups,I.base.frzs,I.base.tbls⟩,⟨_,hn',λ j y v' e1 e2 e3=>?_⟩,λ y c e=>?_,I.free,I.freeC,λ p hp=>?_,tracked ⟨oL,hoL,I.free⟩ hs,by simpa using I.len⟩ ⟨_,hs,.inl rfl⟩
   . exact (hs.2 b (wF (wL (wk e) I.ok.above))).trans (I.base.keep b o e n hb hx)
   . obtain ⟨sl,e1⟩:=I.base.slot b o e n hb hx
     exact ⟨sl,(hs.2 b (wF (wL (wk e) I.ok.above))).trans e1⟩
   . obtain ⟨o',e1⟩:=I.base.there b o e hx
     exact ⟨o',(hs.2 b (wF (wL (wk e) I.ok.above))).trans e1⟩
   . by_cases hj : j = i
     . subst hj
       rw [hi] at e1; cases e1;rw [qD hiσ] at e2;cases e2;exact ⟨u,r,.inl ⟨hk,by simp⟩⟩
     . rw [qQ (vH hj)] at e2
       obtain ⟨u',r',q⟩:=hl j y v' e1 e2 e3;refine ⟨u',r',?_⟩;rcases q with ⟨k,e⟩ | ⟨k,c,e,z⟩
       . refine .inl ⟨k,?_⟩
         have : y ≠ x:=λ e=>hj (zkj hN e1 (e ▸ hi))
         simp [this,e]
       . exact .inr ⟨k,c,e,z.sameBut hs (cne y c e)⟩
   . obtain ⟨w',z⟩:=I.cell y c e
     exact ⟨w',z.sameBut hs (cne y c e)⟩
   . obtain ⟨e,n,ne,nf,d⟩:=I.pin p hp
     exact ⟨(hs.2 p.1 ne).trans e,n,ne,nf,d⟩
 . have hfn : X.fn x = true:=by
     rcases hf with z | z
     . exact z
     . rw [z] at hk; cases hk
   obtain ⟨c,hc⟩:=I.ok.has x (.inl hk);obtain ⟨w',z⟩:=I.cell x c hc;refine wpAny_storeName_cell I.ok.kind hk hc z (λ h' hc' hs=>?_);obtain ⟨oc,hoc,hocd⟩:=id z;refine h { s with heap:=h' } ⟨I.ok,I.os,I.bare,⟨λ b o e n hb hx=>?_,λ b o e n hb hx=>?_,I.base.free,λ b o e hx=>?_,I.base.tups,I.base.frzs,I.base.tbls⟩,⟨m,hn.sameBut hs (vH (cne x c hc)),λ j y v' e1 e2 e3=>?_⟩,λ y c' e=>?_,I.free,I.freeC,λ p hp=>?_,tracked ⟨oc,hoc,I.freeC x c hc⟩ hs,by simpa using I.len⟩ ⟨c,hs,.inr hc⟩
   . exact (hs.2 b (wF (wL (wk e) (I.ok.cab x c hfn hc)))).trans (I.base.keep b o e n hb hx)
   . obtain ⟨sl,e1⟩:=I.base.slot b o e n hb hx
     exact ⟨sl,(hs.2 b (wF (wL (wk e) (I.ok.cab x c hfn hc)))).trans e1⟩
   . obtain ⟨o',e1⟩:=I.base.there b o e hx
     exact ⟨o',(hs.2 b (wF (wL (wk e) (I.ok.cab x c hfn hc)))).trans e1⟩
   . by_cases hj : j = i
     . subst hj
       rw [hi] at e1; cases e1;rw [qD hiσ] at e2;cases e2;exact ⟨u,r,.inr ⟨.inl hk,c,hc,hc'⟩⟩
     . rw [qQ (vH hj)] at e2
       obtain ⟨u',r',q⟩:=hl j y v' e1 e2 e3;refine ⟨u',r',?_⟩;rcases q with q | ⟨k,c',e,z'⟩
       . exact .inl q
       . refine .inr ⟨k,c',e,z'.sameBut hs ?_⟩
         rintro rfl;exact hj (zkj hN e1 (I.ok.inj _ _ _ e hc ▸ hi))
   . by_cases hcc : c' = c
     . subst hcc; exact ⟨_,hc'⟩
     . obtain ⟨w2,z2⟩:=I.cell y c' e
       exact ⟨w2,z2.sameBut hs hcc⟩
   . obtain ⟨e,n,ne,nf,d⟩:=I.pin p hp
     refine ⟨(hs.2 p.1 ?_).trans e,n,ne,nf,d⟩;intro q;rw [q,hoc] at e;have q' : oc = p.2:=wH e;exact d w' (by rw [<- q']; exact hocd)
theorem zeB {M : Model} {A : Around} {E : Value -> Shared -> Prop} {i : Nat} {x : Str} {v : V} {u : Value} {Q : Unit -> Shared -> Prop} (I : Inv X pins σ H s) (hN : X.N.Nodup) (hi : X.N[i]? = some x) (hx : Loc X.env.scope x) (r : zaQ v u)
   (h : ∀ s',Inv X pins (σ.set i (some v)) H s' -> Q () s') (hf : X.fn x = true \/ X.env.scope.names.lookup x = some .local:=by first | exact .inl rfl | exact .inr rfl | assumption) : wpAny M A (storeName X.env x u) Q E s :=
 zh4 I hN hi hx r (λ s' I' _=>h s' I') hf
theorem Inv.call' {s' : Shared} {ch : List Addr} (I : Inv X pins σ H s) (ho : s'.os = s.os) (u : Un (frs X.stack) ch H H' s.heap s'.heap) (hok : HOk X.prog X.w H' s'.heap) (hg : AllBare s'.gens)
   (hch : ∀ b ∈ ch,(b ∈ X.ex \/ X.s₀.heap.objs.size <= b) /\ b ≠ X.env.locals /\ (∀ x c,X.env.cells.lookup x = some c -> c ≠ b) /\ ∀ p ∈ X.pn ++ pins,p.1 ≠ b) : Inv X pins σ H' s':=by
 obtain ⟨h',g',d',t',o'⟩:=s';have e : o' = s.os:=ho;subst e;exact I.call (g':=g') (t':=t') (d':=d') u hok hg hch
end
abbrev XK:=Value -> Option Addr -> Hp -> Prop
abbrev St:=List (Option V)
abbrev VK:=V -> Hp -> Prop
abbrev TE:=St -> Hp -> VK -> Prop
abbrev TT:=St -> Hp -> (Bool -> Hp -> Prop) -> Prop
abbrev TA:=St -> Hp -> (List V -> Hp -> Prop) -> Prop
structure zcc where
 nx : St -> Hp -> Prop
 rt : VK
 bk : St -> Hp -> Prop:=λ _ _=>False
 ct : St -> Hp -> Prop:=λ _ _=>False
abbrev TS:=zcc -> St -> Hp -> Prop
def EP (X : Cx) (pins : List (Addr × Obj)) (σ : St) (Q : VK) (u : Value) (s' : Shared) : Prop:=∃ v H',Inv X pins σ H' s' /\ zaQ v u /\ Q v H'
def TP (X : Cx) (pins : List (Addr × Obj)) (σ : St) (Q : Bool -> Hp -> Prop) (b : Bool) (s' : Shared) : Prop:=∃ H',Inv X pins σ H' s' /\ Q b H'
def AP (X : Cx) (pins : List (Addr × Obj)) (σ : St) (Q : List V -> Hp -> Prop) (us : List Value) (s' : Shared) : Prop:=∃ vs H',Inv X pins σ H' s' /\ zaG vs us /\ Q vs H'
def SP (X : Cx) (pins : List (Addr × Obj)) (D : zcc) (f : Flow) (s' : Shared) : Prop :=
 match f with
 | .next=>∃ σ' H',Inv X pins σ' H' s' /\ D.nx σ' H'
 | .brk=>∃ σ' H',Inv X pins σ' H' s' /\ D.bk σ' H'
 | .cont=>∃ σ' H',Inv X pins σ' H' s' /\ D.ct σ' H'
 | .ret u=>∃ v σ' H',Inv X pins σ' H' s' /\ zaQ v u /\ D.rt v H'
def PE (X : Cx) (e : Expr) (t : TE) : Prop :=
 ∀ (pins : List (Addr × Obj)) (s : Shared) (σ : St) (H : Hp) (Q : VK),Inv X pins σ H s -> t σ H Q -> wpAny (model X.prog X.w) X.A (eval e X.env) (EP X pins σ Q) X.xe s
def PT (X : Cx) (e : Expr) (t : TT) : Prop :=
 ∀ (pins : List (Addr × Obj)) (s : Shared) (σ : St) (H : Hp) (Q : Bool -> Hp -> Prop),Inv X pins σ H s -> t σ H Q -> wpAny (model X.prog X.w) X.A (isTrue e X.env (eval e X.env)) (TP X pins σ Q) X.xe s
def PW (X : Cx) (e : Expr) (t : TT) : Prop :=
 ∀ (whole : Sem Value) (pins : List (Addr × Obj)) (s : Shared) (σ : St) (H : Hp) (Q : Bool -> Hp -> Prop),Inv X pins σ H s -> t σ H Q -> wpAny (model X.prog X.w) X.A (isTrue e X.env whole) (TP X pins σ Q) X.xe s
theorem PW.pt {X : Cx} {e : Expr} {t : TT} (h : PW X e t) : PT X e t:=h _
def PA (X : Cx) (es : List Expr) (t : TA) : Prop :=
 ∀ (pos : Pos) (pins : List (Addr × Obj)) (s : Shared) (σ : St) (H : Hp) (Q : List V -> Hp -> Prop),Inv X pins σ H s -> t σ H Q -> wpAny (model X.prog X.w) X.A (spliced (backTo pos (starEach es X.env))) (AP X pins σ Q) X.xe s
def PS (X : Cx) (st : Stmt) (t : TS) : Prop :=
 ∀ (pins : List (Addr × Obj)) (s : Shared) (σ : St) (H : Hp) (D : zcc),Inv X pins σ H s -> t D σ H -> wpAny (model X.prog X.w) X.A (exec st X.env) (SP X pins D) X.xe s
def PSs (X : Cx) (st : List Stmt) (t : TS) : Prop :=
 ∀ (pins : List (Addr × Obj)) (s : Shared) (σ : St) (H : Hp) (D : zcc),Inv X pins σ H s -> t D σ H -> wpAny (model X.prog X.w) X.A (execs st X.env) (SP X pins D) X.xe s
theorem thn {α : Type} {t : Sem α} {Q Q' : α -> Shared -> Prop} {M : Model} {A : Around} {E : Value -> Shared -> Prop} {s : Shared} (h : wpAny M A t Q E s) (hQ : ∀ a s,Q a s -> Q' a s) : wpAny M A t Q' E s:=wpAny_mono h hQ λ _ _ x=>x
section
variable {X : Cx}
def zjh (i : Nat) : TE:=λ σ H Q=>∃ v,σ[i]? = some (some v) /\ Q v H
def tC (v : V) : TE:=λ _ H Q=>Q v H
theorem zr4 {i : Nat} {x : Str} {pos : Pos} (hN : X.N[i]? = some x) (hv : Vis X.env.scope x) (hd : (x == ("__debug__" : Str)) = false:=by decide) (hcd : (x == ("__classdict__" : Str)) = false:=by decide) : PE X (.Name x pos) (zjh i):=by
 intro pins s σ H Q I h;obtain ⟨v,e,h⟩:=h;obtain ⟨m,hn,hl⟩:=I.loc;obtain ⟨u,r,l⟩:=hl i x v hN e hv;have fin : EP X pins σ Q u s:=⟨v,H,I,r,h⟩;rcases l with ⟨hk,hm⟩ | ⟨hk,c,hc,hcell⟩
 . exact wpAny_Name (wpAny_loadName_local I.ok.kind hk hn hm fin) hd
 . rcases hk with hk | hk
   . exact wpAny_Name (wpAny_loadName_cell I.ok.kind hk hc hcell fin) hd
   . exact wpAny_Name (wpAny_loadName_free I.ok.kind hk hc hcell fin hcd) hd
theorem zad {i j pos} : PE X (.Constant (.int i) j pos) (tC (.int i)):=λ _ _ _ H _ I h=>wpAny_Constant_int ⟨.int i,H,I.tok _,⟨_,rfl⟩,h⟩
theorem zdq {b j pos} : PE X (.Constant (.bool b) j pos) (tC (.bl b)):=λ _ _ _ H _ I h=>Constant_bool ⟨.bl b,H,I,rfl,h⟩
theorem zkG {j pos} : PE X (.Constant .none j pos) (tC .non):=λ _ _ _ H _ I h=>Constant_none ⟨.non,H,I,rfl,h⟩
theorem ziT {x j pos} : PE X (.Constant (.str x) j pos) (tC (.str x)):=λ _ _ _ H _ I h=>Calls.Constant_str ⟨.str x,H,I.tok _,⟨_,rfl⟩,h⟩
def Gl (X : Cx) (x : Str) : Prop:=X.env.kindOf x = some .globalImplicit
theorem ziM {E : Value -> Shared -> Prop} {pins : List (Addr × Obj)} {s : Shared} {σ : St} {H : Hp} {x : Str} {u : Value} {pos : Pos} {Q : Value -> Shared -> Prop} (I : Inv X pins σ H s) (hg : Gl X x) (hm : X.mg x = some u) (h : Q u s)
   (hd : (x == ("__debug__" : Str)) = false:=by decide) : wpAny (model X.prog X.w) X.A (eval (.Name x pos) X.env) Q E s :=
 V7 I.ok.kind hg (Calls.loadGlobal_global (by rw [I.ok.glob]; exact I.mod.glob.keeps I.bk) hm h) hd
theorem zdi {E : Value -> Shared -> Prop} {pins : List (Addr × Obj)} {s : Shared} {σ : St} {H : Hp} {x : Str} {u : Value} {pos : Pos} {Q : Value -> Shared -> Prop} (I : Inv X pins σ H s) (hg : Gl X x) (hm : X.mg x = none) (hv : bootBuiltins x = some u) (h : Q u s)
   (hn : x ≠ "__name__":=by decide) (hd : (x == ("__debug__" : Str)) = false:=by decide) : wpAny (model X.prog X.w) X.A (eval (.Name x pos) X.env) Q E s:=by
 obtain ⟨mb,h1,h2⟩:=I.mod.blt;exact V7 I.ok.kind hg (Calls.loadGlobal_builtin (by rw [I.ok.glob]; exact I.mod.glob.keeps I.bk) hm (by rw [I.ok.blt]; exact h1.keeps I.bk) ((h2 x hn).trans hv) h) hd
theorem zqd {x : Str} {v : V} {u : Value} {pos : Pos} (hg : Gl X x) (hm : X.mg x = some u) (r : zaQ v u) (hd : (x == ("__debug__" : Str)) = false:=by decide) : PE X (.Name x pos) (tC v) :=
 λ _ _ _ H _ I h=>ziM I hg hm ⟨v,H,I,r,h⟩ hd
theorem zfv {x : Str} {v : V} {u : Value} {pos : Pos} (hg : Gl X x) (hm : X.mg x = none) (hv : bootBuiltins x = some u) (r : zaQ v u) (hn : x ≠ "__name__":=by decide) (hd : (x == ("__debug__" : Str)) = false:=by decide) : PE X (.Name x pos) (tC v) :=
 λ _ _ _ H _ I h=>zdi I hg hm hv ⟨v,H,I,r,h⟩ hn hd
def t2I (ta tb : TE) (k : Int -> Int -> Hp -> Prop) : St -> Hp -> Prop:=λ σ H=>ta σ H λ x H1=>tb σ H1 λ y H2=>∃ i j,x = .int i /\ y = .int j /\ k i j H2
variable {a b : Expr} {ta tb : TE} {pos : Pos}
def PC (X : Cx) (op : CmpOp) (a b : Expr) (t : TE) : Prop :=
 ∀ (pins : List (Addr × Obj)) (s : Shared) (σ : St) (H : Hp) (Q : VK),Inv X pins σ H s -> t σ H Q ->
   wpAny (model X.prog X.w) X.A (eval a X.env) (λ v s₁=>wpAny (model X.prog X.w) X.A (eval b X.env) (λ u s₂=>wpAny (model X.prog X.w) X.A (compareOp op v u) (EP X pins σ Q) X.xe s₂) X.xe s₁) X.xe s
theorem zny (b : Expr) {op : CmpOp} (h : op ≠ .In) (h2 : op ≠ .NotIn) : behindInMarks op b = false:=by
 have e1 : (op == CmpOp.In) = false:=by cases op <;> first | rfl | exact absurd rfl h
 have e2 : (op == CmpOp.NotIn) = false:=by cases op <;> first | rfl | exact absurd rfl h2
 cases b <;> simp [behindInMarks,e1,e2]
def zmt (p : Int -> Int -> Bool) (ta tb : TE) : TE:=λ σ H Q=>t2I ta tb (λ i j H2=>Q (.bl (p i j)) H2) σ H
abbrev tLt : TE -> TE -> TE:=zmt λ i j=>decide (i < j)
abbrev tLe : TE -> TE -> TE:=zmt λ i j=>decide (i <= j)
abbrev tGt : TE -> TE -> TE:=zmt λ i j=>decide (j < i)
abbrev tGe : TE -> TE -> TE:=zmt λ i j=>decide (j <= i)
abbrev ztT : TE -> TE -> TE:=zmt λ i j=>decide (i = j)
abbrev ztQ : TE -> TE -> TE:=zmt λ i j=>!decide (i = j)
def tB (t : TE) : TT:=λ σ H Q=>t σ H λ x H1=>∃ c,x = .bl c /\ Q c H1
theorem zpg {op : CmpOp} {t : TE} (h : PC X op a b t) (h1 : behindInMarks op b = false:=by first | exact zny _ (by decide) (by decide) | rfl) : PT X (.Compare a [op] [b] pos) (tB t):=by
 intro pins s σ H Q I hw;refine wpAny_isTrue_Compare1 (thn (h pins s σ H _ I hw) λ v s1 h1=>thn h1 λ u s2 h2=>thn h2 λ c s3 ⟨x,H1,I1,r1,q1⟩=>?_) h1;obtain ⟨d,rfl,q⟩:=q1;cases r1;exact wpAny_truthy_bool ⟨H1,I1,q⟩
theorem zcY {e : Expr} {t : TE} (h : PE X e t) (he : ∀ whole,isTrue e X.env whole = (do let v <- whole; standAt e.pos; holding [v] (truthy v)):=by intro _; rfl) : PT X e (tB t):=by
 intro pins s σ H Q I hw;refine isTrue_plain (thn (h pins s σ H _ I hw) λ v s1 ⟨x,H1,I1,r1,q1⟩=>?_) (he _);obtain ⟨d,rfl,q⟩:=q1;cases r1;exact wpAny_truthy_bool ⟨H1,I1,q⟩
variable {tA tB' : TT} {rest : List Expr}
def zsF (t u : TT) : TT:=λ σ H Q=>t σ H λ c H1=>if c = true then u σ H1 Q else Q false H1
def tOr (t u : TT) : TT:=λ σ H Q=>t σ H λ c H1=>if c = true then Q true H1 else u σ H1 Q
def zsD (t : TT) : TT:=λ σ H Q=>t σ H λ c H1=>Q (!c) H1
theorem zd5 (ha : PT X a tA) : PW X (.BoolOp .And [a] pos) tA:=by
 intro wh pins s σ H Q I h;refine isTrue_and (thn (ha pins s σ H Q I h) λ c s1 e=>?_);cases c with
 | true=>exact isTrue_and_nil e
 | false=>exact e
theorem zgS (ha : PT X a tA) : PW X (.BoolOp .Or [a] pos) tA:=by
 intro wh pins s σ H Q I h;refine isTrue_or (thn (ha pins s σ H Q I h) λ c s1 e=>?_);cases c with
 | false=>exact isTrue_or_nil e
 | true=>exact e
theorem zeF (ha : PT X a tA) (hb : PW X (.BoolOp .And (b :: rest) pos) tB') : PW X (.BoolOp .And (a :: b :: rest) pos) (zsF tA tB'):=by
 intro wh pins s σ H Q I h;refine isTrue_and (thn (ha pins s σ H _ I h) λ c s1 ⟨H1,I1,q1⟩=>?_);cases c with
 | true=>exact hb wh pins s1 σ H1 Q I1 q1
 | false=>exact ⟨H1,I1,q1⟩
theorem zhO (ha : PT X a tA) (hb : PW X (.BoolOp .Or (b :: rest) pos) tB') : PW X (.BoolOp .Or (a :: b :: rest) pos) (tOr tA tB'):=by
 intro wh pins s σ H Q I h;refine isTrue_or (thn (ha pins s σ H _ I h) λ c s1 ⟨H1,I1,q1⟩=>?_);cases c with
 | true=>exact ⟨H1,I1,q1⟩
 | false=>exact hb wh pins s1 σ H1 Q I1 q1
theorem zcW (ha : PT X a tA) : PT X (.UnaryOp .Not a pos) (zsD tA):=by
 intro pins s σ H Q I h;exact isTrue_not (ha pins s σ H (λ c H1=>Q (!c) H1) I h)
def zrc (ta tb : TE) : TE:=λ σ H Q=>ta σ H λ x H1=>∃ c,x = .bl c /\ if c = true then tb σ H1 Q else Q (.bl false) H1
def zqM (ta : TE) : TE:=λ σ H Q=>ta σ H λ x H1=>∃ c,x = .bl c /\ Q (.bl (!c)) H1
theorem zff {op} {t : TE} (h : PE X a t) : PE X (.BoolOp op [a] pos) t:=λ pins s σ H Q I hw=>BoolOp_one (h pins s σ H Q I hw)
theorem zfh (ha : PE X a ta) (hb : PE X (.BoolOp .And (b :: rest) pos) tb) : PE X (.BoolOp .And (a :: b :: rest) pos) (zrc ta tb):=by
 intro pins s σ H Q I h;refine BoolOp_and (thn (ha pins s σ H _ I h) λ v s1 ⟨x,H1,I1,r1,q1⟩=>?_);obtain ⟨c,rfl,q1⟩:=q1;cases r1;refine wpAny_truthy_bool ?_;cases c with
 | true=>exact hb pins s1 σ H1 Q I1 q1
 | false=>exact ⟨.bl false,H1,I1,rfl,q1⟩
theorem zrY (ha : PE X a ta) : PE X (.UnaryOp .Not a pos) (zqM ta):=by
 intro pins s σ H Q I h;refine UnaryOp_ (thn (ha pins s σ H _ I h) λ v s1 ⟨x,H1,I1,r1,q1⟩=>?_);obtain ⟨c,rfl,q1⟩:=q1;cases r1;exact not_of (wpAny_truthy_bool ⟨.bl (!c),H1,I1,rfl,q1⟩)
def tIf (t : TT) (ta tb : TE) : TE:=λ σ H Q=>t σ H λ c H1=>if c = true then ta σ H1 Q else tb σ H1 Q
theorem znw {c : Expr} (hc : PT X c tA) (ha : PE X a ta) (hb : PE X b tb) : PE X (.IfExp c a b pos) (tIf tA ta tb):=by
 intro pins s σ H Q I h;refine wpAny_IfExp (thn (hc pins s σ H _ I h) λ d s1 ⟨H1,I1,q1⟩=>?_);cases d with
 | true=>exact ha pins s1 σ H1 Q I1 q1
 | false=>exact hb pins s1 σ H1 Q I1 q1
end
def SqL (K : wa) (H : Hp) (a : Addr) (xs : List V) : Prop :=
 Rd H a (.lst xs) \/
   ∃ (o : Obj) (its : Array Value) (n : Nat),K.lookup a = some o /\ o.cls = .type "list" /\ o.dict = none /\ o.data = .seq its n /\ its.size <= sizeLine /\ zaG xs its.toList
def SqT (K : wa) (H : Hp) (a : Addr) (xs : List V) : Prop :=
 Rd H a (.tup xs) \/
   ∃ (o : Obj) (its : Array Value) (n : Nat),K.lookup a = some o /\ o.cls = .type "tuple" /\ o.data = .seq its n /\ its.size <= sizeLine /\ zaG xs its.toList
def ztB : Value -> Option V
 | .none=>some .non
 | .bool b=>some (.bl b)
 | .int i _=>some (.int i)
 | .str x _=>some (.str x)
 | .bytes b _=>some (.byt b)
 | .float b _=>some (.flt b)
 | .ref a=>some (.ref a)
 | .type n=>some (.ty n)
 | _=>none
theorem zaQ.abs {x : V} {u : Value} (r : zaQ x u) : ztB u = some x:=by
 cases x with
 | non=>cases r; rfl
 | bl _=>cases r; rfl
 | int _=>obtain ⟨t,rfl⟩:=r; rfl
 | str _=>obtain ⟨t,rfl⟩:=r; rfl
 | byt _=>obtain ⟨t,rfl⟩:=r; rfl
 | flt _=>obtain ⟨t,rfl⟩:=r; rfl
 | ref _=>cases r; rfl
 | ty _=>cases r; rfl
theorem zaQ.inj {x y : V} {u : Value} (r : zaQ x u) (q : zaQ y u) : x = y:=wH (r.abs.symm.trans q.abs)
theorem zaG.inj : ∀ {xs ys : List V} {us : List Value},zaG xs us -> zaG ys us -> xs = ys
 | _,_,_,.nil,.nil=>rfl
 | _,_,_,.cons r t,.cons r' t'=>by rw [r.inj r',zaG.inj t t']
section
variable {X : Cx} {pins : List (Addr × Obj)} {σ : St} {H : Hp} {s : Shared} {a : Addr} {xs ys : List V}
theorem SqL.of {K : wa} (h : H a = some (.lst xs)) : SqL K H a xs:=.inl (.inl h)
theorem SqT.of {K : wa} (h : H a = some (.tup xs)) : SqT K H a xs:=.inl (.inl h)
theorem Inv.list (I : Inv X pins σ H s) (h : SqL X.K H a xs) : ∃ its : List Value,zaG xs its /\ PlainL s.heap a its.toArray /\ xs.length <= sizeLine:=by
 rcases h with h | ⟨o,its,n,hk,hc,hd,hs,hz,r⟩
 . obtain ⟨z,its,n,r,e⟩:=h.ok I.hok
   exact ⟨its,r,⟨_,n,e,rfl,rfl,rfl⟩,z⟩
 . refine ⟨its.toList,r,⟨o,n,I.kIn a o hk,hc,hd,by simpa using hs⟩,?_⟩
   have e:=r.length;simp only [wu] at e;omega
theorem Inv.tuple (I : Inv X pins σ H s) (h : SqT X.K H a xs) : ∃ its : List Value,zaG xs its /\ IsTup s.heap a its.toArray /\ xs.length <= sizeLine:=by
 rcases h with h | ⟨o,its,n,hk,hc,hs,hz,r⟩
 . obtain ⟨z,its,r,p⟩:=h.ok I.hok
   exact ⟨its,r,p,z⟩
 . refine ⟨its.toList,r,⟨o,I.kIn a o hk,hc,n,by simpa using hs⟩,?_⟩
   have e:=r.length;simp only [wu] at e;omega
theorem Inv.list_inj (I : Inv X pins σ H s) (h : SqL X.K H a xs) (h' : SqL X.K H a ys) : xs = ys:=by
 obtain ⟨its,r,⟨o,n,e,_,_,d⟩,_⟩:=I.list h;obtain ⟨its',r',⟨o',n',e',_,_,d'⟩,_⟩:=I.list h';rw [e] at e'; cases e';rw [d] at d'
 injection d' with d1 _
 have : its = its':=by simpa using congrArg xX d1
 subst this;exact r.inj r'
theorem Inv.tuple_inj (I : Inv X pins σ H s) (h : SqT X.K H a xs) (h' : SqT X.K H a ys) : xs = ys:=by
 obtain ⟨its,r,⟨o,e,_,n,d⟩,_⟩:=I.tuple h;obtain ⟨its',r',⟨o',e',_,n',d'⟩,_⟩:=I.tuple h';rw [e] at e'; cases e';rw [d] at d'
 injection d' with d1 _
 have : its = its':=by simpa using congrArg xX d1
 subst this;exact r.inj r'
end
abbrev Cx.wish (X : Cx) (E : Value -> Shared -> Prop) : Cx:={ X with xe:=E }
abbrev Cx.nox (X : Cx) : Cx:=X.wish λ _ _=>False
theorem Cx.Ok.wish {X : Cx} (ok : X.Ok) (E : Value -> Shared -> Prop) : (X.wish E).Ok :=
 ⟨ok.mod,ok.kind,ok.glob,ok.blt,ok.above,ok.inj,ok.has,ok.cab,ok.hd,ok.frames,ok.stk,ok.exf,ok.bs,ok.bsz,ok.noex,ok.exfs,ok.funs,ok.frf⟩
theorem Cx.Ok.unwish {X : Cx} {E : Value -> Shared -> Prop} (ok : (X.wish E).Ok) : X.Ok :=
 ⟨ok.mod,ok.kind,ok.glob,ok.blt,ok.above,ok.inj,ok.has,ok.cab,ok.hd,ok.frames,ok.stk,ok.exf,ok.bs,ok.bsz,ok.noex,ok.exfs,ok.funs,ok.frf⟩
section
variable {X : Cx} {pins : List (Addr × Obj)} {σ : St} {H : Hp} {s : Shared} {E : Value -> Shared -> Prop}
theorem Inv.wish (I : Inv X pins σ H s) (E : Value -> Shared -> Prop) : Inv (X.wish E) pins σ H s:=⟨I.ok.wish E,I.os,I.bare,I.base,I.loc,I.cell,I.free,I.freeC,I.pin,I.hok,I.len⟩
theorem Inv.unwish (I : Inv (X.wish E) pins σ H s) : Inv X pins σ H s:=⟨I.ok.unwish,I.os,I.bare,I.base,I.loc,I.cell,I.free,I.freeC,I.pin,I.hok,I.len⟩
theorem SP.unwish {D : zcc} {f : Flow} {s' : Shared} (h : SP (X.wish E) pins D f s') : SP X pins D f s':=by
 cases f with
 | next=>obtain ⟨σ',H',I,q⟩:=h; exact ⟨σ',H',I.unwish,q⟩
 | brk=>obtain ⟨σ',H',I,q⟩:=h; exact ⟨σ',H',I.unwish,q⟩
 | cont=>obtain ⟨σ',H',I,q⟩:=h; exact ⟨σ',H',I.unwish,q⟩
 | ret u=>obtain ⟨v,σ',H',I,r,q⟩:=h; exact ⟨v,σ',H',I.unwish,r,q⟩
theorem PSs.nox {st : List Stmt} {t : TS} (h : PSs X.nox st t) : PSs X st t:=λ pins s σ H D I hw =>
 wpAny_mono (h pins s σ H D (I.wish _) hw) (λ _ _ q=>q.unwish) λ _ _ z=>WN z
end
section
variable {X : Cx} {st : Stmt} {rest : List Stmt} {t u : TS} {e : Expr} {te : TE} {pos : Pos}
def zqY : TS:=λ D σ H=>D.nx σ H
def zo5 (t u : TS) : TS:=λ D σ H=>t { D with nx:=u D } σ H
theorem zaL : PSs X [] zqY:=λ _ _ σ H _ I h=>wpAny_execs_nil ⟨σ,H,I,h⟩
theorem zac (h1 : PS X st t) (h2 : PSs X rest u) : PSs X (st :: rest) (zo5 t u):=by
 intro pins s σ H D I h;refine wpAny_execs_cons (thn (h1 pins s σ H { D with nx:=u D } I h) λ f s1 q=>?_);cases f with
 | next =>
   obtain ⟨σ',H',I',q⟩:=q;exact h2 pins s1 σ' H' D I' q
 | ret v=>exact q
 | brk=>exact q
 | cont=>exact q
theorem zaf (h1 : PS X st t) : PSs X [st] t:=by
 intro pins s σ H D I h;refine wpAny_execs_cons (thn (h1 pins s σ H D I h) λ f s1 q=>?_);cases f with
 | next=>exact wpAny_execs_nil q
 | ret v=>exact q
 | brk=>exact q
 | cont=>exact q
theorem Inv.quiet {pins : List (Addr × Obj)} {σ : St} {H : Hp} {s : Shared} (I : Inv X pins σ H s) : interactive X.env = false:=by simp [interactive,I.ok.kind]
def zq6 (te : TE) : TS:=λ D σ H=>te σ H λ _ H1=>D.nx σ H1
theorem zdw (he : PE X e te) (hs : swapsWith e none pos.line X.env = pure false:=by rfl) : PS X (.Expr e pos) (zq6 te):=by
 intro pins s σ H D I h;exact wpAny_Expr_any (thn (he pins s σ H _ I h) λ v s1 ⟨x,H1,I1,r1,q1⟩=>⟨σ,H1,I1,q1⟩) I.quiet hs
def zsT (te : TE) : TS:=λ D σ H=>te σ H D.rt
theorem zas (he : PE X e te) : PS X (.Return (some e) pos) (zsT te):=by
 intro pins s σ H D I h;exact wpAny_Return_some (thn (he pins s σ H _ I h) λ v s1 ⟨x,H1,I1,r1,q1⟩=>⟨x,σ,H1,I1,r1,q1⟩)
def ztl (c : TT) (t u : TS) : TS:=λ D σ H=>c σ H λ b H1=>if b = true then t D σ H1 else u D σ H1
theorem zbm {c : Expr} {a b : List Stmt} {tc : TT} (hc : PT X c tc) (ha : PSs X a t) (hb : PSs X b u) : PS X (.If c a b pos) (ztl tc t u):=by
 intro pins s σ H D I h;refine wpAny_If (thn (hc pins s σ H _ I h) λ d s1 ⟨H1,I1,q1⟩=>?_);cases d with
 | true=>exact ha pins s1 σ H1 D I1 q1
 | false=>exact hb pins s1 σ H1 D I1 q1
end
abbrev TG:=V -> St -> Hp -> (St -> Hp -> Prop) -> Prop
abbrev TGs:=List V -> St -> Hp -> (St -> Hp -> Prop) -> Prop
def PG (X : Cx) (target : Expr) (t : TG) : Prop :=
 ∀ (pins : List (Addr × Obj)) (s : Shared) (σ : St) (H : Hp) (v : V) (u : Value) (Q : St -> Hp -> Prop),Inv X pins σ H s -> zaQ v u -> t v σ H Q ->
   wpAny (model X.prog X.w) X.A (assign target X.env u) (λ _ s'=>∃ σ' H',Inv X pins σ' H' s' /\ Q σ' H') X.xe s
def PGs (X : Cx) (ts : List Expr) (t : TGs) : Prop :=
 ∀ (pins : List (Addr × Obj)) (s : Shared) (σ : St) (H : Hp) (vs : List V) (us : List Value) (Q : St -> Hp -> Prop),Inv X pins σ H s -> zaG vs us -> t vs σ H Q ->
   wpAny (model X.prog X.w) X.A (assignInOrder ((assignEach ts X.env).map (·.2)) us) (λ _ s'=>∃ σ' H',Inv X pins σ' H' s' /\ Q σ' H') X.xe s
abbrev zqD:=V -> V -> V -> Hp -> (Hp -> Prop) -> Prop
def zsL (X : Cx) (t : zqD) : Prop :=
 ∀ (pins : List (Addr × Obj)) (s : Shared) (σ : St) (H : Hp) (o i v : V) (ov iv u : Value) (Q : Hp -> Prop),Inv X pins σ H s -> zaQ o ov -> zaQ i iv -> zaQ v u -> t o i v H Q ->
   wpAny (model X.prog X.w) X.A (setItem ov iv u) (λ _ s'=>∃ H',Inv X pins σ H' s' /\ Q H') X.xe s
abbrev TIp:=V -> V -> Hp -> VK -> Prop
def PIp (X : Cx) (op : Operator) (t : TIp) : Prop :=
 ∀ (pins : List (Addr × Obj)) (s : Shared) (σ : St) (H : Hp) (x y : V) (v u : Value) (Q : VK),Inv X pins σ H s -> zaQ x v -> zaQ y u -> t x y H Q ->
   wpAny (model X.prog X.w) X.A (inplaceOp op v u) (EP X pins σ Q) X.xe s
section
variable {X : Cx} {pos : Pos}
def zeY (i : Nat) : TG:=λ v σ H Q=>Q (σ.set i (some v)) H
theorem zan {i : Nat} {x : Str} (hN : X.N.Nodup) (hi : X.N[i]? = some x) (hx : Loc X.env.scope x) (hf : X.fn x = true \/ X.env.scope.names.lookup x = some .local:=by first | exact .inl rfl | exact .inr rfl | assumption) : PG X (.Name x pos) (zeY i):=by
 intro pins s σ H v u Q I r h;exact wpAny_assign_Name (zeB I hN hi hx r (λ s' I'=>⟨_,H,I',h⟩) hf)
def zsK : TGs:=λ vs σ H Q=>vs = [] /\ Q σ H
def zrf (t : TG) (u : TGs) : TGs:=λ vs σ H Q=>∃ v r,vs = v :: r /\ t v σ H λ σ' H'=>u r σ' H' Q
theorem zcf : PGs X [] zsK:=by
 intro pins s σ H vs us Q I r h;obtain ⟨e,h⟩:=h;subst e;cases r;exact assignInOrder_nil ⟨σ,H,I,h⟩
theorem zaJ {e : Expr} {es : List Expr} {t : TG} {u : TGs} (h1 : PG X e t) (h2 : PGs X es u)
   (hs : (assignEach (e :: es) X.env).map (·.2) = assign e X.env :: (assignEach es X.env).map (·.2):=by rfl) : PGs X (e :: es) (zrf t u):=by
 intro pins s σ H vs us Q I r h;obtain ⟨v,vr,e1,h⟩:=h;subst e1;cases r with
 | cons r rr =>
   rw [hs];refine assignInOrder_cons (thn (h1 pins s σ H _ _ _ I r h) λ _ s1 ⟨σ1,H1,I1,q1⟩=>?_);exact h2 pins s1 σ1 H1 _ _ Q I1 rr q1
def zmp (K : wa) (n : Nat) (t : TGs) : TG:=λ v σ H Q=>∃ a xs,v = .ref a /\ SqT K H a xs /\ xs.length = n /\ t xs σ H Q
theorem zcZ {es : List Expr} {k : Nat} {t : TGs} {n : Nat} (hc : X.calm = true) (h : PGs X es t)
   (hn : (assignEach es X.env).length = n:=by rfl) (hst : (assignEach es X.env).findIdx? (·.1) = none:=by rfl) : PG X (.Tuple es k pos) (zmp X.K n t):=by
 intro pins s σ H v u Q I r hw;obtain ⟨a,xs,e1,hq,hl,hw⟩:=hw;subst e1;cases r;obtain ⟨its,rv,ht,hz⟩:=I.tuple hq;refine assign_Tuple_tuple (I.ok.hd hc) ht (by simp [hn,<- hl,rv.length]) hst λ h' hx=>?_
 have I1 : Inv X pins σ H { s with heap:=h' }:=I.kept (t':=s.toks) λ b o e=>hx b o (wF (wk e)) e
 exact h pins _ σ H xs _ Q I1 (by simpa using rv) hw
def zs5 (to ti : TE) (t : zqD) : TG:=λ v σ H Q=>to σ H λ o H1=>ti σ H1 λ i H2=>t o i v H2 λ H3=>Q σ H3
theorem zd9 {o i : Expr} {to ti : TE} {t : zqD} (ho : PE X o to) (hi : PE X i ti) (hs : zsL X t)
   (ha : ∀ v,assign (.Subscript o i pos) X.env v = (do
     let ov <- holding [v] (eval o X.env)
     let iv <- holding [v,ov] (eval i X.env)
     standAt pos
     holding [v,ov,iv] (setItem ov iv v)
     release [v,ov,iv] []):=by intro _; rfl) : PG X (.Subscript o i pos) (zs5 to ti t):=by
 intro pins s σ H v u Q I r h;rw [ha];refine wpAny_bind (wpAny_holding (thn (ho pins s σ H _ I h) λ ov s1 ⟨x,H1,I1,r1,q1⟩=>?_));refine wpAny_bind (wpAny_holding (thn (hi pins s1 σ H1 _ I1 q1) λ iv s2 ⟨y,H2,I2,r2,q2⟩=>?_));refine wpAny_bind (wpAny_standAt (wpAny_bind (wpAny_holding (thn (hs pins s2 σ H2 x y v ov iv u _ I2 r1 r2 r q2) λ _ s3 ⟨H3,I3,q3⟩=>?_))));exact wpAny_release ⟨σ,H3,I3,q3⟩
def zo1 (te : TE) (g : TG) : TS:=λ D σ H=>te σ H λ x H1=>g x σ H1 D.nx
theorem zeD {tg e : Expr} {te : TE} {g : TG} (he : PE X e te) (hg : PG X tg g) (hs : swapsWithSole [tg] e pos.line X.env = pure false:=by rfl) (hw : swappedStores [tg] e X.env = pure none:=by rfl)
   (h1 : (assignEach [tg] X.env).map (·.2) = [assign tg X.env]:=by rfl) : PS X (.Assign [tg] e pos) (zo1 te g):=by
 intro pins s σ H D I h;refine wpAny_Assign_stores (thn (he pins s σ H _ I h) λ v s1 ⟨x,H1,I1,r1,q1⟩=>?_) hs hw;rw [h1];exact thn (hg pins s1 σ H1 x v _ I1 r1 q1) λ _ s2 q=>q
theorem zam {i : Nat} {x : Str} {e : Expr} {te : TE} {pos' : Pos} (hN : X.N.Nodup) (hi : X.N[i]? = some x) (hx : Loc X.env.scope x) (he : PE X e te) (hs : swapsWith e (some (.Name x pos')) pos.line X.env = pure false:=by rfl) (hf : X.fn x = true \/ X.env.scope.names.lookup x = some .local:=by first | exact .inl rfl | exact .inr rfl | assumption) :
   PS X (.Assign [.Name x pos'] e pos) (zo1 te (zeY i)):=by
 intro pins s σ H D I h;refine wpAny_Assign_Name (thn (he pins s σ H _ I h) λ v s1 ⟨y,H1,I1,r1,q1⟩=>?_) hs;exact zeB I1 hN hi hx r1 (λ s2 I2=>⟨_,H1,I2,q1⟩) hf
def zs1 (i j : Nat) (ta : TA) : TS:=λ D σ H=>ta σ H λ vs H1=>∃ v w,vs = [v,w] /\ D.nx ((σ.set i (some v)).set j (some w)) H1
theorem zsk {i j : Nat} {x y : Str} {a b : Expr} {ta : TA} {px py pt : Pos} {kt k2 pt2} (hc : X.calm = true) (hN : X.N.Nodup) (hi : X.N[i]? = some x) (hj : X.N[j]? = some y) (hij : i ≠ j)
   (hx : X.env.scope.names.lookup x = some .local) (hy : X.env.scope.names.lookup y = some .local) (ha : PA X [a,b] ta)
   (hw : swappedStores [.Tuple [.Name x px,.Name y py] kt pt] (.Tuple [a,b] k2 pt2) X.env = pure (some [x,y]))
   (hs : swapsWithSole [.Tuple [.Name x px,.Name y py] kt pt] (.Tuple [a,b] k2 pt2) pos.line X.env = pure false:=by rfl) :
   PS X (.Assign [.Tuple [.Name x px,.Name y py] kt pt] (.Tuple [a,b] k2 pt2) pos) (zs1 i j ta):=by
 intro pins s σ H D I h;rw [exec_Assign_arm];refine wpAny_bind (wpAny_standAt ?_);rw [hs];refine wpAny_bind (wpAny_pure ?_);rw [if_neg (by decide)];refine wpAny_bind (Tuple_ (thn (ha _ pins s σ H _ I h) λ us s1 ⟨vs,H1,I1,r1,q1⟩=>?_));obtain ⟨v,w,e1,q1⟩:=q1;subst e1
 obtain ⟨u1,u2,rfl,rv,rw'⟩ : ∃ u1 u2,us = [u1,u2] /\ zaQ v u1 /\ zaQ w u2:=by
   cases r1 with
   | cons p q =>
     cases q with
     | cons p' q' =>
       cases q';exact ⟨_,_,rfl,p,p'⟩
 refine wpAny_newObj_type ?_ (by show 2 <= sizeLine; decide);have I2 : Inv X pins σ H1 { s1 with heap:=s1.heap.push { cls:=.type "tuple",data:=.seq [u1,u2].toArray } }:=I1.kept (t':=s1.toks) λ b o e=>wb _ e
 rw [hw];refine wpAny_bind (wpAny_pure ?_)
 show wpAny (model X.prog X.w) X.A (do rule "assign.swapped-stores"; let items <- unpackItems (.ref s1.heap.objs.size) 2 none; assignInOrder [λ v=>bindName X.env y v,λ v=>bindName X.env x v] items.reverse; pure Flow.next) _ _ _
 refine wpAny_bind (wpAny_rule (wpAny_bind (unpackItems_tuple (items:=#[u1,u2]) (I.ok.hd hc) (Vg s1.heap _) λ h' hx'=>?_)));have I3:=I2.kept (h':=h') (t':=s1.toks) λ b o e=>hx' b o (wF (wk e)) e
 show wpAny _ _ (assignInOrder [λ v=>bindName X.env y v,λ v=>bindName X.env x v] [u2,u1] >>= λ _=>pure Flow.next) _ _ _
 refine wpAny_bind (assignInOrder_cons (wpAny_bindName (zeB I3 hN hj (.inl hy) rw' (λ s2 I4=>?_) (.inr hy))));refine assignInOrder_cons (wpAny_bindName (zeB I4 hN hi (.inl hx) rv (λ s3 I5=>assignInOrder_nil (wpAny_pure ?_)) (.inr hx)));rw [List.set_comm _ _ (vH hij)] at I5;exact ⟨_,H1,I5,q1⟩
def zs7 (i : Nat) (te : TE) (ti : TIp) : TS:=λ D σ H=>∃ x,σ[i]? = some (some x) /\ te σ H λ y H1=>ti x y H1 λ z H2=>D.nx (σ.set i (some z)) H2
theorem zsu {i : Nat} {x : Str} {e : Expr} {te : TE} {op : Operator} {ti : TIp} {pos' : Pos} (hN : X.N.Nodup) (hi : X.N[i]? = some x) (hx : Loc X.env.scope x) (he : PE X e te) (ho : PIp X op ti) (hf : X.fn x = true \/ X.env.scope.names.lookup x = some .local:=by first | exact .inl rfl | exact .inr rfl | assumption) :
   PS X (.AugAssign (.Name x pos') op e pos) (zs7 i te ti):=by
 intro pins s σ H D I h;obtain ⟨v,e1,h⟩:=h;obtain ⟨m,hn,hl⟩:=I.loc;have vis : Vis X.env.scope x:=by rcases hx with k | k; exact .inl k; exact .inr (.inl k)
 obtain ⟨u,r,l⟩:=hl i x v hi e1 vis;refine wpAny_AugAssign_Name ?_
 have go : wpAny (model X.prog X.w) X.A (eval e X.env) (λ w s₂=>wpAny (model X.prog X.w) X.A (inplaceOp op u w) (λ r s₃=>wpAny (model X.prog X.w) X.A (storeName X.env x r) (λ _=>SP X pins D .next) X.xe s₃) X.xe s₂) X.xe s:=by
   refine thn (he pins s σ H _ I h) λ w s1 ⟨y,H1,I1,r1,q1⟩=>?_
   refine thn (ho pins s1 σ H1 v y u w _ I1 r r1 q1) λ z s2 ⟨zv,H2,I2,r2,q2⟩=>?_
   exact zeB I2 hN hi hx r2 (λ s3 I3=>⟨_,H2,I3,q2⟩) hf
 rcases l with ⟨hk,hm⟩ | ⟨hk,c,hc,hcell⟩
 . exact wpAny_loadName_local I.ok.kind hk hn hm go
 . rcases hk with hk | hk
   . exact wpAny_loadName_cell I.ok.kind hk hc hcell go
   . rcases hx with k | k
     . have : X.env.scope.names.lookup x = some .free:=hk
       rw [k] at this; cases this
     . have : X.env.scope.names.lookup x = some .free:=hk
       rw [k] at this; cases this
def ipI (f : Int -> Int -> Int) : TIp:=λ x y H Q=>∃ i j,x = .int i /\ y = .int j /\ Q (.int (f i j)) H
theorem zrp : PIp X .Add (ipI λ i j=>i + j):=by
 intro pins s σ H x y v u Q I r1 r2 h;obtain ⟨i,j,e1,e2,q⟩:=h;subst e1; subst e2;obtain ⟨t,rfl⟩:=r1;obtain ⟨t',rfl⟩:=r2;exact iadd_int ⟨.int _,H,I.tok _,⟨_,rfl⟩,q⟩
end
section
variable {X : Cx} {pos : Pos}
def znh (c : TT) (tb : TS) : TS:=λ D σ H=>∃ W : Nat -> St -> Hp -> Prop,(∃ m,W m σ H) /\ ∀ m σ H,W m σ H ->
 c σ H λ b H1=>if b = true then ∃ N : St -> Hp -> Prop,(∀ σ' H',N σ' H' -> ∃ m',m' < m /\ W m' σ' H') /\ tb { D with nx:=N,ct:=N,bk:=D.nx } σ H1 else D.nx σ H1
theorem zfl {c : Expr} {body : List Stmt} {tc : TT} {tb : TS} (hp : PassesOwn (model X.prog X.w) X.A X.env X.xe) (hc : PT X c tc) (hb : PSs X body tb) : PS X (.While c body [] pos) (znh tc tb):=by
 intro pins s σ H D I h;obtain ⟨W,⟨m0,w0⟩,turn⟩:=h;refine wpAny_While (codeAny_whileLoop (λ n s'=>∃ σ' H',Inv X pins σ' H' s' /\ W n σ' H') ?_ m0 ⟨σ,H,I,w0⟩);rintro n s1 ⟨σ1,H1,I1,w1⟩;refine wpAny_passesOwn hp (thn (hc pins s1 σ1 H1 _ I1 (turn n σ1 H1 w1)) λ b s2 ⟨H2,I2,q2⟩=>?_);cases b with
 | true =>
   obtain ⟨N,hN,q2⟩:=q2;rw [if_pos rfl];refine wpAny_passesOwn hp (thn (hb pins s2 σ1 H2 _ I2 q2) λ f s3 q3=>?_);cases f with
   | next =>
     obtain ⟨σ3,H3,I3,n3⟩:=q3;obtain ⟨m',hm,w3⟩:=hN σ3 H3 n3;exact ⟨m',hm,σ3,H3,I3,w3⟩
   | cont =>
     obtain ⟨σ3,H3,I3,n3⟩:=q3;obtain ⟨m',hm,w3⟩:=hN σ3 H3 n3;exact ⟨m',hm,σ3,H3,I3,w3⟩
   | brk=>exact q3
   | ret v=>exact q3
 | false =>
   rw [if_neg vo];exact wpAny_execs_nil ⟨σ1,H2,I2,q2⟩
end
structure It where
 go : Nat -> Hp -> Prop
 yld : Nat -> Hp -> V -> Hp -> Prop
 stop : Nat -> Hp -> Prop
def zdR (X : Cx) (pins : List (Addr × Obj)) (H : Hp) (b : Addr) : Prop :=
 H b = none /\ b ≠ X.env.locals /\ b ∉ X.fs /\ (b ∈ X.ex \/ X.s₀.heap.objs.size <= b) /\ (∀ x c,X.env.cells.lookup x = some c -> c ≠ b) /\ ∀ p ∈ X.pn ++ pins,p.1 ≠ b
theorem Inv.fpOk {X : Cx} {pins : List (Addr × Obj)} {σ : St} {H H' : Hp} {s : Shared} {b : Addr} (I : Inv X pins σ H s) (hb : s.heap.objs.size <= b) (hn : H' b = none) : zdR X pins H' b:=by
 refine ⟨hn,vi (wL I.lt hb),I.nofs hb,.inr (wV I.sz hb),λ x c e z=>?_,λ p hp z=>?_⟩
 . obtain ⟨v,q⟩:=I.cell x c e
   exact absurd (wL q.lt (by rw [z]; exact hb)) (W0 _)
 . exact absurd (wL (wk (I.pin p hp).1) (by rw [z]; exact hb)) (W0 _)
structure zhu (P : Program) (w : World) (K : wa) (tg : Expr) (J : It) (fp : List Addr) (it : Addr) (tn : Nat -> Heap -> Prop) : Prop where
 mem : it ∈ fp
 obj : ∀ i h,tn i h -> ∀ b ∈ fp,∃ o,h.get? b = some o /\ ∀ v,o.data ≠ .cell v
 keep : ∀ i h h',tn i h -> (∀ b ∈ fp,∀ o,h.get? b = some o -> h'.get? b = some o) -> tn i h'
 item : ∀ (X : Cx),X.prog = P -> X.w = w -> X.K = K -> X.calm = true -> ∀ (i : Nat) (pins : List (Addr × Obj)) (s : Shared) (σ : St) (H : Hp) (E : Value -> Shared -> Prop),Inv X pins σ H s -> (∀ b ∈ fp,zdR X pins H b) -> tn i s.heap -> J.go i H ->
   wpAny (model P w) X.A (pyNext (.ref it)) (λ r s1=>∃ u,r = some u /\
     wpAny (model P w) X.A (letOwnedTupleGo tg (.ref it) u) (λ _ s2=>∃ x H',Inv X pins σ H' s2 /\ zaQ x u /\ J.yld i H x H' /\ tn (i + 1) s2.heap /\ ∀ b ∈ fp,H' b = none) E s1) E s
 done : ∀ (X : Cx),X.prog = P -> X.w = w -> X.K = K -> X.calm = true -> ∀ (i : Nat) (pins : List (Addr × Obj)) (s : Shared) (σ : St) (H : Hp) (E : Value -> Shared -> Prop),Inv X pins σ H s -> (∀ b ∈ fp,zdR X pins H b) -> tn i s.heap -> J.stop i H ->
   wpAny (model P w) X.A (pyNext (.ref it)) (λ r s1=>r = none /\ Inv X pins σ H s1) E s
 self : ∀ (A : Around) (i : Nat) (s : Shared) (Q : Value -> Shared -> Prop) (E : Value -> Shared -> Prop),tn i s.heap -> Q (.ref it) s -> wpAny (model P w) A (pyIter (.ref it)) Q E s
abbrev TI:=St -> Hp -> (It -> Hp -> Prop) -> Prop
def PIE (X : Cx) (pins : List (Addr × Obj)) (σ : St) (tg : Expr) (R : It -> Hp -> Prop) (itv : Value) (s2 : Shared) : Prop :=
 ∃ (it : Addr) (fp : List Addr) (tn : Nat -> Heap -> Prop) (J : It) (H' : Hp),itv = .ref it /\ Inv X pins σ H' s2 /\ zhu X.prog X.w X.K tg J fp it tn /\ tn 0 s2.heap /\ (∀ b ∈ fp,zdR X pins H' b) /\ R J H'
def PI (X : Cx) (tg iter : Expr) (wi : TI) : Prop :=
 ∀ (pins : List (Addr × Obj)) (s : Shared) (σ : St) (H : Hp) (R : It -> Hp -> Prop),Inv X pins σ H s -> wi σ H R ->
   wpAny (model X.prog X.w) X.A (eval iter X.env) (λ v s1=>wpAny (model X.prog X.w) X.A (pyIter v) (PIE X pins σ tg R) X.xe s1) X.xe s
theorem zn0 {M : Model} {A : Around} {E : Value -> Shared -> Prop} {s : Shared} {tg : Expr} {it : Addr} {u : Value} {o : Obj} {n : String} {vs : Array Value} {Q : Unit -> Shared -> Prop} (ho : s.heap.get? it = some o) (hc : o.cls = .type n) (hd : o.data = .fields vs)
   (hn : ["enumerate","zip","dict_itemiterator","dict_reverseitemiterator","odict_iterator","itertools.zip_longest","itertools.pairwise"].contains n = false) (hQ : Q () s) : wpAny M A (letOwnedTupleGo tg (.ref it) u) Q E s:=by
 unfold letOwnedTupleGo
 cases tg <;> first
   | exact wpAny_pure hQ
   | (cases u <;> first
       | exact wpAny_pure hQ
       | (refine wpAny_bind (wpAny_load ho ?_)
          rw [hc,hd]
          show wpAny M A (if (["enumerate","zip","dict_itemiterator","dict_reverseitemiterator","odict_iterator","itertools.zip_longest","itertools.pairwise"].contains n && vs[0]? == some (rawInt _)) = true then _ else _) Q E s
          rw [if_neg (by intro h; rw [hn,WQ] at h; cases h)];exact wpAny_pure hQ))
def Itl (K : wa) (a : Addr) : It :=
 ⟨λ i H=>∃ xs x,SqL K H a xs /\ xs[i]? = some x,λ i H x H'=>H' = H /\ ∀ xs,SqL K H a xs -> xs[i]? = some x,λ i H=>∃ xs,SqL K H a xs /\ xs.length <= i⟩
def Itt (K : wa) (a : Addr) : It :=
 ⟨λ i H=>∃ xs x,SqT K H a xs /\ xs[i]? = some x,λ i H x H'=>H' = H /\ ∀ xs,SqT K H a xs -> xs[i]? = some x,λ i H=>∃ xs,SqT K H a xs /\ xs.length <= i⟩
def Itr (lo : Int) (n : Nat) : It:=⟨λ i _=>i < n,λ i H x H'=>H' = H /\ x = .int (lo + i),λ i _=>n <= i⟩
theorem zin {P : Program} {w : World} {K : wa} {tg : Expr} (a it : Addr) : zhu P w K tg (Itl K a) [it] it (λ i h=>h.IsListIter it a i) where
 mem:=by simp
 obj:=λ i h st b hb=>by
   have e : b = it:=by simpa using hb
   subst e;obtain ⟨o,e,c,d⟩:=st;exact ⟨o,e,λ v z=>by rw [d] at z; cases z⟩
 keep:=λ i h h' st k=>st.at λ o e=>k it (by simp) o e
 item:=by
   intro X hP hw hK hc i pins s σ H E I hf st hg;subst hP hw hK;obtain ⟨xs,x,hq,hx⟩:=hg;obtain ⟨its,rv,p,hz⟩:=I.list hq;obtain ⟨u,hu,ru⟩:=rv.get hx;obtain ⟨f0,f1,f2,f3,f4,f5⟩:=hf it (by simp);refine wpAny_pyNext_list_item st p.isList (x:=u) (by simpa using hu) λ h' st' sb=>?_
   have I1 : Inv X pins σ H { s with heap:=h' }:=I.turned (t':=s.toks) (λ b o hb e=>(sb.2 b hb).trans e) f0 f1 f3 f4 f5;obtain ⟨o,e,c,d⟩:=id st';exact ⟨u,rfl,zn0 (s:={ s with heap:=h' }) e c d (by decide) ⟨x,H,I1,ru,⟨rfl,λ ys hy=>by rw [I.list_inj hy hq]; exact hx⟩,st',λ b hb=>(hf b hb).1⟩⟩
 done:=by
   intro X hP hw hK hc i pins s σ H E I hf st hg;subst hP hw hK;obtain ⟨xs,hq,hx⟩:=hg;obtain ⟨its,rv,p,hz⟩:=I.list hq;obtain ⟨f0,f1,f2,f3,f4,f5⟩:=hf it (by simp);have hl:=rv.length;exact wpAny_pyNext_list_end (I.ok.hd hc) st p.isList (by simp; omega) λ h' eb=>⟨rfl,I.turned (t':=s.toks) (λ b o hb e=>eb b o hb e) f0 f1 f3 f4 f5⟩
 self:=λ _ _ _ _ _ st h=>wpAny_pyIter_listiter st h
theorem zht {P : Program} {w : World} {K : wa} {tg : Expr} (a it : Addr) : zhu P w K tg (Itt K a) [it] it (λ i h=>h.IsTupleIter it a i) where
 mem:=by simp
 obj:=λ i h st b hb=>by
   have e : b = it:=by simpa using hb
   subst e;obtain ⟨o,e,c,d⟩:=st;exact ⟨o,e,λ v z=>by rw [d] at z; cases z⟩
 keep:=λ i h h' st k=>st.at λ o e=>k it (by simp) o e
 item:=by
   intro X hP hw hK hc i pins s σ H E I hf st hg;subst hP hw hK;obtain ⟨xs,x,hq,hx⟩:=hg;obtain ⟨its,rv,p,hz⟩:=I.tuple hq;obtain ⟨u,hu,ru⟩:=rv.get hx;obtain ⟨f0,f1,f2,f3,f4,f5⟩:=hf it (by simp);refine wpAny_pyNext_tuple_item st (show s.heap.IsTuple a its.toArray from p) (x:=u) (by simpa using hu) λ h' st' sb=>?_
   have I1 : Inv X pins σ H { s with heap:=h' }:=I.turned (t':=s.toks) (λ b o hb e=>(sb.2 b hb).trans e) f0 f1 f3 f4 f5;obtain ⟨o,e,c,d⟩:=id st';exact ⟨u,rfl,zn0 (s:={ s with heap:=h' }) e c d (by decide) ⟨x,H,I1,ru,⟨rfl,λ ys hy=>by rw [I.tuple_inj hy hq]; exact hx⟩,st',λ b hb=>(hf b hb).1⟩⟩
 done:=by
   intro X hP hw hK hc i pins s σ H E I hf st hg;subst hP hw hK;obtain ⟨xs,hq,hx⟩:=hg;obtain ⟨its,rv,p,hz⟩:=I.tuple hq;obtain ⟨f0,f1,f2,f3,f4,f5⟩:=hf it (by simp);have hl:=rv.length;exact wpAny_pyNext_tuple_end (I.ok.hd hc) st (show s.heap.IsTuple a its.toArray from p) (by simp; omega) λ h' eb=>⟨rfl,I.turned (t':=s.toks) (λ b o hb e=>eb b o hb e) f0 f1 f3 f4 f5⟩
 self:=λ _ _ _ _ _ st h=>wpAny_pyIter_tupleiter st h
theorem zkA {P : Program} {w : World} {K : wa} {tg : Expr} (it : Addr) (lo : Int) (n : Nat) : zhu P w K tg (Itr lo n) [it] it (λ i h=>IsRangeIter h it (lo + (i : Nat) * 1) ((n : Int) - (i : Nat)) 1) where
 mem:=by simp
 obj:=λ i h st b hb=>by
   have e : b = it:=by simpa using hb
   subst e
   exact ⟨_,st,λ v z=>by
     have z' : Data.fields _ = Data.cell v:=z;cases z'⟩
 keep:=λ i h h' st k=>k it (by simp) _ st
 item:=by
   intro X hP hw hK hc i pins s σ H E I hf st hg;subst hP hw hK;obtain ⟨f0,f1,f2,f3,f4,f5⟩:=hf it (by simp);have W:=Walks.range (prog:=X.prog) (w:=X.w) (I.ok.hd hc) it lo 1 n;refine W.item i s _ _ hg st λ v h' tk hv st' kk=>?_
   obtain ⟨t,rfl⟩:=hv;have I1 : Inv X pins σ H { s with heap:=h',toks:=tk }:=I.turned (λ b o hb e=>kk b o (by simpa using hb) e) f0 f1 f3 f4 f5;refine ⟨_,rfl,zn0 (s:={ s with heap:=h',toks:=tk }) (n:="range_iterator") st' rfl rfl (by decide) ⟨.int (lo + i),H,I1,⟨t,?_⟩,⟨rfl,rfl⟩,st',λ b hb=>(hf b hb).1⟩⟩;rw [Int.mul_one]
 done:=by
   intro X hP hw hK hc i pins s σ H E I hf st hg;subst hP hw hK;obtain ⟨f0,f1,f2,f3,f4,f5⟩:=hf it (by simp);exact wpAny_pyNext_range_end (I.ok.hd hc) st (by have : n <= i:=hg; omega) λ h' eb=>⟨rfl,I.turned (t':=s.toks) (λ b o hb e=>eb b o hb e) f0 f1 f3 f4 f5⟩
 self:=λ _ _ _ _ _ st h=>wpAny_pyIter_rangeiter st h
section
variable {X : Cx} {tg : Expr}
def zpd (K : wa) (tl : TE) : TI:=λ σ H R=>tl σ H λ x H1=>∃ a,x = .ref a /\ (∃ xs,SqL K H1 a xs) /\ R (Itl K a) H1
def zrI (K : wa) (tl : TE) : TI:=λ σ H R=>tl σ H λ x H1=>∃ a,x = .ref a /\ (∃ xs,SqT K H1 a xs) /\ R (Itt K a) H1
theorem zdt {l : Expr} {tl : TE} (hl : PE X l tl) : PI X tg l (zpd X.K tl):=by
 intro pins s σ H R I h;refine thn (hl pins s σ H _ I h) λ v s1 ⟨x,H1,I1,r1,q1⟩=>?_
 obtain ⟨a,e,⟨xs,hq⟩,q⟩:=q1;subst e;cases r1;obtain ⟨its,rv,p,hz⟩:=I1.list hq;refine wpAny_pyIter_list p.isList ?_;refine ⟨s1.heap.objs.size,[s1.heap.objs.size],_,_,H1,rfl,I1.kept (t':=s1.toks) λ b o e=>wb _ e,zin a _,⟨_,wj _ rfl,rfl,rfl⟩,λ b hb=>?_,q⟩;have e : b = s1.heap.objs.size:=by simpa using hb
 subst e;exact I1.fpOk (wg _) (I1.hok.fresh (wg _))
theorem zdJ {l : Expr} {tl : TE} (hl : PE X l tl) : PI X tg l (zrI X.K tl):=by
 intro pins s σ H R I h;refine thn (hl pins s σ H _ I h) λ v s1 ⟨x,H1,I1,r1,q1⟩=>?_
 obtain ⟨a,e,⟨xs,hq⟩,q⟩:=q1;subst e;cases r1;obtain ⟨its,rv,p,hz⟩:=I1.tuple hq;refine wpAny_pyIter_tuple (show s1.heap.IsTuple a its.toArray from p) ?_;refine ⟨s1.heap.objs.size,[s1.heap.objs.size],_,_,H1,rfl,I1.kept (t':=s1.toks) λ b o e=>wb _ e,zht a _,⟨_,wj _ rfl,rfl,rfl⟩,λ b hb=>?_,q⟩;have e : b = s1.heap.objs.size:=by simpa using hb
 subst e;exact I1.fpOk (wg _) (I1.hok.fresh (wg _))
theorem zns {pins : List (Addr × Obj)} {σ : St} {H : Hp} {s : Shared} {R : It -> Hp -> Prop} {E : Value -> Shared -> Prop} {lo hi : Int} {t u v : Tok} {tk : Nat} (I : Inv X pins σ H s) (h1 : -(2 ^ 62) <= lo) (h2 : lo < 2 ^ 62) (h3 : -(2 ^ 62) <= hi) (h4 : hi < 2 ^ 62)
   (q : R (Itr lo (hi - lo).toNat) H) : wpAny (model X.prog X.w) X.A (pyIter (.ref s.heap.objs.size)) (PIE X pins σ tg R) E { s with heap:=s.heap.push { cls:=.type "range",data:=.fields #[.int lo t,.int hi u,.int 1 v] },toks:=tk }:=by
 refine wpAny_pyIter_range (Xf ..) (small_one h1 h2 h3 h4) ?_;have I1 : Inv X pins σ H { s with heap:=s.heap.push { cls:=.type "range",data:=.fields #[.int lo t,.int hi u,.int 1 v] },toks:=tk }:=I.kept λ b o e=>wb _ e
 refine ⟨(s.heap.push { cls:=.type "range",data:=.fields #[.int lo t,.int hi u,.int 1 v] }).objs.size,[(s.heap.push { cls:=.type "range",data:=.fields #[.int lo t,.int hi u,.int 1 v] }).objs.size],_,_,H,rfl,
   I1.kept (t':=tk) λ b o e=>wb _ e,zkA _ lo (hi - lo).toNat,?_,λ b hb=>?_,q⟩
 . have e1 : lo + ((0 : Nat) : Int) * 1 = lo:=by simp
   have e2 : (((hi - lo).toNat : Nat) : Int) - ((0 : Nat) : Int) = Xe lo hi 1:=by rw [rangeSize_one]; split <;> omega
   show IsRangeIter _ _ (lo + ((0 : Nat) : Int) * 1) ((((hi - lo).toNat : Nat) : Int) - ((0 : Nat) : Int)) 1
   rw [e1,e2];exact wj _ rfl
 . have e : b = (s.heap.push { cls:=.type "range",data:=.fields #[.int lo t,.int hi u,.int 1 v] }).objs.size:=by simpa using hb
   subst e;exact I1.fpOk (wg _) (I1.hok.fresh (wg _))
def zn3 (ta : TA) : TI:=λ σ H R=>ta σ H λ vs H1=>∃ j : Int,vs = [.int j] /\ -(2 ^ 62) <= j /\ j < 2 ^ 62 /\ R (Itr 0 j.toNat) H1
theorem zbv {a : Expr} {ta : TA} {p pos : Pos} (hg : Gl X "range") (hm : X.mg "range" = none) (ha : PA X [a] ta) (hs : starEach [a] X.env = [(false,eval a X.env)]:=by rfl) : PI X tg (.Call (.Name "range" p) [a] [] pos) (zn3 ta):=by
 intro pins s σ H R I h;refine Call_ (zdi I hg hm boot_range (vC (thn (ha pos pins s σ H _ I h) λ us s1 ⟨vs,H1,I1,r1,q1⟩=>?_) hs rfl));obtain ⟨j,e,q1,q2,q⟩:=q1;subst e;cases r1 with
 | cons r rr =>
   cases rr;obtain ⟨t,rfl⟩:=r;exact call_range_1 (zns I1 (by omega) (by omega) q1 q2 (by simpa using q))
def zjQ (wi : TI) (g : TG) (tb : TS) : TS:=λ D σ H=>wi σ H λ J H1=>∃ W : Nat -> Nat -> St -> Hp -> Prop,(∃ m,W 0 m σ H1) /\ ∀ i m σ H,W i m σ H ->
 (J.stop i H /\ D.nx σ H) \/ (J.go i H /\ ∃ N : St -> Hp -> Prop,(∀ σ' H',N σ' H' -> ∃ m',m' < m /\ W (i + 1) m' σ' H') /\ ∀ x H',J.yld i H x H' -> g x σ H' λ σ2 H2=>tb { D with nx:=N,ct:=N,bk:=D.nx } σ2 H2)
def zhK (fp : List Addr) (h : Heap) : List (Addr × Obj):=fp.filterMap λ b=>(h.get? b).map λ o=>(b,o)
theorem zd6 {fp : List Addr} {h : Heap} {b : Addr} {o : Obj} (hb : b ∈ fp) (e : h.get? b = some o) : (b,o) ∈ zhK fp h:=Vo.mpr ⟨b,hb,by rw [e]; rfl⟩
theorem zmT {fp : List Addr} {h : Heap} {p : Addr × Obj} (hp : p ∈ zhK fp h) : p.1 ∈ fp /\ h.get? p.1 = some p.2:=by
 obtain ⟨b,hb,e⟩:=Vo.mp hp;cases q : h.get? b with
 | none=>rw [q] at e; cases e
 | some o =>
   rw [q] at e;have e' : (b,o) = p:=wH e;subst e';exact ⟨hb,q⟩
theorem Inv.pinned {pins : List (Addr × Obj)} {σ : St} {H : Hp} {s : Shared} {fp : List Addr} (I : Inv X pins σ H s) (hf : ∀ b ∈ fp,zdR X pins H b) (ho : ∀ b ∈ fp,∃ o,s.heap.get? b = some o /\ ∀ v,o.data ≠ .cell v) : Inv X (pins ++ zhK fp s.heap) σ H s :=
 I.pins_of λ p hp=>(wJ.mp hp).elim (λ z=>I.pin p (wM _ z)) λ z=>by
   obtain ⟨hb,e⟩:=zmT z;obtain ⟨f0,f1,f2,_⟩:=hf p.1 hb;obtain ⟨o,e',d⟩:=ho p.1 hb;rw [e] at e'; cases e';exact ⟨e,f0,f1,f2,d⟩
theorem Inv.unpinned {pins pl : List (Addr × Obj)} {σ : St} {H : Hp} {s : Shared} (I : Inv X (pins ++ pl) σ H s) : Inv X pins σ H s:=I.pins_of λ p hp=>I.pin p (wM _ (vF _ hp))
theorem zcv {iter : Expr} {body : List Stmt} {wi : TI} {g : TG} {tb : TS} {pos : Pos} (hp : PassesOwn (model X.prog X.w) X.A X.env X.xe) (hc : X.calm = true) (hi : PI X tg iter wi) (hg : PG X tg g) (hb : PSs X body tb)
   (hs : ∀ x,foldedSetIterable iter X.env x = pure x:=by intro _; rfl) : PS X (.For tg iter body [] pos) (zjQ wi g tb):=by
 intro pins s σ H D I h;refine wpAny_For (thn (hi pins s σ H _ I h) λ v s1 h1=>thn h1 λ itv s2 h2=>?_) hs;obtain ⟨it,fp,tn,J,H2,e,I2,T,st2,f2,W,⟨m0,w0⟩,turn⟩:=h2;subst e
 -- what stays true of the iterator's objects through the loop
 have stat : ∀ {H' : Hp},(∀ b ∈ fp,H' b = none) -> ∀ b ∈ fp,zdR X pins H' b:=λ hn b hb=>⟨hn b hb,(f2 b hb).2⟩
 refine codeAny_forLoop_any (λ n s'=>∃ i σ' H',Inv X pins σ' H' s' /\ tn i s'.heap /\ (∀ b ∈ fp,H' b = none) /\ W i n σ' H') ?_ m0 ⟨0,σ,H2,I2,st2,λ b hb=>(f2 b hb).1,w0⟩;rintro n s3 ⟨i,σ3,H3,I3,st3,fr3,w3⟩;rcases turn i n σ3 H3 w3 with ⟨stop,qn⟩ | ⟨go,N,hN,step⟩
 . refine wpAny_passesOwn hp (thn (T.done X rfl rfl rfl hc i pins s3 σ3 H3 X.xe I3 (stat fr3) st3 stop) λ r s4 ⟨hr,I4⟩=>?_)
   subst hr;exact wpAny_execs_nil ⟨σ3,H3,I4,qn⟩
 . refine wpAny_passesOwn hp (thn (T.item X rfl rfl rfl hc i pins s3 σ3 H3 X.xe I3 (stat fr3) st3 go) λ r s4 ⟨u,hr,h4⟩=>?_)
   subst hr;refine wpAny_passesOwn hp (thn h4 λ _ s5 ⟨x,H5,I5,r5,y5,st5,fr5⟩=>?_);have I5':=I5.pinned (stat fr5) (T.obj _ _ st5);refine wpAny_passesOwn hp (thn (hg _ s5 σ3 H5 x u _ I5' r5 (step x H5 y5)) λ _ s6 ⟨σ6,H6,I6,q6⟩=>?_);refine wpAny_passesOwn hp (thn (hb _ s6 σ6 H6 _ I6 q6) λ f s7 q7=>?_)
   have again : ∀ {σ7 : St} {H7 : Hp},Inv X (pins ++ zhK fp s5.heap) σ7 H7 s7 -> N σ7 H7 -> ∃ m,m < n /\ ∃ i σ' H',Inv X pins σ' H' s7 /\ tn i s7.heap /\ (∀ b ∈ fp,H' b = none) /\ W i m σ' H':=λ {σ7 H7} I7 n7=>by
     obtain ⟨m',hm,w7⟩:=hN σ7 H7 n7;refine ⟨m',hm,i + 1,σ7,H7,I7.unpinned,T.keep _ _ _ st5 λ b hb o e=>(I7.pin (b,o) (wM _ (wM _ (zd6 hb e)))).1,λ b hb=>?_,w7⟩;obtain ⟨o,e,d⟩:=T.obj _ _ st5 b hb;exact (I7.pin (b,o) (wM _ (wM _ (zd6 hb e)))).2.1
   cases f with
   | next=>obtain ⟨σ7,H7,I7,n7⟩:=q7; exact again I7 n7
   | cont=>obtain ⟨σ7,H7,I7,n7⟩:=q7; exact again I7 n7
   | brk=>obtain ⟨σ7,H7,I7,q7⟩:=q7; exact ⟨σ7,H7,I7.unpinned,q7⟩
   | ret v=>obtain ⟨x7,σ7,H7,I7,r7,q7⟩:=q7; exact ⟨x7,σ7,H7,I7.unpinned,r7,q7⟩
end
theorem zn1 {K : wa} {a : Addr} {xs : List V} {g : TG} {tb : TS} {D : zcc} {σ : St} {H : Hp} (Pv : Nat -> St -> Hp -> Prop) (h0 : Pv 0 σ H) (hl : ∀ i σ H,i <= xs.length -> Pv i σ H -> SqL K H a xs)
   (hs : ∀ i x σ H,xs[i]? = some x -> Pv i σ H -> g x σ H λ σ2 H2=>tb { D with nx:=Pv (i + 1),ct:=Pv (i + 1),bk:=D.nx } σ2 H2) (hd : ∀ σ H,Pv xs.length σ H -> D.nx σ H) :
   ∃ W : Nat -> Nat -> St -> Hp -> Prop,(∃ m,W 0 m σ H) /\ ∀ i m σ H,W i m σ H ->
     ((Itl K a).stop i H /\ D.nx σ H) \/ ((Itl K a).go i H /\ ∃ N : St -> Hp -> Prop,(∀ σ' H',N σ' H' -> ∃ m',m' < m /\ W (i + 1) m' σ' H') /\ ∀ x H',(Itl K a).yld i H x H' -> g x σ H' λ σ2 H2=>tb { D with nx:=N,ct:=N,bk:=D.nx } σ2 H2):=by
 refine ⟨λ i m σ H=>m = xs.length - i /\ i <= xs.length /\ Pv i σ H,⟨xs.length,by simp,vB _,h0⟩,?_⟩;rintro i m σ H ⟨rfl,hi,p⟩;have q:=hl i σ H hi p
 by_cases hlt : i < xs.length
 . refine .inr ⟨⟨xs,xs[i],q,by simp [hlt]⟩,Pv (i + 1),λ σ' H' p'=>⟨xs.length - (i + 1),by omega,rfl,hlt,p'⟩,λ x H' y=>?_⟩
   obtain ⟨e,y⟩:=y;subst e;exact hs i x σ _ (y xs q) p
 . have e : i = xs.length:=by omega
   subst e;exact .inl ⟨⟨xs,q,wg _⟩,hd σ H p⟩
theorem zqf {K : wa} {a : Addr} {xs : List V} {g : TG} {tb : TS} {D : zcc} {σ : St} {H : Hp} (Pv : Nat -> St -> Hp -> Prop) (h0 : Pv 0 σ H) (hl : ∀ i σ H,i <= xs.length -> Pv i σ H -> SqT K H a xs)
   (hs : ∀ i x σ H,xs[i]? = some x -> Pv i σ H -> g x σ H λ σ2 H2=>tb { D with nx:=Pv (i + 1),ct:=Pv (i + 1),bk:=D.nx } σ2 H2) (hd : ∀ σ H,Pv xs.length σ H -> D.nx σ H) :
   ∃ W : Nat -> Nat -> St -> Hp -> Prop,(∃ m,W 0 m σ H) /\ ∀ i m σ H,W i m σ H ->
     ((Itt K a).stop i H /\ D.nx σ H) \/ ((Itt K a).go i H /\ ∃ N : St -> Hp -> Prop,(∀ σ' H',N σ' H' -> ∃ m',m' < m /\ W (i + 1) m' σ' H') /\ ∀ x H',(Itt K a).yld i H x H' -> g x σ H' λ σ2 H2=>tb { D with nx:=N,ct:=N,bk:=D.nx } σ2 H2):=by
 refine ⟨λ i m σ H=>m = xs.length - i /\ i <= xs.length /\ Pv i σ H,⟨xs.length,by simp,vB _,h0⟩,?_⟩;rintro i m σ H ⟨rfl,hi,p⟩;have q:=hl i σ H hi p
 by_cases hlt : i < xs.length
 . refine .inr ⟨⟨xs,xs[i],q,by simp [hlt]⟩,Pv (i + 1),λ σ' H' p'=>⟨xs.length - (i + 1),by omega,rfl,hlt,p'⟩,λ x H' y=>?_⟩
   obtain ⟨e,y⟩:=y;subst e;exact hs i x σ _ (y xs q) p
 . have e : i = xs.length:=by omega
   subst e;exact .inl ⟨⟨xs,q,wg _⟩,hd σ H p⟩
theorem zmk {lo : Int} {n : Nat} {g : TG} {tb : TS} {D : zcc} {σ : St} {H : Hp} (Pv : Nat -> St -> Hp -> Prop) (h0 : Pv 0 σ H)
   (hs : ∀ i σ H,i < n -> Pv i σ H -> g (.int (lo + i)) σ H λ σ2 H2=>tb { D with nx:=Pv (i + 1),ct:=Pv (i + 1),bk:=D.nx } σ2 H2) (hd : ∀ σ H,Pv n σ H -> D.nx σ H) :
   ∃ W : Nat -> Nat -> St -> Hp -> Prop,(∃ m,W 0 m σ H) /\ ∀ i m σ H,W i m σ H ->
     ((Itr lo n).stop i H /\ D.nx σ H) \/ ((Itr lo n).go i H /\ ∃ N : St -> Hp -> Prop,(∀ σ' H',N σ' H' -> ∃ m',m' < m /\ W (i + 1) m' σ' H') /\ ∀ x H',(Itr lo n).yld i H x H' -> g x σ H' λ σ2 H2=>tb { D with nx:=N,ct:=N,bk:=D.nx } σ2 H2):=by
 refine ⟨λ i m σ H=>m = n - i /\ i <= n /\ Pv i σ H,⟨n,by simp,vB _,h0⟩,?_⟩;rintro i m σ H ⟨rfl,hi,p⟩
 by_cases hlt : i < n
 . refine .inr ⟨hlt,Pv (i + 1),λ σ' H' p'=>⟨n - (i + 1),by omega,rfl,hlt,p'⟩,λ x H' y=>?_⟩
   obtain ⟨e,y⟩:=y;subst e y;exact hs i σ _ hlt p
 . have e : i = n:=by omega
   subst e;exact .inl ⟨wg _,hd σ H p⟩
abbrev R2:=V -> V -> Hp -> VK -> Prop
def OpR (X : Cx) (f : Value -> Value -> Sem Value) (r : R2) : Prop :=
 ∀ (pins : List (Addr × Obj)) (s : Shared) (σ : St) (H : Hp) (x y : V) (v u : Value) (Q : VK),Inv X pins σ H s -> zaQ x v -> zaQ y u -> r x y H Q ->
   wpAny (model X.prog X.w) X.A (f v u) (EP X pins σ Q) X.xe s
def UnR (X : Cx) (f : Value -> Sem Value) (r : V -> Hp -> VK -> Prop) : Prop :=
 ∀ (pins : List (Addr × Obj)) (s : Shared) (σ : St) (H : Hp) (x : V) (v : Value) (Q : VK),Inv X pins σ H s -> zaQ x v -> r x H Q ->
   wpAny (model X.prog X.w) X.A (f v) (EP X pins σ Q) X.xe s
def zal (X : Cx) (f : Value) (r : List V -> Hp -> VK -> Prop) : Prop :=
 ∀ (pins : List (Addr × Obj)) (s : Shared) (σ : St) (H : Hp) (xs : List V) (us : List Value) (Q : VK),Inv X pins σ H s -> zaG xs us -> r xs H Q ->
   wpAny (model X.prog X.w) X.A (call f us) (EP X pins σ Q) X.xe s
def ztG (X : Cx) (r : V -> Hp -> (Bool -> Hp -> Prop) -> Prop) : Prop :=
 ∀ (pins : List (Addr × Obj)) (s : Shared) (σ : St) (H : Hp) (x : V) (v : Value) (Q : Bool -> Hp -> Prop),Inv X pins σ H s -> zaQ x v -> r x H Q ->
   wpAny (model X.prog X.w) X.A (truthy v) (TP X pins σ Q) X.xe s
def tOp (r : R2) (ta tb : TE) : TE:=λ σ H Q=>ta σ H λ x H1=>tb σ H1 λ y H2=>r x y H2 Q
def tUn (r : V -> Hp -> VK -> Prop) (ta : TE) : TE:=λ σ H Q=>ta σ H λ x H1=>r x H1 Q
def rI (C : Int -> Int -> Prop) (g : Int -> Int -> V) : R2:=λ x y H Q=>∃ i j,x = .int i /\ y = .int j /\ C i j /\ Q (g i j) H
def rI0 (g : Int -> Int -> V) : R2:=λ x y H Q=>∃ i j,x = .int i /\ y = .int j /\ Q (g i j) H
def rU (g : Int -> V) : V -> Hp -> VK -> Prop:=λ x H Q=>∃ i,x = .int i /\ Q (g i) H
section
variable {X : Cx} {a b c : Expr} {ta tb tc : TE} {pos : Pos}
theorem zrL (ha : PE X a ta) (hb : PE X b tb) {pins : List (Addr × Obj)} {s : Shared} {σ : St} {H : Hp} {R : V -> V -> Hp -> Prop} (I : Inv X pins σ H s)
   (h : ta σ H λ x H1=>tb σ H1 λ y H2=>R x y H2) {Q : Value -> Shared -> Prop} {f : Value -> Value -> Sem Value}
   (hf : ∀ v u s2 x y H2,Inv X pins σ H2 s2 -> zaQ x v -> zaQ y u -> R x y H2 -> wpAny (model X.prog X.w) X.A (f v u) Q X.xe s2) :
   wpAny (model X.prog X.w) X.A (eval a X.env) (λ v s₁=>wpAny (model X.prog X.w) X.A (eval b X.env) (λ u s₂=>wpAny (model X.prog X.w) X.A (f v u) Q X.xe s₂) X.xe s₁) X.xe s:=by
 refine thn (ha pins s σ H _ I h) λ v s1 ⟨x,H1,I1,r1,q1⟩=>?_
 refine thn (hb pins s1 σ H1 _ I1 q1) λ u s2 ⟨y,H2,I2,r2,q2⟩=>?_
 exact hf v u s2 x y H2 I2 r1 r2 q2
theorem zaw {op : Operator} {r : R2} (ho : OpR X (binaryOp op) r) (ha : PE X a ta) (hb : PE X b tb) : PE X (.BinOp a op b pos) (tOp r ta tb):=by
 intro pins s σ H Q I h;exact wpAny_BinOp (zrL ha hb I h λ v u s2 x y H2 I2 rx ry q=>ho pins s2 σ H2 x y v u Q I2 rx ry q)
theorem ztp {op : UnaryOp} {r : V -> Hp -> VK -> Prop} (ho : UnR X (unaryOp op) r) (ha : PE X a ta) : PE X (.UnaryOp op a pos) (tUn r ta):=by
 intro pins s σ H Q I h;exact UnaryOp_ (thn (ha pins s σ H _ I h) λ v s1 ⟨x,H1,I1,r1,q1⟩=>ho pins s1 σ H1 x v Q I1 r1 q1)
theorem opI {f : Value -> Value -> Sem Value} {C : Int -> Int -> Prop} {g : Int -> Int -> Int}
   (rule : ∀ (i j : Int) (t u : Tok) (s : Shared) (Q : Value -> Shared -> Prop) (E : Value -> Shared -> Prop),C i j -> Q (.int (g i j) s.toks) { s with toks:=s.toks + 1 } -> wpAny (model X.prog X.w) X.A (f (.int i t) (.int j u)) Q E s) :
   OpR X f (rI C λ i j=>.int (g i j)):=by
 intro pins s σ H x y v u Q I rx ry h;obtain ⟨i,j,rfl,rfl,hc,q⟩:=h;obtain ⟨t,rfl⟩:=rx;obtain ⟨t',rfl⟩:=ry;exact rule i j t t' s _ _ hc ⟨.int (g i j),H,I.tok _,⟨_,rfl⟩,q⟩
theorem zsS {f : Value -> Value -> Sem Value} {g : Int -> Int -> Int}
   (rule : ∀ (i j : Int) (t u : Tok) (s : Shared) (Q : Value -> Shared -> Prop) (E : Value -> Shared -> Prop),Q (.int (g i j) s.toks) { s with toks:=s.toks + 1 } -> wpAny (model X.prog X.w) X.A (f (.int i t) (.int j u)) Q E s) :
   OpR X f (rI0 λ i j=>.int (g i j)):=by
 intro pins s σ H x y v u Q I rx ry h;obtain ⟨i,j,rfl,rfl,q⟩:=h;obtain ⟨t,rfl⟩:=rx;obtain ⟨t',rfl⟩:=ry;exact rule i j t t' s _ _ ⟨.int (g i j),H,I.tok _,⟨_,rfl⟩,q⟩
theorem zpM {f : Value -> Value -> Sem Value} {g : Int -> Int -> Bool}
   (rule : ∀ (i j : Int) (t u : Tok) (s : Shared) (Q : Value -> Shared -> Prop) (E : Value -> Shared -> Prop),Q (.bool (g i j)) s -> wpAny (model X.prog X.w) X.A (f (.int i t) (.int j u)) Q E s) :
   OpR X f (rI0 λ i j=>.bl (g i j)):=by
 intro pins s σ H x y v u Q I rx ry h;obtain ⟨i,j,rfl,rfl,q⟩:=h;obtain ⟨t,rfl⟩:=rx;obtain ⟨t',rfl⟩:=ry;exact rule i j t t' s _ _ ⟨.bl (g i j),H,I,rfl,q⟩
def zsZ (i j : Int) : Prop:=0 <= j /\ j <= 1000000 /\ i.natAbs < 2 ^ 64
theorem zr1 : OpR X (binaryOp .Add) (rI0 λ i j=>.int (i + j)):=zsS λ _ _ _ _ _ _ _ q=>add_int q
theorem zf5 : OpR X (binaryOp .Sub) (rI0 λ i j=>.int (i - j)):=zsS λ _ _ _ _ _ _ _ q=>sub_int q
theorem zet : OpR X (binaryOp .Mod) (rI (λ _ j=>0 < j) λ i j=>.int (i % j)):=opI λ i j _ _ _ _ _ hc q=>by
 have h1 : (0 : Int) < j:=hc;exact mod_int' (by omega) (by rw [Int.fmod_eq_emod_of_nonneg i (by omega)]; exact q)
theorem zrN : OpR X (binaryOp .Pow) (rI zsZ λ i j=>.int (i ^ j.toNat)):=opI λ _ _ _ _ _ _ _ hc q=>pow_int_small hc.1 hc.2.1 hc.2.2 q
theorem unI {f : Value -> Sem Value} {g : Int -> Int}
   (rule : ∀ (i : Int) (t : Tok) (s : Shared) (Q : Value -> Shared -> Prop) (E : Value -> Shared -> Prop),Q (.int (g i) s.toks) { s with toks:=s.toks + 1 } -> wpAny (model X.prog X.w) X.A (f (.int i t)) Q E s) :
   UnR X f (rU λ i=>.int (g i)):=by
 intro pins s σ H x v Q I rx h;obtain ⟨i,rfl,q⟩:=h;obtain ⟨t,rfl⟩:=rx;exact rule i t s _ _ ⟨.int (g i),H,I.tok _,⟨_,rfl⟩,q⟩
theorem zrw : UnR X (unaryOp .USub) (rU λ i=>.int (-i)):=unI λ _ _ _ _ _ q=>neg_int q
end
section
variable {X : Cx} {a b c : Expr} {ta tb tc : TE} {pos : Pos}
theorem znf {pins : List (Addr × Obj)} {σ : St} {H : Hp} {s : Shared} {Q : VK} {k k' : Bool} (I : Inv X pins σ H s) (q : Q (.bl k) H) (e : k = k') : EP X pins σ Q (.bool k') s:=by
 subst e;exact ⟨.bl k,H,I,rfl,q⟩
theorem zqT : OpR X (compareOp .Lt) (rI0 λ i j=>.bl (decide (i < j))):=zpM λ _ _ _ _ _ _ _ q=>lt_int q
theorem zl8 : OpR X (compareOp .LtE) (rI0 λ i j=>.bl (decide (i <= j))):=zpM λ _ _ _ _ _ _ _ q=>le_int q
theorem zlL : OpR X (compareOp .Gt) (rI0 λ i j=>.bl (decide (j < i))):=zpM λ _ _ _ _ _ _ _ q=>gt_int q
theorem zlE : OpR X (compareOp .GtE) (rI0 λ i j=>.bl (decide (j <= i))):=zpM λ _ _ _ _ _ _ _ q=>ge_int q
theorem zso : OpR X (compareOp .Is) (λ x y H Q=>y = .non /\ Q (.bl (decide (x = .non))) H):=by
 intro pins s σ H x y v u Q I rx ry h;obtain ⟨rfl,q⟩:=h;cases ry;refine is_none_gen (znf I q ?_)
 cases x <;> first
   | (cases rx; rfl)
   | (obtain ⟨t,rfl⟩:=rx; rfl)
theorem OpR.or {f : Value -> Value -> Sem Value} {r r' : R2} (h : OpR X f r) (h' : OpR X f r') : OpR X f (λ x y H Q=>r x y H Q \/ r' x y H Q):=by
 intro pins s σ H x y v u Q I rx ry q;rcases q with q | q
 . exact h pins s σ H x y v u Q I rx ry q
 . exact h' pins s σ H x y v u Q I rx ry q
theorem zaH (b : Expr) {op : CmpOp} (h : op ≠ .In:=by decide) (h2 : op ≠ .NotIn:=by decide) : behindInMarks op b = false:=by
 have e1 : (op == CmpOp.In) = false:=by cases op <;> first | rfl | exact absurd rfl h
 have e2 : (op == CmpOp.NotIn) = false:=by cases op <;> first | rfl | exact absurd rfl h2
 cases b <;> simp [behindInMarks,e1,e2]
theorem zdv {op : CmpOp} {r : R2} (ho : OpR X (compareOp op) r) (ha : PE X a ta) (hb : PE X b tb) (hm : behindInMarks op b = false) : PE X (.Compare a [op] [b] pos) (tOp r ta tb):=by
 intro pins s σ H Q I h;exact wpAny_Compare1 (zrL ha hb I h λ v u s2 x y H2 I2 rx ry q=>ho pins s2 σ H2 x y v u Q I2 rx ry q) hm
def znU (t : TE) : TT:=λ σ H Q=>t σ H λ x H'=>∃ k,x = .bl k /\ Q k H'
theorem zau {op : CmpOp} {r : R2} (ho : OpR X (compareOp op) r) (ha : PE X a ta) (hb : PE X b tb) (hm : behindInMarks op b = false) : PT X (.Compare a [op] [b] pos) (znU (tOp r ta tb)):=by
 intro pins s σ H Q I h
 refine wpAny_isTrue_Compare1 (thn (ha pins s σ H _ I h) λ v s1 ⟨x,H1,I1,r1,q1⟩=>thn (hb pins s1 σ H1 _ I1 q1) λ u s2 ⟨y,H2,I2,r2,q2⟩ =>
   thn (ho pins s2 σ H2 x y v u _ I2 r1 r2 q2) λ c s3 ⟨z,H3,I3,r3,k,e,q3⟩=>?_) hm
 subst e;cases r3;exact wpAny_truthy_bool ⟨H3,I3,q3⟩
def zop (r r' : R2) (ta tb tc : TE) : TE:=λ σ H Q=>ta σ H λ x H1=>tb σ H1 λ y H2=>r x y H2 λ z H3=>∃ k,z = .bl k /\
 (if k = true then tc σ H3 λ w' H4=>r' y w' H4 Q else Q (.bl false) H3)
theorem zj7 {op op' : CmpOp} {r r' : R2} (ho : OpR X (compareOp op) r) (ho' : OpR X (compareOp op') r') (ha : PE X a ta) (hb : PE X b tb) (hc : PE X c tc)
   (hm : lastMarks [op,op'] [b,c] = false:=by with_unfolding_all rfl) : PE X (.Compare a [op,op'] [b,c] pos) (zop r r' ta tb tc):=by
 intro pins s σ H Q I h
 refine Compare_chain (thn (ha pins s σ H _ I h) λ v s1 ⟨x,H1,I1,r1,q1⟩=>chain_link (thn (hb pins s1 σ H1 _ I1 q1) λ u s2 ⟨y,H2,I2,r2,q2⟩ =>
   thn (ho pins s2 σ H2 x y v u _ I2 r1 r2 q2) λ d s3 ⟨z,H3,I3,r3,k,e,q3⟩=>?_)) hm
 subst e;cases r3;refine wpAny_truthy_bool ?_;cases k with
 | false=>exact ite_ff ⟨.bl false,H3,I3,rfl,q3⟩
 | true=>exact ite_tt (chain_last (thn (hc pins s3 σ H3 _ I3 q3) λ w' s4 ⟨z',H4,I4,r4,q4⟩=>ho' pins s4 σ H4 y z' u w' Q I4 r2 r4 q4))
def zrU (K : wa) (x : V) (H : Hp) (k : Bool) : Prop :=
 match x with
 | .non=>k = false
 | .bl b=>k = b
 | .int i=>k = (i != 0)
 | .str y=>y.length <= sizeLine /\ k = ((y.length : Int) != 0)
 | .byt y=>y.size <= sizeLine /\ k = ((y.size : Int) != 0)
 | .ref p=>(∃ xs,SqL K H p xs /\ k = !xs.isEmpty) \/ (∃ xs,SqT K H p xs /\ k = !xs.isEmpty) \/ ∃ kvs,H p = some (.dK kvs) /\ k = !kvs.isEmpty
 | _=>False
theorem zkP {κ : Type} {kvs : List (κ × V)} {vs : List (κ × Value)} (r : KV kvs vs) : (!vs.isEmpty) = !kvs.isEmpty:=by
 cases r <;> rfl
theorem zgY {xs : List V} {its : List Value} (r : zaG xs its) : (!its.toArray.isEmpty) = !xs.isEmpty:=by
 cases r <;> simp
theorem zfY : (sizeLine : Nat) < 2 ^ 63:=by rw [sizeLine_eq]; decide
theorem zrl : ztG X (λ x H Q=>∃ k,zrU X.K x H k /\ Q k H):=by
 intro pins s σ H x v Q I rx h;obtain ⟨k,e,q⟩:=h;have hl:=zfY;have hs : sizeLine = 16777216:=sizeLine_eq;cases x with
 | non =>
   cases rx;have e' : k = false:=e;subst e';exact truthy_none ⟨H,I,q⟩
 | bl b =>
   cases rx;have e' : k = b:=e;subst e';exact wpAny_truthy_bool ⟨H,I,q⟩
 | int i =>
   obtain ⟨t,rfl⟩:=rx;have e' : k = (i != 0):=e;subst e';exact PySem.P.truthy_int ⟨H,I,q⟩
 | str y =>
   obtain ⟨t,rfl⟩:=rx;obtain ⟨hy,e'⟩ : y.length <= sizeLine /\ k = ((y.length : Int) != 0):=e;subst e';exact PySem.P.truthy_str (by omega) ⟨H,I.tok _,q⟩
 | byt y =>
   obtain ⟨t,rfl⟩:=rx;obtain ⟨hy,e'⟩ : y.size <= sizeLine /\ k = ((y.size : Int) != 0):=e;subst e';exact PySem.W.truthy_bytes (by omega) ⟨H,I.tok _,q⟩
 | ref p =>
   cases rx;have e' : (∃ xs,SqL X.K H p xs /\ k = !xs.isEmpty) \/ (∃ xs,SqT X.K H p xs /\ k = !xs.isEmpty) \/ ∃ kvs,H p = some (.dK kvs) /\ k = !kvs.isEmpty:=e;rcases e' with ⟨xs,hx,e'⟩ | ⟨xs,hx,e'⟩ | ⟨kvs,hx,e'⟩
   . subst e'
     obtain ⟨its,r,pl,hz⟩:=I.list hx;have hlen:=r.length;exact wpAny_truthy_list pl.isList (by simp only [wq]; omega) ⟨H,I.tok _,by rw [zgY r]; exact q⟩
   . subst e'
     obtain ⟨its,r,pl,hz⟩:=I.tuple hx;have hlen:=r.length;exact truthy_tuple pl (by simp only [wq]; omega) ⟨H,I.tok _,by rw [zgY r]; exact q⟩
   . subst e'
     obtain ⟨hz,hS,vs,r,m⟩ : kvs.length <= sizeLine /\ (p == sysModules) = false /\ ∃ vs,KV kvs vs /\ s.heap.DictOf (zbT X.prog X.w) p vs:=I.hok p _ hx;have hlen : kvs.length = vs.length:=V6 r;exact wpAny_truthy_dict hS m (by omega) ⟨H,I.tok _,by rw [zkP r]; exact q⟩
 | _=>exact (show False from e).elim
theorem zpc (ha : PE X a ta) (he : ∀ whole,isTrue a X.env whole = (do let v <- whole; standAt a.pos; holding [v] (truthy v))) :
   PT X a (λ σ H Q=>ta σ H λ x H'=>∃ k,zrU X.K x H' k /\ Q k H'):=by
 intro pins s σ H Q I h;exact isTrue_plain (thn (ha pins s σ H _ I h) λ v s1 ⟨x,H1,I1,r1,q1⟩=>zrl pins s1 σ H1 x v Q I1 r1 q1) (he _)
theorem zkz : OpR X (binaryOp .Add) (λ x y H Q=>∃ i j,x = .str i /\ y = .str j /\ i.length + j.length <= sizeLine /\ Q (.str (i ++ j)) H):=by
 intro pins s σ H x y v u Q I rx ry h;obtain ⟨i,j,rfl,rfl,hz,q⟩:=h;obtain ⟨t,rfl⟩:=rx;obtain ⟨t',rfl⟩:=ry;exact add_str (λ t' tk=>⟨.str (i ++ j),H,I.tok _,⟨_,rfl⟩,q⟩) hz
theorem zdE {x : V} {us : List Value} (r : zaG [x] us) : ∃ u,us = [u] /\ zaQ x u:=by
 cases r with
 | cons r1 r2=>cases r2; exact ⟨_,rfl,r1⟩
theorem zh3 {x y : V} {us : List Value} (r : zaG [x,y] us) : ∃ u w',us = [u,w'] /\ zaQ x u /\ zaQ y w':=by
 cases r with
 | cons r1 r2 =>
   cases r2 with
   | cons r3 r4=>cases r4; exact ⟨_,_,rfl,r1,r3⟩
theorem zmW (hc : X.calm = true) : zal X (.builtin "min") (λ xs H Q=>∃ i j,xs = [.int i,.int j] /\ Q (.int (if j < i then j else i)) H):=by
 intro pins s σ H xs us Q I r h;obtain ⟨i,j,rfl,q⟩:=h;obtain ⟨u,w',rfl,⟨t,rfl⟩,⟨t',rfl⟩⟩:=zh3 r;refine min_two_ints (I.ok.hd hc) λ h' tk k=>⟨_,H,I.kept k,?_,q⟩
 by_cases hj : j < i
 . rw [if_pos hj,if_pos hj]; exact ⟨_,rfl⟩
 . rw [if_neg hj,if_neg hj]; exact ⟨_,rfl⟩
theorem zmx : zal X (.type "int") (λ xs H Q=>(∃ i,xs = [.int i] /\ Q (.int i) H) \/ ∃ k,xs = [.bl k] /\ Q (.int (if k then 1 else 0)) H):=by
 intro pins s σ H xs us Q I r h;rcases h with ⟨i,rfl,q⟩ | ⟨k,rfl,q⟩
 . obtain ⟨u,rfl,t,rfl⟩:=zdE r
   exact call_int_int ⟨.int i,H,I,⟨_,rfl⟩,q⟩
 . obtain ⟨u,rfl,r1⟩:=zdE r
   cases r1;exact call_int_bool ⟨.int (if k then 1 else 0),H,I.tok _,⟨_,rfl⟩,q⟩
end
structure ztU (h : Heap) (x dx C : Addr) (mA : Str -> Option Value) : Prop where
 obj : h.get? x = some (xc C dx)
 ns : h.Ns1 dx mA
 ne : dx ≠ x
section
variable {prog : Program} {w : World} {A : Around} {E : Value -> Shared -> Prop} {s : Shared} {K : wa} {x dx C f : Addr} {mA : Str -> Option Value} {name : Str} {v : Value}
end
theorem zhR.some_of {v : V} {o : Option Value} (r : zhR (some v) o) : ∃ u,o = some u /\ zaQ v u:=by
 cases o with
 | none=>exact (show False from r).elim
 | some u=>exact ⟨u,rfl,r⟩
section
variable {P : Program} {w : World} {H H' : Hp} {h h' : Heap} {a C dx : Addr} {fs fs' : List (Str × V)}
end
structure Cls (K : wa) (C : Addr) : Prop where
 pg : PySem.W.plainGet K C Str.empty = true
 hd : PySem.W.hasDictIn K C = true
 po : PySem.W.plainOver K C = true
 sa : WA K (.ref C) "__setattr__" = some (some (.builtin "object.__setattr__"))
structure Con (K : wa) (C : Addr) (f : Str) (v : V) (u : Value) : Prop where
 at_ : WA K (.ref C) f = some (some u)
 rel : zaQ v u
 get : qe K u "__get__" = some none
 cp : PySem.W.copiedNames.contains f = false
structure ztS (K : wa) (C : Addr) (m : Str) (f : Addr) : Prop where
 at_ : WA K (.ref C) m = some (some (.ref f))
 fn : xY K (.ref f) = true
 kp : ww K (.ref f) = true
section
variable {X : Cx} {pins : List (Addr × Obj)} {σ : St} {H : Hp} {s : Shared} {a C dx : Addr} {fs : List (Str × V)} {f : Str} {v : V} {A : Around} {E : Value -> Shared -> Prop}
end
section
variable {X : Cx} {o e value : Expr} {f : Str} {pos pos' tpos : Pos} {ta tv : TE}
end
section
variable {X : Cx} {pins : List (Addr × Obj)} {σ : St} {H : Hp} {s : Shared} {A : Around} {E : Value -> Shared -> Prop} {Q : Value -> Shared -> Prop} {c : Value} {b : Bool}
inductive zhv (K : wa) (H : Hp) : V -> Value -> Prop where
 | non : zhv K H .non (.type "NoneType")
 | bl (x : Bool) : zhv K H (.bl x) (.type "bool")
 | int (i : Int) : zhv K H (.int i) (.type "int")
 | str (x : Str) : zhv K H (.str x) (.type "str")
 | flt (x : UInt64) : zhv K H (.flt x) (.type "float")
 | lst {a : Addr} {xs : List V} (e : H a = some (.lst xs)) : zhv K H (.ref a) (.type "list")
 | frz {a : Addr} {o : Obj} {xs : List V} (e : H a = some (.frz o (.lst xs))) : zhv K H (.ref a) (.type "list")
 | tup {a : Addr} {xs : List V} (e : H a = some (.tup xs)) : zhv K H (.ref a) (.type "tuple")
 | dK {a : Addr} {kvs : List (Key × V)} (e : H a = some (.dK kvs)) : zhv K H (.ref a) (.type "dict")
 | dT {a : Addr} {kvs : List (List Key × V)} (e : H a = some (.dT kvs)) : zhv K H (.ref a) (.type "dict")
 | ins {a C dx : Addr} {fs : List (Str × V)} (e : H a = some (.ins C dx fs)) (cl : Cls K C) (ha : WA K (.ref C) "__class__" = some (some (.builtin "object.__class__")))
     (hn : qe K (.builtin "object.__class__") "__get__" = some (some (.builtin "getset_descriptor.__get__"))) (htk : xg K (.builtin "object.__class__") = some true)
     (hm : qY K C (.type "object") = some true) : zhv K H (.ref a) (.ref C)
end
structure zej (k : Nat) (A : Around) : Prop where
 hd : A.handled = none
 dp : A.depth + 3 * k + 5 < recursionLimit
 un : A.units + 16 * k + 200 < cLine
 gd : A.guards = some []
theorem zej.mono {j k : Nat} {A : Around} (r : zej k A) (h : j <= k) : zej j A:=⟨r.hd,by have:=r.dp; omega,by have:=r.un; omega,by first | exact r.gd | (simp [xZ,Code.guards,x8,guardIds]; exact r.gd)⟩
theorem zej.deeper {k : Nat} {A : Around} (r : zej (k + 1) A) (env : Env) : zej k (A.deeper env) :=
 ⟨r.hd,by have:=r.dp; show A.depth + 1 + 3 * k + 5 < _; omega,by have:=r.un; show A.units + 3 + 16 * k + 200 < _; omega,by first | exact r.gd | (simp [xZ,Code.guards,x8,guardIds]; exact r.gd)⟩
theorem zej.depth {k : Nat} {A : Around} (r : zej k A) : A.depth < recursionLimit:=by have:=r.dp; omega
theorem zej.units {k : Nat} {A : Around} (r : zej k A) : A.units + 64 < cLine:=by have:=r.un; omega
def zmL : TA:=λ _ H Q=>Q [] H
def ziu (ta : TE) (tr : TA) : TA:=λ σ H Q=>ta σ H λ x H1=>tr σ H1 λ xs H2=>Q (x :: xs) H2
section
variable {X : Cx} {e : Expr} {es : List Expr} {te : TE} {t : TA} {pos : Pos}
theorem zab : PA X [] zmL:=λ _ _ _ _ H Q I h=>QD ⟨[],H,I,.nil,h⟩
theorem zaa (ha : PE X e te) (hr : PA X es t) (hs : starEach (e :: es) X.env = (false,eval e X.env) :: starEach es X.env:=by rfl) : PA X (e :: es) (ziu te t):=by
 intro pos pins s σ H Q I h;rw [hs]
 show wpAny _ _ (spliced ((false,eval e X.env) :: backTo pos (starEach es X.env))) _ _ s
 refine Qj (thn (ha pins s σ H _ I h) λ u s1 ⟨x,H1,I1,r1,q1⟩=>?_);exact thn (hr pos pins s1 σ H1 _ I1 q1) λ us s2 ⟨xs,H2,I2,r2,q2⟩=>⟨x :: xs,H2,I2,.cons r1 r2,q2⟩
def ztJ (t : TA) : TE:=λ σ H Q=>t σ H λ xs H1=>xs.length <= sizeLine /\ ∀ p,H1 p = none -> Q (.ref p) (upd H1 p (.tup xs))
def zty (t : TA) : TE:=λ σ H Q=>t σ H λ xs H1=>xs.length <= sizeLine /\ ∀ p,H1 p = none -> Q (.ref p) (upd H1 p (.lst xs))
theorem zsa {x1} (h : PA X es t) : PE X (.Tuple es x1 pos) (ztJ t):=by
 intro pins s σ H Q I hq;refine wpAny_Tuple_spliced (thn (h pos pins s σ H _ I hq) λ us s1 ⟨xs,H1,I1,r,z,q⟩=>⟨by rw [<- r.length]; exact z,?_⟩);have hf : H1 s1.heap.objs.size = none:=I1.hok.fresh (wg _);refine ⟨.ref s1.heap.objs.size,upd H1 s1.heap.objs.size (.tup xs),I1.laid (t':=s1.toks) (λ b u e=>wb _ e) (wg _) ?_,rfl,q _ hf⟩;exact ⟨z,us,r,⟨_,wj _ rfl,rfl,_,rfl⟩⟩
theorem zrm (h : PA X es t) : PE X (.List es pos) (zty t):=by
 intro pins s σ H Q I hq;refine wpAny_List_spliced (thn (h pos pins s σ H _ I hq) λ us s1 ⟨xs,H1,I1,r,z,q⟩=>⟨by rw [<- r.length]; exact z,?_⟩);have hf : H1 s1.heap.objs.size = none:=I1.hok.fresh (wg _);refine ⟨.ref s1.heap.objs.size,upd H1 s1.heap.objs.size (.lst xs),I1.laid (t':=s1.toks) (λ b u e=>wb _ e) (wg _) ?_,rfl,q _ hf⟩;exact ⟨z,us,0,r,wj _ rfl⟩
end
abbrev Sp:=List V -> Hp -> VK -> XK -> Prop
abbrev CXT:=List Env -> Hp -> Shared -> XK -> Value -> Shared -> Prop
structure znT (P : Program) (w : World) (K : wa) (mg : Str -> Option Value) (base : Heap) (A : Around) (outer : List Env) (s : Shared) (H : Hp) : Prop where
 frames : A.frames = some outer
 mod : Mod K mg base
 bs : ∀ b o,base.get? b = some o -> s.heap.get? b = some o /\ H b = none
 bsz : base.objs.size <= s.heap.objs.size
 funs : s.heap.FunFrames base outer
 frf : ∀ b ∈ frs outer,H b = none
 hok : HOk P w H s.heap
 bare : AllBare s.gens
def CE (outer : List Env) (P : Program) (w : World) (H : Hp) (s : Shared) (Q : VK) (u : Value) (s' : Shared) : Prop :=
 ∃ v H',s'.os = s.os /\ AllBare s'.gens /\ Un (frs outer) [] H H' s.heap s'.heap /\ HOk P w H' s'.heap /\ zaQ v u /\ Q v H'
def CR (CX : CXT) (outer : List Env) (P : Program) (w : World) (H : Hp) (s : Shared) (Q : VK) (E : XK) (r : Result) (s' : Shared) : Prop :=
 match r with
 | .ok (.ret u)=>CE outer P w H s Q u s'
 | .ok _=>False
 | .error e=>CX outer H s E e s'
structure zbB (P : Program) (w : World) (K : wa) (mg : Str -> Option Value) (base : Heap) (CX : CXT) (k : Nat) (f : Addr) (fd : FuncData) (ps : List Str) (sp : Sp) : Prop where
 len : ∀ vs H Q E,sp vs H Q E -> vs.length = ps.length
 run : ∀ (A : Around) (outer : List Env) (s : Shared) (H : Hp) (args : Args) (us : List Value) (vs : List V) (Q : VK) (E : XK),zej k A -> znT P w K mg base A outer s H -> BindsTo s fd args (ps.zip us) -> zaG vs us -> sp vs H Q E ->
   codeAny (model P w) A (.call (.ref f) args) (CR CX outer P w H s Q E) s
section
variable {X : Cx} {pins : List (Addr × Obj)} {σ : St} {H : Hp} {s s' : Shared}
theorem Inv.env0 (I : Inv X pins σ H s) : znT X.prog X.w X.K X.mg X.base X.A X.stack s H :=
 ⟨I.ok.frames,I.ok.mod,I.bs,wV I.ok.bsz I.sz,I.stack,I.stkFree,I.hok,I.bare⟩
theorem Inv.after {Q : VK} {u : Value} (I : Inv X pins σ H s) (h : CE X.stack X.prog X.w H s Q u s') : EP X pins σ Q u s':=by
 obtain ⟨v,H',os,bare,un,hok,r,q⟩:=h;obtain ⟨hh,g,d,t,os'⟩:=s';obtain rfl : os' = s.os:=os;exact ⟨v,H',I.call (h':=hh) (g':=g) (d':=d) (t':=t) (ch:=[]) un hok bare (λ b z=>absurd z (by simp)),r,q⟩
end
def znL (sp : Sp) (dvs : List V) (E : XK) (t : TA) : TE:=λ σ H Q=>t σ H λ vs H1=>sp (vs ++ dvs) H1 Q E
def za1 (K : wa) (fd : FuncData) (ps : List Str) (ds : List Value) : Prop :=
 ∀ (s : Shared) (us : List Value),K.In s.heap -> (us ++ ds).length = ps.length -> BindsTo s fd ⟨us,[]⟩ (ps.zip (us ++ ds))
theorem za1.all {K : wa} {fd : FuncData} {ps : List Str} (h : ∀ us : List Value,us.length = ps.length -> bindArgs fd ⟨us,[]⟩ = pure (ps.zip us)) : za1 K fd ps []:=λ s us _ hl=>by
 rw [vS] at hl ⊢;exact .of_eq (h us hl)
def zi9 (CX : CXT) (X : Cx) (E : XK) : Prop:=∀ (pins : List (Addr × Obj)) (σ : St) (H : Hp) (s : Shared) (e : Value) (s' : Shared),Inv X pins σ H s -> CX X.stack H s E e s' -> X.xe e s'
section
variable {X : Cx} {CX : CXT} {k : Nat} {f C : Addr} {fd : FuncData} {ps : List Str} {sp : Sp} {dvs : List V} {ds : List Value} {E : XK} {x m : Str} {p pos apos : Pos} {e o : Expr} {es : List Expr} {ta : TE} {t : TA}
theorem zsq {pins : List (Addr × Obj)} {σ : St} {H : Hp} {s : Shared} {Q : VK} {us : List Value} {vs : List V} (F : zbB X.prog X.w X.K X.mg X.base CX k f fd ps sp) (hr : zej k X.A) (hb : za1 X.K fd ps ds) (hd : zaG dvs ds) (hx : zi9 CX X E)
   (I : Inv X pins σ H s) (r : zaG vs us) (h : sp (vs ++ dvs) H Q E) : wpAny (model X.prog X.w) X.A (call (.ref f) us) (EP X pins σ Q) X.xe s:=by
 have r2 : zaG (vs ++ dvs) (us ++ ds):=r.append hd;have hl : (us ++ ds).length = ps.length:=by rw [<- r2.length]; exact F.len _ _ _ _ h
 refine wpAny_call (codeAny_mono (F.run X.A X.stack s H ⟨us,[]⟩ (us ++ ds) (vs ++ dvs) Q E hr I.env0 (hb s us I.kIn hl) r2 h) λ r s' hq=>?_);cases r with
 | error e=>exact hx pins σ H s e s' I hq
 | ok fl =>
   cases fl with
   | ret u=>exact I.after hq
   | next=>exact WN hq
   | brk=>exact WN hq
   | cont=>exact WN hq
theorem zai (F : zbB X.prog X.w X.K X.mg X.base CX k f fd ps sp) (hr : zej k X.A) (hg : Gl X x) (hm : X.mg x = some (.ref f)) (hk : ww X.K (.ref f) = true) (hb : za1 X.K fd ps ds) (hd : zaG dvs ds) (hx : zi9 CX X E)
   (ha : PA X (e :: es) t) (hdb : (x == ("__debug__" : Str)) = false:=by decide) (he : starEach (e :: es) X.env = (false,eval e X.env) :: starEach es X.env:=by rfl) (hpl : (backTo pos (starEach es X.env)).any (·.1) = false:=by rfl) :
   PE X (.Call (.Name x p) (e :: es) [] pos) (znL sp dvs E t):=by
 intro pins s σ H Q I h;refine wpAny_Call_Name_kw (ziM I hg hm ?_ hdb);refine PySem.W.callWith_K (h₀:=X.base) I.ok.mod.kin hk (thn (ha pos pins s σ H _ I h) λ us s1 ⟨vs,H1,I1,r,q⟩=>⟨I1.kIn,?_⟩) he hpl;exact zsq F hr hb hd hx I1 r q
structure Mk (K : wa) (C f : Addr) : Prop where
 makes : PySem.W.makesIn K C = true
 init : WA K (.ref C) "__init__" = some (some (.ref f))
 fn : xY K (.ref f) = true
 kp : ww K (.ref C) = true
end
section
variable {X : Cx} {CX : CXT} {k : Nat} {f C : Addr} {fd : FuncData} {ps ks : List Str} {sp : Sp} {E : XK} {x m : Str} {p pos apos kpos : Pos} {e o : Expr} {es : List Expr} {kws : List Keyword} {te ta : TE} {t tk : TA} {nm : Option Str}
structure ztv (K : wa) (fd : FuncData) (ps ks : List Str) (g : List Value -> List Value -> List Value) (gV : List V -> List V -> List V) : Prop where
 to : ∀ (s : Shared) (us ws : List Value),K.In s.heap -> (g us ws).length = ps.length -> BindsTo s fd ⟨us,ks.zip ws⟩ (ps.zip (g us ws))
 rel : ∀ {vs : List V} {us : List Value} {zs : List V} {ws : List Value},zaG vs us -> zaG zs ws -> zaG (gV vs zs) (g us ws)
variable {g : List Value -> List Value -> List Value} {gV : List V -> List V -> List V}
end
structure zaB (N P : List Str) (sc : Scope) : Prop where
 kind : sc.kind = .function
 co : sc.isCoroutine = false
 gen : sc.isGenerator = false
 nd : N.Nodup
 pre : N.take P.length = P
 par : ∀ x ∈ P,sc.names.lookup x = some .local \/ sc.names.lookup x = some .cell
 nofree : ∀ y ∈ sc.names,y.2 ≠ .free
theorem ziD {kindOf : Str -> Option NameKind} {x : Str} : ∀ {binds : List (Str × Value)} {m : Str -> Option Value},(∀ v,(x,v) ∉ binds) -> bindL kindOf binds m x = m x
 | [],_,_=>rfl
 | (n,v) :: r,m,h=>by
   unfold bindL;rw [ziD λ w hw=>h w (wI _ hw)]
   split
   . have : x ≠ n:=by rintro rfl; exact h v wO
     simp [this]
   . rfl
theorem ziE {kindOf : Str -> Option NameKind} {x : Str} : ∀ {binds : List (Str × Value)} {m : Str -> Option Value},(∀ v,(x,v) ∉ binds) -> bindC kindOf binds m x = m x
 | [],_,_=>rfl
 | (n,v) :: r,m,h=>by
   unfold bindC;rw [ziE λ w hw=>h w (wI _ hw)]
   split
   . rfl
   . have : x ≠ n:=by rintro rfl; exact h v wO
     simp [this]
theorem zh2 {kindOf : Str -> Option NameKind} {x : Str} {v : Value} : ∀ {P : List Str} {vs : List Value} {i : Nat} {m : Str -> Option Value},P.Nodup -> P[i]? = some x -> vs[i]? = some v -> kindOf x = some .local ->
   bindL kindOf (P.zip vs) m x = some v
 | [],_,_,_,_,h,_,_=>by simp at h
 | _ :: _,[],_,_,_,_,h,_=>by simp at h
 | p :: P,w :: vs,0,m,nd,h1,h2,hk=>by
   simp at h1 h2; subst h1; subst h2
   show bindL kindOf ((p,w) :: P.zip vs) m p = _
   unfold bindL;rw [ziD λ v hv=>(Wn.mp nd).1 (qx hv).1,if_pos hk];simp
 | p :: P,w :: vs,i + 1,m,nd,h1,h2,hk=>by
   show bindL kindOf ((p,w) :: P.zip vs) m x = _
   unfold bindL;exact zh2 (i:=i) (Wn.mp nd).2 (by simpa using h1) (by simpa using h2) hk
theorem ziA {kindOf : Str -> Option NameKind} {x : Str} {v : Value} : ∀ {P : List Str} {vs : List Value} {i : Nat} {m : Str -> Option Value},P.Nodup -> P[i]? = some x -> vs[i]? = some v -> kindOf x ≠ some .local ->
   bindC kindOf (P.zip vs) m x = some v
 | [],_,_,_,_,h,_,_=>by simp at h
 | _ :: _,[],_,_,_,_,h,_=>by simp at h
 | p :: P,w :: vs,0,m,nd,h1,h2,hk=>by
   simp at h1 h2; subst h1; subst h2
   show bindC kindOf ((p,w) :: P.zip vs) m p = _
   unfold bindC;rw [ziE λ v hv=>(Wn.mp nd).1 (qx hv).1,if_neg hk];simp
 | p :: P,w :: vs,i + 1,m,nd,h1,h2,hk=>by
   show bindC kindOf ((p,w) :: P.zip vs) m x = _
   unfold bindC;exact ziA (i:=i) (Wn.mp nd).2 (by simpa using h1) (by simpa using h2) hk
def start (N : List Str) (vs : List V) : St:=vs.map some ++ wl (N.length - vs.length) none
def zbz (CX : CXT) (P : Program) (w : World) (K : wa) (mg : Str -> Option Value) (base : Heap) (N : List Str) (qual : Str) (scope : Scope) (f : Addr) (cd : Value) (A : Around) (outer : List Env) (s : Shared) (H : Hp) (E : XK) : Cx where
 prog:=P
 w:=w
 K:=K
 mg:=mg
 base:=base
 A:=A.deeper (envOfC qual scope s.heap.objs.size f cd)
 N:=N
 s₀:=s
 H₀:=H
 env:=envOfC qual scope s.heap.objs.size f cd
 outer:=outer
 stack:=envOfC qual scope s.heap.objs.size f cd :: outer
 ex:=[]
 calm:=true
 fn:=λ _=>true
 pn:=[]
 xe:=λ e s'=>wpAny (model P w) (A.deeper (envOfC qual scope s.heap.objs.size f cd)) (leaving (envOfC qual scope s.heap.objs.size f cd) e) (λ _ s''=>CX outer H s E e s'') (λ e' s''=>CX outer H s E e' s'') s'
theorem zhz {sc : Scope} {n : Nat} {x : Str} (h : sc.names.lookup x = some .cell) : ∃ c,(cellsFrom n sc.names []).lookup x = some c:=by
 have q:=qE sc.names n [] (.inl h);exact Option.isSome_iff_exists.mp q
theorem zmK {CX : CXT} {P : Program} {w : World} {K : wa} {mg : Str -> Option Value} {base : Heap} {N ps : List Str} {qual : Str} {scope : Scope} {f : Addr} {cd : Value} {A : Around} {outer : List Env} {s s1 : Shared} {H : Hp} {E : XK} {us : List Value} {vs : List V}
   (S : zaB N ps scope) (hd : A.handled = none) (e0 : znT P w K mg base A outer s H) (hl : vs.length = ps.length) (r : zaG vs us)
   (x : InCallC s s.heap.objs.size (bindL (envOfC qual scope s.heap.objs.size f cd).kindOf (ps.zip us) λ _=>none) (cellsFrom (s.heap.objs.size + 1) scope.names []) (bindC (envOfC qual scope s.heap.objs.size f cd).kindOf (ps.zip us) λ _=>none) s1) :
   Inv (zbz CX P w K mg base N qual scope f cd A outer s H E) [] (start N vs) H s1:=by
 have hpl : ps.length <= N.length:=by have:=congrArg QV S.pre; rw [wC] at this; omega
 obtain ⟨h1,tk,rfl,hk⟩:=x.done;have noA : ∀ b : Addr,b ∉ (zbz CX P w K mg base N qual scope f cd A outer s H E).ex:=λ b z=>absurd (show b ∈ ([] : List Addr) from z) (by simp)
 refine ⟨⟨e0.mod,S.kind,rfl,rfl,wg _,λ y z c h1 h2=>?_,λ y hy=>?_,λ y c _ h=>?_,λ _=>hd,Around.frames_deeper e0.frames,.inr ⟨rfl,rfl⟩,λ b z=>absurd z (noA b),e0.bs,e0.bsz,λ b _ _=>noA b,λ b z=>absurd z (noA b),e0.funs,e0.frf⟩,
   rfl,e0.bare,Un.kept hk,⟨_,x.toInCall.ns,λ i y v h1 h2 h3=>?_⟩,λ y c h=>⟨_,x.cell y c h⟩,e0.hok.fresh (wg _),λ y c h=>?_,λ p hp=>absurd (show p ∈ ([] : List (Addr × Obj)) from hp) (by simp),e0.hok.kept hk,?_⟩
 . exact name_of_addr x.apart (Wz h1) (Wz h2)
 . have hy : scope.names.lookup y = some .cell \/ scope.names.lookup y = some .free:=hy
   rcases hy with hy | hy
   . exact zhz hy
   . exact absurd rfl (S.nofree _ (Wz hy))
 . exact WD (x.above y c (Wz h))
 . have hi : i < vs.length:=by
     unfold start at h2
     by_cases hi : i < vs.length
     . exact hi
     . rw [vp (by simpa using hi)] at h2
       rw [WZ] at h2
       split at h2 <;> cases h2
   have ha : vs[i]? = some v:=by
     unfold start at h2;rw [vv (by simpa using hi),wE] at h2;cases e : vs[i]? with
     | none=>rw [e] at h2; cases h2
     | some a=>rw [e] at h2; cases h2; rfl
   obtain ⟨u,hu,rv⟩:=r.get ha
   have hp : ps[i]? = some y:=by
     rw [<- S.pre,ql (by omega)]; exact h1
   have ndP : ps.Nodup:=by rw [<- S.pre]; exact S.nd.sublist (List.take_sublist _ _)
   refine ⟨u,rv,?_⟩;rcases S.par y (Wg hp) with k | k
   . exact .inl ⟨k,zh2 ndP hp hu k⟩
   . obtain ⟨c,e⟩:=zhz (n:=s.heap.objs.size + 1) k
     refine .inr ⟨.inl k,c,e,?_⟩;have q:=x.cell y c e;rw [ziA ndP hp hu (by show scope.names.lookup y ≠ _; rw [k]; decide)] at q;exact q
 . exact e0.hok.fresh (WD (x.above y c (Wz h)))
 . unfold start
   show _ = N.length
   rw [wf,wd,VO];omega
theorem zq7 {CX : CXT} {P : Program} {w : World} {K : wa} {mg : Str -> Option Value} {base : Heap} {k : Nat} {f : Addr} {name qual : Str} {params : Arguments} {body : List Stmt} {scope : Scope} {dV kV doc pm cdv ct oc : Value} {an od : Option Addr}
   {osl : Array (Option Value)} {N ps : List Str} {sp : Sp} (lk : K.lookup f = some ⟨oc,od,.func (wD name qual params body scope dV kV doc pm an cdv ct),osl⟩) (hcd : wA K cdv qual = true) (S : zaB N ps scope)
   (len : ∀ vs H Q E,sp vs H Q E -> vs.length = ps.length)
   (hbody : ∀ (A : Around) (outer : List Env) (s : Shared) (H : Hp) (vs : List V) (Q : VK) (E : XK),zej k (A.deeper (envOfC qual scope s.heap.objs.size f cdv)) -> sp vs H Q E ->
     ∃ t,PSs (zbz CX P w K mg base N qual scope f cdv A outer s H E) body t /\ t { nx:=λ _ H'=>Q .non H',rt:=Q } (start N vs) H) :
   zbB P w K mg base CX (k + 1) f (wD name qual params body scope dV kV doc pm an cdv ct) ps sp:=by
 refine ⟨len,λ A outer s H args us vs Q E hr e0 hb r hsp=>?_⟩;have hl:=len _ _ _ _ hsp;have KX : K.In s.heap:=e0.mod.kin.keeps λ b o e=>(e0.bs b o e).1
 have lim : s.heap.NoLimit:=e0.mod.nolimit.keeps λ b o e=>(e0.bs b o e).1
 have hkind : ∀ y ∈ ps.zip us,scope.names.lookup y.1 = some .local \/ (scope.names.lookup y.1 = some .cell /\ ((cellsFrom (s.heap.objs.size + 1) scope.names []).lookup y.1).isSome = true):=λ ⟨n,v⟩ hy=>by
   rcases S.par n (qx hy).1 with q | q
   . exact .inl q
   . exact .inr ⟨q,qE _ _ _ (.inl q)⟩
 refine codeAny_call_function hr.depth (KX _ _ lk) rfl S.co S.gen rfl (PySem.W.codeRec_of KX hcd) (hb _ _ _ _ ?_);refine wpAny_newFunctionEnv_cells S.kind hkind λ env he s1 x=>?_
 subst he;refine ⟨lim.keeps x.toInCall.keep,codeAny_func ?_⟩;obtain ⟨t,ht,hq⟩:=hbody A outer s H vs Q E (hr.deeper _) hsp;have I : Inv (zbz CX P w K mg base N qual scope f cdv A outer s H E) [] (start N vs) H s1:=zmK S hr.hd e0 hl r x;refine wpAny_mono (ht [] s1 (start N vs) H _ I hq) (λ fl s' hs=>?_) λ e s' hs=>hs
 have fin : ∀ {σ' : St} {H' : Hp} {v : V} {u : Value},Inv (zbz CX P w K mg base N qual scope f cdv A outer s H E) [] σ' H' s' -> zaQ v u -> Q v H' -> CE outer P w H s Q u s' :=
   λ {σ' H' v u} J rv q=>⟨v,H',J.os,J.bare,J.base,J.hok,rv,q⟩
 cases fl with
 | ret u =>
   obtain ⟨v,σ',H',J,rv,q⟩:=hs;exact fin J rv q
 | next =>
   obtain ⟨σ',H',J,q⟩:=hs;exact fin (v:=V.non) (u:=Value.none) J rfl q
 | brk =>
   obtain ⟨_,_,_,q⟩:=hs;exact WN q
 | cont =>
   obtain ⟨_,_,_,q⟩:=hs;exact WN q
section
variable {X : Cx} {x : Str} {p pos : Pos} {e : Expr} {es : List Expr} {t : TA} {id T : String} {r : List V -> Hp -> VK -> Prop}
def tCB (r : List V -> Hp -> VK -> Prop) (t : TA) : TE:=λ σ H Q=>t σ H λ vs H1=>r vs H1 Q
theorem zao (hc : zal X (.builtin id) r) (hg : Gl X x) (hm : X.mg x = none) (hv : bootBuiltins x = some (.builtin id)) (ha : PA X (e :: es) t) (hn : x ≠ "__name__":=by decide) (hdb : (x == ("__debug__" : Str)) = false:=by decide)
   (he : starEach (e :: es) X.env = (false,eval e X.env) :: starEach es X.env:=by rfl) (hpl : (backTo pos (starEach es X.env)).any (·.1) = false:=by rfl) : PE X (.Call (.Name x p) (e :: es) [] pos) (tCB r t):=by
 intro pins s σ H Q I h;refine wpAny_Call_Name_kw (zdi I hg hm hv ?_ hn hdb);exact PyProof.Rows.callWith_builtin1 (thn (ha pos pins s σ H _ I h) λ us s1 ⟨vs,H1,I1,r1,q1⟩=>hc pins s1 σ H1 vs us Q I1 r1 q1) he hpl
theorem zak (hc : zal X (.type T) r) (hg : Gl X x) (hm : X.mg x = none) (hv : bootBuiltins x = some (.type T)) (ha : PA X (e :: es) t) (hn : x ≠ "__name__":=by decide) (hdb : (x == ("__debug__" : Str)) = false:=by decide)
   (he : starEach (e :: es) X.env = (false,eval e X.env) :: starEach es X.env:=by rfl) (hpl : (backTo pos (starEach es X.env)).any (·.1) = false:=by rfl) : PE X (.Call (.Name x p) (e :: es) [] pos) (tCB r t):=by
 intro pins s σ H Q I h;refine wpAny_Call_Name_kw (zdi I hg hm hv ?_ hn hdb);exact vC (thn (ha pos pins s σ H _ I h) λ us s1 ⟨vs,H1,I1,r1,q1⟩=>hc pins s1 σ H1 vs us Q I1 r1 q1) he hpl
end
section
variable {κ : Type} [DecidableEq κ]
def zeT (kvs : List (κ × V)) (k : κ) : Option V:=(kvs.find? λ kv=>decide (kv.1 = k)).map (·.2)
def zdX (kvs : List (κ × V)) (k : κ) (v : V) : List (κ × V) :=
 if (kvs.any λ kv=>decide (kv.1 = k)) = true then kvs.map (λ kv=>if kv.1 = k then (kv.1,v) else kv) else kvs ++ [(k,v)]
theorem zg2 {p : κ × V} {r : List (κ × V)} {k : κ} (e : p.1 = k) : zeT (p :: r) k = some p.2:=by simp [zeT,Wv,e]
theorem zhJ {p : κ × V} {r : List (κ × V)} {k : κ} (e : ¬ p.1 = k) : zeT (p :: r) k = zeT r k:=by simp [zeT,Wv,e]
theorem zj0 (k : κ) : ∀ kvs : List (κ × V),(kvs.any λ kv=>decide (kv.1 = k)) = (zeT kvs k).isSome
 | []=>rfl
 | p :: r=>by
   rw [Vi]
   by_cases e : p.1 = k
   . simp only [zg2 e,decide_eq_true e,Xa,Option.isSome_some]
   . rw [zhJ e,decide_eq_false e,Bool.false_or]; exact zj0 k r
theorem zgj (kvs : List (κ × V)) (k : κ) (v : V) : (zdX kvs k v).length <= kvs.length + 1:=by
 unfold zdX
 split
 . rw [wd]; omega
 . rw [wf,wU,VQ]; omega
theorem zhR.isSome_eq {o : Option V} {u : Option Value} (r : zhR o u) : o.isSome = u.isSome:=by
 cases o with
 | none=>cases u with
   | none=>rfl
   | some _=>exact (show False from r).elim
 | some _=>cases u with
   | none=>exact (show False from r).elim
   | some _=>rfl
theorem KV.val {kvs : List (κ × V)} {vs : List (κ × Value)} (r : KV kvs vs) (k : κ) : zhR (zeT kvs k) (valueAt vs k):=by
 unfold KV at r
 induction r with
 | nil=>exact True.intro
 | @cons p q ps qs h t ih =>
   obtain ⟨h1,h2⟩:=h
   by_cases e : p.1 = k
   . have e' : q.1 = k:=h1.symm.trans e
     have b : valueAt (q :: qs) k = some q.2:=by simp [valueAt,Wv,e']
     rw [zg2 e,b]; exact h2
   . have e' : ¬ q.1 = k:=λ z=>e (h1.trans z)
     have b : valueAt (q :: qs) k = valueAt qs k:=by simp [valueAt,Wv,e']
     rw [zhJ e,b]; exact ih
theorem KV.any {kvs : List (κ × V)} {vs : List (κ × Value)} (r : KV kvs vs) (k : κ) : (kvs.any λ kv=>decide (kv.1 = k)) = vs.any λ kv=>decide (kv.1 = k):=by
 unfold KV at r
 induction r with
 | nil=>rfl
 | cons h t ih=>rw [Vi,Vi,ih,h.1]
theorem KV.repl {kvs : List (κ × V)} {vs : List (κ × Value)} (r : KV kvs vs) (k : κ) {y : V} {u : Value} (ry : zaQ y u) :
   KV (kvs.map λ kv=>if kv.1 = k then (kv.1,y) else kv) (vs.map λ kv=>if kv.1 = k then (kv.1,u) else kv):=by
 unfold KV at r ⊢
 induction r with
 | nil=>exact .nil
 | @cons p q ps qs h t ih =>
   rw [wv,wv];refine .cons ?_ ih;obtain ⟨h1,h2⟩:=h
   by_cases e : p.1 = k
   . rw [if_pos e,if_pos (h1.symm.trans e)]; exact ⟨h1,ry⟩
   . rw [if_neg e,if_neg (λ z=>e (h1.trans z))]; exact ⟨h1,h2⟩
theorem KV.put {kvs : List (κ × V)} {vs : List (κ × Value)} (r : KV kvs vs) (k : κ) {y : V} {u : Value} (ry : zaQ y u) : KV (zdX kvs k y) (stored vs k u):=by
 unfold zdX stored;rw [r.any k]
 by_cases e : (vs.any λ kv=>decide (kv.1 = k)) = true
 . rw [if_pos e,if_pos e]; exact r.repl k ry
 . rw [if_neg e,if_neg e]; exact QW r ⟨rfl,ry⟩
theorem KV.length {kvs : List (κ × V)} {vs : List (κ × Value)} (r : KV kvs vs) : kvs.length = vs.length:=V6 r
end
theorem zlO {P : Program} {w : World} {k : Key} {u : Value} (r : zaQ (kV k) u) : (zbT P w).is k u = true:=by
 cases k with
 | inl i=>obtain ⟨t,e⟩:=(show ∃ t,u = Value.int i t from r); subst e; exact zjM P w i t
 | inr x=>obtain ⟨t,e⟩:=(show ∃ t,u = Value.str x t from r); subst e; exact zjC P w x t
theorem zir {P : Program} {w : World} : ∀ {ks : List Key} {us : List Value},zaG (ks.map kV) us -> ItemsAre (zbT P w) ks us
 | [],_,r=>by rw [WE] at r; cases r; exact .nil
 | k :: ks,_,r=>by
   rw [wv] at r;cases r with
   | cons h t=>exact .cons (zlO h) (zir t)
abbrev KT (H : Hp) : List (List Key × V) -> List (List Key × Addr × Value) -> Prop:=Paired λ p q=>p.1 = q.1 /\ H q.2.1 = some (.tup (p.1.map kV)) /\ zaQ p.2 q.2.2
theorem KT.val {H : Hp} {kvs : List (List Key × V)} {xs : List (List Key × Addr × Value)} (r : KT H kvs xs) (k : List Key) : zhR (zeT kvs k) ((atKey xs k).map (·.2)):=by
 induction r with
 | nil=>exact True.intro
 | @cons p q ps qs h t ih =>
   obtain ⟨h1,_,h2⟩:=h
   by_cases e : p.1 = k
   . have e' : q.1 = k:=h1.symm.trans e
     have b : atKey (q :: qs) k = some q.2:=by simp [atKey,Wv,e']
     rw [zg2 e,b]; exact h2
   . have e' : ¬ q.1 = k:=λ z=>e (h1.trans z)
     have b : atKey (q :: qs) k = atKey qs k:=by simp [atKey,Wv,e']
     rw [zhJ e,b]; exact ih
theorem KT.repl {H : Hp} {kvs : List (List Key × V)} {xs : List (List Key × Addr × Value)} (r : KT H kvs xs) (k : List Key) {y : V} {u : Value} (ry : zaQ y u) :
   KT H (kvs.map λ kv=>if kv.1 = k then (kv.1,y) else kv) (xs.map (putAt k u)):=by
 induction r with
 | nil=>exact .nil
 | @cons p q ps qs h t ih =>
   rw [wv,wv];refine .cons ?_ ih;obtain ⟨h1,h2,h3⟩:=h;unfold putAt
   by_cases e : p.1 = k
   . rw [if_pos e,if_pos (h1.symm.trans e)]; exact ⟨h1,h2,ry⟩
   . rw [if_neg e,if_neg (λ z=>e (h1.trans z))]; exact ⟨h1,h2,h3⟩
theorem KT.put {H : Hp} {kvs : List (List Key × V)} {xs : List (List Key × Addr × Value)} (r : KT H kvs xs) (k : List Key) {b : Addr} {y : V} {u : Value} (hb : H b = some (.tup (k.map kV))) (ry : zaQ y u) :
   KT H (zdX kvs k y) (storedH xs k b u):=by
 have e : (kvs.any λ kv=>decide (kv.1 = k)) = (atKey xs k).isSome:=by
   rw [zj0,(r.val k).isSome_eq,QE]
 unfold zdX storedH;rw [e]
 by_cases q : (atKey xs k).isSome = true
 . rw [if_pos q,if_pos q]; exact r.repl k ry
 . rw [if_neg q,if_neg q]; exact QW r ⟨rfl,hb,ry⟩
theorem KT.keeps {H H' : Hp} {kvs : List (List Key × V)} {xs : List (List Key × Addr × Value)} (r : KT H kvs xs) (ht : ∀ b ys,H b = some (.tup ys) -> H' b = some (.tup ys)) : KT H' kvs xs :=
 Paired.mapP r λ _ _ z=>⟨z.1,ht _ _ z.2.1,z.2.2⟩
section
variable {P : Program} {w : World} {H : Hp} {h : Heap} {a : Addr}
theorem zqW {u : HO} (ok : HOk P w H h) (e : Rd H a u) : za9 P w H h a u:=e.ok ok
theorem zlw {kvs : List (Key × V)} (ok : HOk P w H h) (e : Rd H a (.dK kvs)) : kvs.length <= sizeLine /\ (a == sysModules) = false /\ ∃ vs,KV kvs vs /\ h.DictOf (zbT P w) a vs :=
 show za9 P w H h a (.dK kvs) from zqW ok e
theorem zs3 {kvs : List (Key × V)} (ok : HOk P w H h) (e : H a = some (.dK kvs)) : kvs.length <= sizeLine /\ (a == sysModules) = false /\ ∃ vs,KV kvs vs /\ h.DictOf (zbT P w) a vs:=zlw ok (.inl e)
theorem zji {ks : List Key} (ok : HOk P w H h) (e : H a = some (.tup (ks.map kV))) : (tupleKind (zbT P w)).is h ks a:=by
 obtain ⟨_,its,r,o,h1,h2,n,h3⟩:=(show za9 P w H h a (.tup (ks.map kV)) from ok a _ e);exact ⟨o,its.toArray,n,h1,h2,h3,by simpa using zir r⟩
theorem zlz {kvs : List (List Key × V)} (ok : HOk P w H h) (e : Rd H a (.dT kvs)) : kvs.length <= sizeLine /\ (a == sysModules) = false /\
   ∃ xs,KT H kvs xs /\ h.DictOfH (tupleKind (zbT P w)) a xs:=by
 obtain ⟨z,y,xs,r,o,es,ep,h1,h2,h3,h4,h5⟩:=(show za9 P w H h a (.dT kvs) from zqW ok e);refine ⟨z,y,xs,r,o,es,ep,h1,h2,h3,h4,λ x hx=>?_,h5⟩
 have all : ∀ {l : List (List Key × V)} {m : List (List Key × Addr × Value)},KT H l m -> ∀ x ∈ m,(tupleKind (zbT P w)).is h x.1 x.2.1:=by
   intro l m q
   induction q with
   | nil=>intro x hx; exact nomatch hx
   | @cons p q ps qs hq t ih =>
     intro x hx;rcases wm.mp hx with e | hx
     . subst e
       exact zji ok (by rw [<- hq.1]; exact hq.2.1)
     . exact ih x hx
 exact all r x hx
theorem zsH {kvs : List (List Key × V)} (ok : HOk P w H h) (e : H a = some (.dT kvs)) : kvs.length <= sizeLine /\ (a == sysModules) = false /\
   ∃ xs,KT H kvs xs /\ h.DictOfH (tupleKind (zbT P w)) a xs:=zlz ok (.inl e)
end
def zf2 (H : Hp) (a : Addr) (y : V) (r : Option V) : Prop :=
 (∃ kvs k,Rd H a (.dK kvs) /\ y = kV k /\ r = zeT kvs k) \/ ∃ kvs k b,Rd H a (.dT kvs) /\ y = .ref b /\ H b = some (.tup (k.map kV)) /\ r = zeT kvs k
def zlh (H : Hp) (a : Addr) (y v : V) (H' : Hp) : Prop :=
 (∃ kvs k,H a = some (.dK kvs) /\ y = kV k /\ kvs.length < sizeLine /\ H' = upd H a (.dK (zdX kvs k v))) \/
 ∃ kvs k b,H a = some (.dT kvs) /\ y = .ref b /\ H b = some (.tup (k.map kV)) /\ kvs.length < sizeLine /\ H' = upd H a (.dT (zdX kvs k v))
theorem zf2.k {H : Hp} {a : Addr} {kvs : List (Key × V)} {k : Key} (e : H a = some (.dK kvs)) : zf2 H a (kV k) (zeT kvs k):=.inl ⟨kvs,k,.inl e,rfl,rfl⟩
theorem zlh.k {H : Hp} {a : Addr} {kvs : List (Key × V)} {k : Key} {v : V} (e : H a = some (.dK kvs)) (hl : kvs.length < sizeLine) : zlh H a (kV k) v (upd H a (.dK (zdX kvs k v))):=.inl ⟨kvs,k,e,rfl,hl,rfl⟩
section
variable {X : Cx} {pins : List (Addr × Obj)} {σ : St} {H : Hp} {s : Shared} {a : Addr} {y v : V} {u r : Value} {o : Option V} {A : Around} {E : Value -> Shared -> Prop}
theorem Inv.big (I : Inv X pins σ H s) : sysModules < s.heap.objs.size:=by
 have h : mainGlobals < s.heap.objs.size:=(I.mod.glob.keeps I.bk).lt;exact Qk (by decide) h
theorem zmv {Q : Value -> Shared -> Prop} (hu : A.units + 1 < cLine) (I : Inv X pins σ H s) (g : zf2 H a y (some v)) (ry : zaQ y u) (h : ∀ w' s',Inv X pins σ H s' -> zaQ v w' -> Q w' s') :
   wpAny (model X.prog X.w) A (getItem (.ref a) u) Q E s:=by
 rcases g with ⟨kvs,k,e,ey,l⟩ | ⟨kvs,k,b,e,ey,eb,l⟩
 . subst ey
   obtain ⟨z,hd,vs,rel,dd⟩:=zlw I.hok e;obtain ⟨w',hw,rw'⟩:=zhR.some_of (v:=v) (o:=valueAt vs k) (by rw [l]; exact rel.val k);exact wpAny_getItem_of (zlO ry) dd.mapOf hw (h w' _ (I.tok _) rw')
 . subst ey
   cases (show u = Value.ref b from ry);obtain ⟨z,hd,xs,rel,dd⟩:=zlz I.hok e;obtain ⟨w',hw,rw'⟩:=zhR.some_of (v:=v) (o:=(atKey xs k).map (·.2)) (by rw [l]; exact rel.val k);obtain ⟨p,hp,hp2⟩:=W6.mp hw;refine wpAny_getItem_heap (tupleKind_room_in1 hu) (zji I.hok eb) dd hp ?_;rw [hp2];exact h w' _ (I.tok _) rw'
theorem ztw {Q : Value -> Shared -> Prop} (hu : A.units + 1 < cLine) (I : Inv X pins σ H s) (g : zf2 H a y o) (ry : zaQ y u) (h : ∀ s',Inv X pins σ H s' -> Q (.bool o.isSome) s') :
   wpAny (model X.prog X.w) A (compareOp .In u (.ref a)) Q E s:=by
 rcases g with ⟨kvs,k,e,ey,l⟩ | ⟨kvs,k,b,e,ey,eb,l⟩
 . subst ey
   obtain ⟨z,hd,vs,rel,dd⟩:=zlw I.hok e;refine wpAny_in_of (zlO ry) hd dd.mapOf ?_;rw [<- (rel.val k).isSome_eq,<- l];exact h _ (I.tok _)
 . subst ey
   cases (show u = Value.ref b from ry);obtain ⟨z,hd,xs,rel,dd⟩:=zlz I.hok e;refine wpAny_in_heap (tupleKind_room_in1 hu) (zji I.hok eb) hd dd ?_;have q:=(rel.val k).isSome_eq;rw [QE] at q;rw [<- q,<- l];exact h _ (I.tok _)
theorem zi5 {h' : Heap} {t' : Nat} {ob : HO} (I : Inv X pins σ H s) (mu : Mut (H a)) (hs : vg a s.heap h') (he : ∃ q,h'.get? a = some q) (new : za9 X.prog X.w (upd H a ob) h' a ob) :
   Inv X pins σ (upd H a ob) { s with heap:=h',toks:=t' } :=
 I.write (x:=a) (e:=a) mu (.inl rfl) (λ b q hb z=>(hs.2 b hb).trans z) he new
theorem zsc {P : Program} {w : World} {H' : Hp} {h' : Heap} {kvs : List (Key × V)} {vs : List (Key × Value)} (z : kvs.length <= sizeLine) (hd : (a == sysModules) = false) (rel : KV kvs vs) (dd : h'.DictOf (zbT P w) a vs) :
   za9 P w H' h' a (.dK kvs):=⟨z,hd,vs,rel,dd⟩
theorem zmB {H' : Hp} {Q : Unit -> Shared -> Prop} (hu : A.units + 1 < cLine) (I : Inv X pins σ H s) (g : zlh H a y v H') (ry : zaQ y u) (rv : zaQ v r) (h : ∀ s',Inv X pins σ H' s' -> Q () s') :
   wpAny (model X.prog X.w) A (setItem (.ref a) u r) Q E s:=by
 rcases g with ⟨kvs,k,e,ey,l,eH⟩ | ⟨kvs,k,b,e,ey,eb,l,eH⟩
 . subst ey eH
   obtain ⟨z,hd,vs,rel,dd⟩:=zs3 I.hok e;have hz : vs.length <= sizeLine:=by rw [<- rel.length]; exact z
   have hl : (zdX kvs k v).length <= sizeLine:=by have:=zgj kvs k v; omega
   refine wpAny_setItem_pairs (hsz:=hz) (zlO ry) dd λ h' dd' hs=>h _ ?_
   have he : ∃ q,h'.get? a = some q:=let ⟨q,_,_,hq,_⟩:=dd'; ⟨q,hq⟩
   exact zi5 I (by rw [e]; exact True.intro) hs he (zsc hl hd (rel.put k rv) dd')
 . subst ey eH
   cases (show u = Value.ref b from ry);obtain ⟨z,hd,xs,rel,dd⟩:=zsH I.hok e;have hz : xs.length <= sizeLine:=by rw [<- V6 rel]; exact z
   have hl : (zdX kvs k v).length <= sizeLine:=by have:=zgj kvs k v; omega
   refine wpAny_setItem_heap (hsz:=hz) (tupleKind_room_in1 hu) (zji I.hok eb) dd λ h' dd' hs=>h _ ?_
   obtain ⟨q,es,ep,hq,h2,h3,h4,_,h5⟩:=dd';refine zi5 I (by rw [e]; exact True.intro) hs ⟨q,hq⟩ ⟨hl,hd,_,(rel.put k eb rv).keeps λ c ys ec=>?_,q,es,ep,hq,h2,h3,h4,h5⟩;rw [zbj (zne ec e (λ z=>nomatch z))];exact ec
end
section
variable {X : Cx} {pins : List (Addr × Obj)} {σ : St} {H : Hp} {s : Shared} {a : Addr} {kvs : List (Key × V)} {k : Key} {u : Value} {A : Around} {E : Value -> Shared -> Prop}
end
def zrn (i : Expr) : Prop:=∀ ov iv,subscripted i false ov iv = operate [ov,iv] (getItem ov iv)
theorem zlP {prog : Program} {w : World} {A : Around} {E : Value -> Shared -> Prop} {s : Shared} {env : Env} {value slice : Expr} {pos : Pos} {T id : String} {Q : Value -> Shared -> Prop}
   (hl : typeLookup (.type T) "__getitem__" = pure (some (.builtin id))) (hs : zrn slice)
   (h : wpAny (model prog w) A (eval value env) (λ o s₁=>wpAny (model prog w) A (eval slice env) (λ i s₂=>s₂.TypeIs o T /\ wpAny (model prog w) A (getItem o i) Q E s₂) E s₁) E s) :
   wpAny (model prog w) A (eval (.Subscript value slice pos) env) Q E s:=by
 refine Subscript_ (wpAny_mono h (λ o s₁ h₁=>wpAny_mono h₁ (λ i s₂ h₂=>?_) λ _ _ x=>x) λ _ _ x=>x);obtain ⟨hT,h₂⟩:=h₂;unfold subscriptTail;refine wpAny_bind ?_;rw [getitemInPython_of_ne hT.not_modules];refine wpAny_bind (wpAny_specialOf hT hl ?_)
 have fin : wpAny (model prog w) A (subscripted slice false o i) (λ r s₃=>wpAny (model prog w) A (letTemporaryGo value o r >>= λ _=>pure r) Q E s₃) E s₂:=by
   rw [hs o i];exact wpAny_operating (wpAny_mono h₂ (λ r s₃ h₃=>wpAny_bind (wpAny_letTemporaryGo (wpAny_pure h₃))) λ _ _ x=>x)
 first
   | exact wpAny_pure (wpAny_bind fin)
   | exact wpAny_bind (wpAny_pure (wpAny_bind fin))
   | exact wpAny_bind fin
theorem zj4 {X : Cx} {pins : List (Addr × Obj)} {σ : St} {H : Hp} {s : Shared} {a : Addr} {y : V} {o : Option V} (I : Inv X pins σ H s) (g : zf2 H a y o) : s.TypeIs (.ref a) "dict":=by
 rcases g with ⟨kvs,k,e,_,_⟩ | ⟨kvs,k,b,e,_,_,_⟩
 . obtain ⟨_,_,vs,_,dd⟩:=zlw I.hok e
   exact dd.typeIs
 . obtain ⟨_,_,xs,_,dd⟩:=zlz I.hok e
   exact dd.typeIs
def zq0 (td ty : TE) : TE:=λ σ H Q=>td σ H λ x H1=>ty σ H1 λ y H2=>∃ a v,x = .ref a /\ zf2 H2 a y (some v) /\ Q v H2
def zs4 (ty td : TE) : TE:=λ σ H Q=>ty σ H λ y H1=>td σ H1 λ x H2=>∃ a o,x = .ref a /\ zf2 H2 a y o /\ Q (.bl o.isSome) H2
def zq3 (td ty tv : TE) : TS:=λ D σ H=>tv σ H λ v H1=>td σ H1 λ x H2=>ty σ H2 λ y H3=>∃ a H4,x = .ref a /\ zlh H3 a y v H4 /\ D.nx σ H4
section
variable {X : Cx} {o i e value : Expr} {pos pos' tpos : Pos} {td ty tv : TE}
theorem zje (hu : X.A.units + 1 < cLine) (ho : PE X o td) (hi : PE X i ty) (hs : zrn i) : PE X (.Subscript o i pos) (zq0 td ty):=by
 intro pins s σ H Q I h;refine zlP qi.lookup hs (thn (ho pins s σ H _ I h) λ u s1 ⟨x,H1,I1,rx,q1⟩=>thn (hi pins s1 σ H1 _ I1 q1) λ iv s2 ⟨y,H2,I2,ry,a,v,ex,g,q2⟩=>?_);subst ex;obtain rfl : u = Value.ref a:=rx;exact ⟨zj4 I2 g,zmv hu I2 g ry λ w' s3 I3 rw'=>⟨v,H2,I3,rw',q2⟩⟩
theorem zr8 (hu : X.A.units + 1 < cLine) (hi : PE X i ty) (ho : PE X o td) : PC X .In i o (zs4 ty td):=by
 intro pins s σ H Q I h;refine thn (hi pins s σ H _ I h) λ iv s1 ⟨y,H1,I1,ry,q1⟩=>thn (ho pins s1 σ H1 _ I1 q1) λ u s2 ⟨x,H2,I2,rx,a,ov,ex,g,q2⟩=>?_
 subst ex;obtain rfl : u = Value.ref a:=rx;exact ztw hu I2 g ry λ s3 I3=>⟨.bl ov.isSome,H2,I3,rfl,q2⟩
theorem zpW (hu : X.A.units + 1 < cLine) (ho : PE X o td) (hi : PE X i ty) (hv : PE X value tv) (hs : swapsWith value (some (.Subscript o i pos')) pos.line X.env = pure false) :
   PS X (.Assign [.Subscript o i pos'] value pos) (zq3 td ty tv):=by
 intro pins s σ H D I h;refine wpAny_Assign_Subscript (thn (hv pins s σ H _ I h) λ r s1 ⟨v,H1,I1,rv,q1⟩=>thn (ho pins s1 σ H1 _ I1 q1) λ u s2 ⟨x,H2,I2,rx,q2⟩=>thn (hi pins s2 σ H2 _ I2 q2) λ iv s3 ⟨y,H3,I3,ry,a,H4,ex,g,q3⟩=>?_) hs;subst ex;obtain rfl : u = Value.ref a:=rx;exact zmB hu I3 g ry rv λ s4 I4=>⟨σ,H4,I4,q3⟩
end
theorem zoW {P : Program} {w : World} {H : Hp} (h : Heap) (hb : sysModules < h.objs.size) : za9 P w H (h.push { cls:=.type "dict",data:=.dict #[] }) h.objs.size (.dK []) :=
 ⟨vB _,beq_eq_false_iff_ne.mpr (vH (wF hb)),[],.nil,Heap.DictOf.new h⟩
def zoz : TE:=λ _ H Q=>∀ p,H p = none -> Q (.ref p) (upd H p (.dK []))
section
variable {X : Cx} {pos : Pos}
theorem zpm : PE X (.Dict [] [] pos) zoz:=λ pins s σ H Q I h =>
 wpAny_Dict_empty ⟨.ref s.heap.objs.size,_,I.laid (a:=s.heap.objs.size) (o:=.dK []) (t':=s.toks) (λ _ _ q=>wb _ q) (wg _) (zoW s.heap I.big),rfl,h _ (I.hok.fresh (wg _))⟩
end
abbrev VV : List (V × V) -> List (Value × Value) -> Prop:=Paired λ p q=>zaQ p.1 q.1 /\ zaQ p.2 q.2
structure M1 (X : Cx) (o : Expr) (m : Str) (apos : Pos) (e : Expr) (cpos : Pos) : Prop where
 base : attributeBase o m X.env (eval o X.env) = eval o X.env
 few : ((backTo cpos (starEach [e] X.env)).all (λ x=>!x.1) && (backToKw cpos (keywordEach [] X.env)).all (λ x=>x.1.isSome)
   && decide (([e] : List Expr).length + ([] : List Keyword).length + (if ([] : List Keyword).isEmpty then 0 else 1) < 30)) = true
 line : (apos.endLine == cpos.line) = true
 trees : backTo cpos (starEach [e] X.env) = [(false,eval e X.env)]
structure M2 (X : Cx) (o : Expr) (m : Str) (apos : Pos) (e f : Expr) (cpos : Pos) : Prop where
 base : attributeBase o m X.env (eval o X.env) = eval o X.env
 few : ((backTo cpos (starEach [e,f] X.env)).all (λ x=>!x.1) && (backToKw cpos (keywordEach [] X.env)).all (λ x=>x.1.isSome)
   && decide (([e,f] : List Expr).length + ([] : List Keyword).length + (if ([] : List Keyword).isEmpty then 0 else 1) < 30)) = true
 line : (apos.endLine == cpos.line) = true
 trees : backTo cpos (starEach [e,f] X.env) = [(false,eval e X.env),(false,eval f X.env)]
section
variable {X : Cx} {pins : List (Addr × Obj)} {σ : St} {H : Hp} {s : Shared} {a : Addr} {y d : V} {u r : Value} {o : Option V} {A : Around} {E : Value -> Shared -> Prop}
end
section
variable {X : Cx} {o e f : Expr} {apos cpos : Pos} {td ty tx : TE}
end
section
variable {X : Cx} {pins : List (Addr × Obj)} {σ : St} {H : Hp} {s : Shared} {a : Addr} {kvs : List (Key × V)} {A : Around} {E : Value -> Shared -> Prop}
end
section
variable {X : Cx} {pins : List (Addr × Obj)} {σ : St} {H : Hp} {s : Shared} {a : Addr} {y : V} {u : Value} {A : Around} {E : Value -> Shared -> Prop}
end
end L2
namespace HT
open PySem PyProof.Rows
section
open PySem.SeqAt
open PySem.AutoSeq1 (wpAny_loadPart')
open PySem.MeetsSeq PySem.MeetsSeq2 PySem.MeetsSeq3
end
section
variable {prog : Program} {w : World} {A : Around} {E : Value -> Shared -> Prop} {s : Shared}
theorem cat_tup {t b : Addr} {vs ws : List Value} {Q : Value -> Shared -> Prop} (ht : IsTup s.heap t vs.toArray) (hb : IsTup s.heap b ws.toArray) (hv : vs ≠ [])
   (h1 : ws = [] -> Q (.ref t) s) (h2 : ws ≠ [] -> Q (.ref s.heap.objs.size) { s with heap:=s.heap.push { cls:=.type "tuple",data:=.seq (vs ++ ws).toArray } })
   (hsz : vs.length + ws.length <= sizeLine) : wpAny (model prog w) A (binaryOp .Add (.ref t) (.ref b)) Q E s:=by
 obtain ⟨⟨cls,dd,data,sl⟩,ho,hc,n,hd⟩:=id ht;obtain ⟨⟨cls2,dd2,data2,sl2⟩,ho2,hc2,n2,hd2⟩:=id hb;simp only at hc hd hc2 hd2;subst hc hd hc2 hd2;have e : vs.toArray ++ ws.toArray = (vs ++ ws).toArray:=by simp
 by_cases hw : ws = []
 . exact concat_meets ⟨_,ho,rfl⟩ ⟨_,ho2,rfl⟩ noFill_tuple_add seq_tuple_add VC Vu (Vp _ _)
     (tuple_addW1 t b vs.toArray ws.toArray n n2 dd dd2 sl sl2 (by simpa using hv) (by simp [hw])) ⟨ho,ho2,h1 hw⟩
 . refine concat_meets ⟨_,ho,rfl⟩ ⟨_,ho2,rfl⟩ noFill_tuple_add seq_tuple_add VC Vu (Vp _ _)
     (tuple_addW2 t b vs.toArray ws.toArray n n2 dd dd2 sl sl2 (by simpa using hv) (by simpa using hw) (by rw [wq,wq]; exact hsz)) ⟨ho,ho2,?_⟩
   rw [e];exact h2 hw
def sIx (n d : Nat) : Option Int -> Nat
 | none=>d
 | some v=>if v < 0 then (v + (n : Int)).toNat else min v.toNat n
theorem sIx_none (n d : Nat) : sIx n d none = d:=rfl
theorem sIx_nat (n d k : Nat) : sIx n d (some (k : Int)) = min k n:=by
 show (if (k : Int) < 0 then ((k : Int) + (n : Int)).toNat else min (k : Int).toNat n) = min k n
 rw [if_neg (by omega),wG]
theorem zsp (n d : Nat) (hd : d <= n) (o : Option Int) : sIx n d o <= n:=by
 cases o with
 | none=>exact hd
 | some v =>
   show (if v < 0 then (v + (n : Int)).toNat else min v.toNat n) <= n
   by_cases hv : v < 0
   . rw [if_pos hv]; omega
   . rw [if_neg hv]; exact Nat.min_le_right _ _
theorem zlB (v : Int) (n d : Nat) : (if v < 0 then max (v + (n : Int)) 0 else min v (n : Int)) = ((sIx n d (some v) : Nat) : Int):=by
 show (if v < 0 then max (v + (n : Int)) 0 else min v (n : Int)) = (((if v < 0 then (v + (n : Int)).toNat else min v.toNat n) : Nat) : Int)
 by_cases hv : v < 0
 . simp only [if_pos hv]; omega
 . simp only [if_neg hv]; omega
theorem zls (lo hi : Option Int) (n : Nat) : Vm lo hi 1 (n : Int) = (((sIx n 0 lo : Nat) : Int),((sIx n n hi : Nat) : Int)):=by
 have h1 : ¬ ((1 : Int) < 0):=by omega
 unfold Vm;simp only [h1,if_false];refine Xb ?_ ?_
 . cases lo with
   | none=>rfl
   | some v=>exact zlB v n 0
 . cases hi with
   | none=>rfl
   | some v=>exact zlB v n n
theorem zk4 (i j : Nat) : WO (i : Int) (j : Int) 1 = j - i:=by
 unfold WO;have h1 : (1 : Int) > 0:=by omega
 simp only [h1,if_true,Int.ediv_one]
 split <;> omega
theorem zhn {v : Value} {o : Option Int} {Q : Option Int -> Shared -> Prop} (p : IsPart v o) (h : Q o s) : wpAny (model prog w) A (xx v) Q E s:=by
 cases p with
 | none=>exact slicePart_none h
 | int i t=>exact slicePart_int h
theorem zfX {sl : Addr} {vl vu : Value} {lo hi : Option Int} {n : Nat} {Q : Int × Int × Nat -> Shared -> Prop} (hs : s.heap.IsSliceOf sl vl vu .none) (pl : IsPart vl lo) (pu : IsPart vu hi)
   (h : Q (((sIx n 0 lo : Nat) : Int),1,sIx n n hi - sIx n 0 lo) s) : wpAny (model prog w) A (V8 (.ref sl) (pure (n : Int))) Q E s:=by
 obtain ⟨os,hos,hcs,hds⟩:=id hs;unfold V8 xW;refine wpAny_bind (wpAny_bind (wpAny_field hos hds (x:=vl) rfl (wpAny_bind (wpAny_field hos hds (x:=vu) rfl (wpAny_bind (wpAny_field hos hds (x:=.none) rfl (wpAny_pure ?_)))))));refine wpAny_bind (slicePart_none ?_)
 show wpAny _ _ (if ((1 : Int) == 0) = true then _ else _) _ _ s
 rw [if_neg (by decide)];refine wpAny_bind (zhn pl (wpAny_bind (zhn pu (wpAny_bind (wpAny_pure ?_)))))
 show wpAny _ _ (match Vm lo hi 1 (n : Int) with | (lo,hi)=>pure (lo,(1 : Int),WO lo hi 1)) _ _ s
 rw [zls lo hi n]
 show wpAny _ _ (pure (((sIx n 0 lo : Nat) : Int),(1 : Int),WO ((sIx n 0 lo : Nat) : Int) ((sIx n n hi : Nat) : Int) 1)) _ _ s
 rw [zk4];exact wpAny_pure h
theorem znQ (xs : Array Value) (i k : Nat) : ((wo k).filterMap λ (m : Nat)=>xs[((i : Int) + (m : Int) * 1).toNat]?).toArray = ((xs.toList.drop i).take k).toArray:=by
 have e : (λ (m : Nat)=>xs[((i : Int) + (m : Int) * 1).toNat]?) = λ m=>xs[i + m]?:=by
   funext m
   have : ((i : Int) + (m : Int) * 1).toNat = i + m:=by omega
   rw [this]
 rw [e];have:=pick_run xs i k;rw [List.filterMap_map] at this;have e2 : ((λ x=>xs[x]?) ∘ λ x=>i + x) = λ m=>xs[i + m]?:=rfl
 rw [e2] at this;rw [this]
theorem getItem_tuple_cut {t sl : Addr} {items : Array Value} {vl vu : Value} {lo hi : Option Int} {Q : Value -> Shared -> Prop} (ht : IsTup s.heap t items) (hs : s.heap.IsSliceOf sl vl vu .none) (pl : IsPart vl lo) (pu : IsPart vu hi)
   (hw : ¬ (sIx items.size 0 lo = 0 /\ sIx items.size items.size hi = items.size))
   (h : Q (.ref s.heap.objs.size) { s with heap:=s.heap.push { cls:=.type "tuple",data:=.seq ((items.toList.drop (sIx items.size 0 lo)).take (sIx items.size items.size hi - sIx items.size 0 lo)).toArray } })
   (hsz : items.size <= sizeLine) : wpAny (model prog w) A (getItem (.ref t) (.ref sl)) Q E s:=by
 have htake : sizeOk (.seq ((items.toList.drop (sIx items.size 0 lo)).take (sIx items.size items.size hi - sIx items.size 0 lo)).toArray):=by
   show ((items.toList.drop (sIx items.size 0 lo)).take (sIx items.size items.size hi - sIx items.size 0 lo)).toArray.size <= sizeLine
   rw [wq,wC,wP,wu];omega
 have hj : sIx items.size items.size hi <= items.size:=zsp _ _ (wg _) hi;obtain ⟨os,hos,hcs,hds⟩:=id hs;have hTs : s.TypeIs (.ref sl) "slice":=⟨os,hos,hcs⟩;unfold getItem
 try with_reducible refine wpAny_holding ?_
 first | refine wpAny_bind (wpAny_pure ?_) | skip
 refine wpAny_bind (wpAny_sequenceKey ht.typeIs (by decide) ?_)
 refine wpAny_bind (wpAny_callSpecial?_slot (name:=Ww "__getitem__") ht.typeIs WY
   (wpAny_call_entry WY ht.typeIs entry_tuple_getitem ?_ (args_tuple_getitem _ _)))
 show wpAny _ _ (V9 (.ref t) >>= _) _ _ s
 refine wpAny_bind (tupleItemsOf_ ht ?_);refine wpAny_bind (wpAny_typeOf hTs ?_);rw [if_pos (by decide)];refine wpAny_bind (zfX hs pl pu ?_)
 have hno : ¬ ((((sIx items.size 0 lo : Nat) : Int) == 0 && (1 : Int) == 1 && (sIx items.size items.size hi - sIx items.size 0 lo) == items.size) = true):=by
   intro q;rw [wX,wX] at q;have q1 : ((sIx items.size 0 lo : Nat) : Int) = 0:=eq_of_beq q.1.1;have q2 : sIx items.size items.size hi - sIx items.size 0 lo = items.size:=eq_of_beq q.2;exact hw ⟨by omega,by omega⟩
 show wpAny _ _ (if (((sIx items.size 0 lo : Nat) : Int) == 0 && (1 : Int) == 1 && (sIx items.size items.size hi - sIx items.size 0 lo) == items.size) = true then _ else _) _ _ s
 rw [if_neg hno,znQ]
 first
   | exact wpAny_bind (m:=WT _) (wpAny_newObj_type (wpAny_pure ⟨_,rfl,wpAny_pure h⟩) htake)
   | exact wpAny_bind (m:=WT _) (wpAny_newObj_type (wpAny_bind (wpAny_pure (wpAny_pure ⟨_,rfl,wpAny_pure h⟩))) htake)
   | exact wpAny_bind (wpAny_bind (m:=WT _) (wpAny_newObj_type (wpAny_pure (wpAny_pure ⟨_,rfl,wpAny_pure h⟩)) htake))
   | exact wpAny_bind (wpAny_bind (m:=WT _) (wpAny_newObj_type (wpAny_pure ⟨_,rfl,wpAny_pure h⟩) htake))
end
end HT
namespace L2
open PySem PySem.Spec PyProof.Rows
abbrev TO:=St -> Hp -> (Option Int -> Hp -> Prop) -> Prop
def PO (X : Cx) (e : Option Expr) (t : TO) : Prop :=
 ∀ (pins : List (Addr × Obj)) (s : Shared) (σ : St) (H : Hp) (Q : Option Int -> Hp -> Prop),Inv X pins σ H s -> t σ H Q ->
   wpAny (model X.prog X.w) X.A (evalPart e X.env) (λ u s'=>∃ o H',Inv X pins σ H' s' /\ IsPart u o /\ Q o H') X.xe s
def zlI : TO:=λ _ H Q=>Q none H
def zrh (t : TE) : TO:=λ σ H Q=>t σ H λ x H1=>∃ i,x = .int i /\ Q (some i) H1
theorem zfg {ns : List Int} : ∀ {us : List Value},zaG (ns.map V.int) us -> IntsAre us ns:=by
 induction ns with
 | nil=>intro us r; rw [WE] at r; cases r; exact .nil
 | cons n ns ih =>
   intro us r;rw [wv] at r;cases r with
   | cons r1 r2 =>
     obtain ⟨t,e⟩:=r1;subst e;exact .cons n t (ih r2)
section
variable {X : Cx} {e : Expr} {te : TE} {lo hi : Option Expr} {tl th : TO} {pos p2 : Pos}
theorem za5 : PO X none zlI:=by
 intro pins s σ H Q I h;rw [evalPart_none];exact wpAny_pure ⟨none,H,I,.none,h⟩
theorem za4 (h : PE X e te) : PO X (some e) (zrh te):=by
 intro pins s σ H Q I hw;rw [evalPart_some];refine thn (h pins s σ H _ I hw) λ u s1 ⟨x,H1,I1,r1,q1⟩=>?_
 obtain ⟨i,rfl,q⟩:=q1;obtain ⟨t,rfl⟩:=r1;exact ⟨some i,H1,I1,.int i t,q⟩
def SlR (X : Cx) (r : V -> Option Int -> Option Int -> Hp -> VK -> Prop) : Prop :=
 ∀ (pins : List (Addr × Obj)) (s : Shared) (σ : St) (H : Hp) (x : V) (v vl vu : Value) (lo hi : Option Int) (sl : Addr) (Q : VK),Inv X pins σ H s -> zaQ x v -> s.heap.IsSliceOf sl vl vu .none -> IsPart vl lo -> IsPart vu hi -> r x lo hi H Q ->
   ∃ T id,typeLookup (.type T) "__getitem__" = pure (some (.builtin id)) /\ s.TypeIs v T /\ wpAny (model X.prog X.w) X.A (getItem v (.ref sl)) (EP X pins σ Q) X.xe s
theorem SlR.or {r r' : V -> Option Int -> Option Int -> Hp -> VK -> Prop} (h : SlR X r) (h' : SlR X r') : SlR X (λ x lo hi H Q=>r x lo hi H Q \/ r' x lo hi H Q):=by
 intro pins s σ H x v vl vu lo hi sl Q I rx hs pl pu q;rcases q with q | q
 . exact h pins s σ H x v vl vu lo hi sl Q I rx hs pl pu q
 . exact h' pins s σ H x v vl vu lo hi sl Q I rx hs pl pu q
def tSl (r : V -> Option Int -> Option Int -> Hp -> VK -> Prop) (te : TE) (tl th : TO) : TE:=λ σ H Q=>te σ H λ x H1=>tl σ H1 λ l H2=>th σ H2 λ u H3=>r x l u H3 Q
theorem zaT {r : V -> Option Int -> Option Int -> Hp -> VK -> Prop} (hr : SlR X r) (he : PE X e te) (hl : PO X lo tl) (hu : PO X hi th) : PE X (.Subscript e (.Slice lo hi none p2) pos) (tSl r te tl th):=by
 intro pins s σ H Q I h;refine Subscript_ (thn (he pins s σ H _ I h) λ v s1 ⟨x,H1,I1,r1,q1⟩=>?_);refine wpAny_Slice (thn (hl pins s1 σ H1 _ I1 q1) λ vl s2 ⟨l,H2,I2,pl,q2⟩=>thn (hu pins s2 σ H2 _ I2 q2) λ vu s3 ⟨u,H3,I3,pu,q3⟩=>?_);rw [evalPart_none];refine wpAny_pure ?_;have I4 : Inv X pins σ H3 { s3 with heap:=s3.heap.push { cls:=.type "slice",data:=.fields #[vl,vu,.none] } }:=I3.kept (t':=s3.toks) λ b ob q=>wb _ q
 obtain ⟨T,id,hT,ht,hg⟩:=hr pins { s3 with heap:=s3.heap.push { cls:=.type "slice",data:=.fields #[vl,vu,.none] } } σ H3 x v vl vu l u s3.heap.objs.size Q I4 r1 (Xh ..) pl pu q3
 show wpAny (model X.prog X.w) X.A (subscriptTail e (.Slice lo hi none p2) v (.ref s3.heap.objs.size)) (EP X pins σ Q) X.xe { s3 with heap:=s3.heap.push { cls:=.type "slice",data:=.fields #[vl,vu,.none] } }
 exact tail_any (ops:=[.ref s3.heap.objs.size,v]) ht hT hg (by with_unfolding_all rfl)
def zf3 (xs : List V) (lo hi : Option Int) : List V:=(xs.drop (HT.sIx xs.length 0 lo)).take (HT.sIx xs.length xs.length hi - HT.sIx xs.length 0 lo)
theorem zgh (xs : List V) (lo hi : Option Int) : (zf3 xs lo hi).length <= xs.length:=by
 unfold zf3;rw [wC,wP];omega
def zsU (K : wa) : V -> Option Int -> Option Int -> Hp -> VK -> Prop:=λ x lo hi H Q=>∃ a xs,x = .ref a /\ SqT K H a xs /\
 ¬ (HT.sIx xs.length 0 lo = 0 /\ HT.sIx xs.length xs.length hi = xs.length) /\ ∀ p,H p = none -> Q (.ref p) (upd H p (.tup (zf3 xs lo hi)))
theorem zrj : SlR X (zsU X.K):=by
 intro pins s σ H x v vl vu lo hi sl Q I rx hs pl pu h;obtain ⟨a,xs,rfl,hx,hw,q⟩:=h;cases rx;obtain ⟨its,r,ht,hz⟩:=I.tuple hx;have hlen : its.toArray.size = xs.length:=by rw [wq]; exact r.length.symm
 refine ⟨"tuple",_,WY.lookup,ht.typeIs,?_⟩;refine HT.getItem_tuple_cut ht hs pl pu (by rw [hlen]; exact hw) ?_ (by rw [hlen]; exact hz);rw [hlen];refine ⟨.ref s.heap.objs.size,_,I.laid (t':=s.toks) (o:=.tup (zf3 xs lo hi)) (λ b ob q=>wb _ q) (wg _) ?_,rfl,q _ (I.hok.fresh (wg _))⟩;exact ⟨wV (zgh xs lo hi) hz,_,(r.drop (HT.sIx xs.length 0 lo)).take (HT.sIx xs.length xs.length hi - HT.sIx xs.length 0 lo),Vg _ _⟩
def zqR (K : wa) : R2:=λ x y H Q=>∃ a b xs ys,x = .ref a /\ y = .ref b /\ SqT K H a xs /\ SqT K H b ys /\ xs ≠ [] /\ xs.length + ys.length <= sizeLine /\
 (ys = [] -> Q (.ref a) H) /\ (ys ≠ [] -> ∀ p,H p = none -> Q (.ref p) (upd H p (.tup (xs ++ ys))))
theorem zaG.nil_iff {xs : List V} {us : List Value} (r : zaG xs us) : us = [] ↔ xs = []:=by
 cases r with
 | nil=>simp
 | cons _ _=>simp
theorem zpN : OpR X (binaryOp .Add) (zqR X.K):=by
 intro pins s σ H x y v u Q I rx ry h;obtain ⟨a,b,xs,ys,rfl,rfl,ha,hb,hx,hz,q1,q2⟩:=h;cases rx;cases ry;obtain ⟨its,r1,p1,_⟩:=I.tuple ha;obtain ⟨its2,r2,p2,_⟩:=I.tuple hb;refine HT.cat_tup p1 p2 (λ z=>hx (r1.nil_iff.mp z)) (λ z=>⟨.ref a,H,I,rfl,q1 (r2.nil_iff.mp z)⟩) (λ z=>?_) (by rw [<- r1.length,<- r2.length]; exact hz);refine ⟨.ref s.heap.objs.size,_,I.laid (t':=s.toks) (o:=.tup (xs ++ ys)) (λ b ob q=>wb _ q) (wg _) ?_,rfl,q2 (λ w=>z (r2.nil_iff.mpr w)) _ (I.hok.fresh (wg _))⟩;exact ⟨by rw [wf]; exact hz,_,r1.append r2,Vg _ _⟩
end
def ixN (n : Nat) (i : Int) : Option Nat:=if 0 <= i then (if i < n then some i.toNat else none) else if -(n : Int) <= i then some (i + n).toNat else none
def atI {α : Type} (xs : List α) (i : Int) : Option α:=(ixN xs.length i).bind λ j=>xs[j]?
theorem zlS {n : Nat} {i : Int} {j : Nat} (h : ixN n i = some j) : seqIndex? i n = some j /\ j < n /\ -(n : Int) <= i /\ i < n:=by
 unfold ixN at h
 by_cases h0 : 0 <= i
 . rw [if_pos h0] at h
   by_cases h1 : i < n
   . rw [if_pos h1] at h
     have e : i.toNat = j:=wH h;exact ⟨by rw [seqIndex_of h0 h1,e],by omega,by omega,h1⟩
   . rw [if_neg h1] at h; cases h
 . rw [if_neg h0] at h
   by_cases h1 : -(n : Int) <= i
   . rw [if_pos h1] at h
     have e : (i + n).toNat = j:=wH h;exact ⟨by rw [seqIndex_neg (by omega) h1,e],by omega,h1,by omega⟩
   . rw [if_neg h1] at h; cases h
theorem ziV {α : Type} {xs : List α} {i : Int} {v : α} (h : atI xs i = some v) : ∃ j,seqIndex? i xs.length = some j /\ xs[j]? = some v /\ j < xs.length /\ -(xs.length : Int) <= i /\ i < xs.length:=by
 unfold atI at h;cases e : ixN xs.length i with
 | none=>rw [e] at h; cases h
 | some j =>
   rw [e] at h;obtain ⟨h1,h2,h3,h4⟩:=zlS e;exact ⟨j,h1,h,h2,h3,h4⟩
theorem zbP {α : Type} {xs : List α} {j : Nat} {v : α} (h : xs[j]? = some v) : atI xs (j : Int) = some v:=by
 have hj : j < xs.length:=(vV.mp h).1
 have e : ixN xs.length (j : Int) = some j:=by
   unfold ixN;rw [if_pos (by omega),if_pos (by omega)]; simp
 unfold atI; rw [e]; exact h
def zpZ (b : Expr) : Prop:=∀ o i,subscripted b false o i = operate [o,i] (getItem o i)
def IxR (X : Cx) (r : R2) : Prop :=
 ∀ (value slice : Expr) (pins : List (Addr × Obj)) (s : Shared) (σ : St) (H : Hp) (x y : V) (v u : Value) (Q : VK),Inv X pins σ H s -> zaQ x v -> zaQ y u -> r x y H Q ->
   subscripted slice false v u = operate [v,u] (getItem v u) -> wpAny (model X.prog X.w) X.A (subscriptTail value slice v u) (EP X pins σ Q) X.xe s
def MtR (X : Cx) (id : String) (r : V -> List V -> Hp -> VK -> Prop) : Prop :=
 ∀ (pins : List (Addr × Obj)) (s : Shared) (σ : St) (H : Hp) (x : V) (xs : List V) (v : Value) (us : List Value) (Q : VK),Inv X pins σ H s -> zaQ x v -> zaG xs us -> r x xs H Q ->
   wpAny (model X.prog X.w) X.A (call (.builtin id) (v :: us)) (EP X pins σ Q) X.xe s
section
variable {X : Cx} {a b : Expr} {ta tb : TE} {pos : Pos}
theorem IxR.or {r r' : R2} (h : IxR X r) (h' : IxR X r') : IxR X (λ x y H Q=>r x y H Q \/ r' x y H Q):=by
 intro value slice pins s σ H x y v u Q I rx ry q hs;rcases q with q | q
 . exact h value slice pins s σ H x y v u Q I rx ry q hs
 . exact h' value slice pins s σ H x y v u Q I rx ry q hs
theorem zaj {r : R2} (hr : IxR X r) (ha : PE X a ta) (hb : PE X b tb) (hs : zpZ b) : PE X (.Subscript a b pos) (tOp r ta tb):=by
 intro pins s σ H Q I h;exact Subscript_ (zrL ha hb I h λ v u s2 x y H2 I2 rx ry q=>hr a b pins s2 σ H2 x y v u Q I2 rx ry q (hs _ _))
def zsI (K : wa) : R2:=λ x y H Q=>∃ p xs i v,x = .ref p /\ y = .int i /\ SqL K H p xs /\ atI xs i = some v /\ Q v H
def zsG (K : wa) : R2:=λ x y H Q=>∃ p xs i v,x = .ref p /\ y = .int i /\ SqT K H p xs /\ atI xs i = some v /\ Q v H
def ztk : R2:=λ x y H Q=>∃ z i c,x = .str z /\ y = .int i /\ z.length <= sizeLine /\ atI z.cps.toList i = some c /\ Q (.str ⟨#[c]⟩) H
theorem zqL : IxR X (zsI X.K):=by
 intro value slice pins s σ H x y v u Q I rx ry h hs;obtain ⟨p,xs,i,z,rfl,rfl,hq,he,q⟩:=h;cases rx;obtain ⟨t,rfl⟩:=ry;obtain ⟨its,r,pl,hz⟩:=I.list hq;obtain ⟨j,h1,h2,h3,h4,h5⟩:=ziV he;obtain ⟨w,ew,rw'⟩:=r.get h2;have hl:=r.length;have hn:=zfY;have fin : EP X pins σ Q w s:=⟨z,H,I,rw',q⟩
 by_cases h0 : 0 <= i
 . have hj : i.toNat = j:=by
     rw [seqIndex_of h0 h5] at h1;exact wH h1
   exact item_listR pl.isList h0 (by omega) (by rw [hj]; simpa using ew) fin hs
 . have hj : (i + (its.toArray.size : Int)).toNat = j:=by
     rw [seqIndex_neg (by omega) h4] at h1;rw [wq,<- hl];exact wH h1
   exact subscriptTail_builtinR (x:=w) pl.isList.typeIs slot_list_getitem.lookup
     (wpAny_getItem_list_neg (Q:=λ r s'=>r = w /\ EP X pins σ Q r s') pl.isList (by omega) (by rw [wq] <;> omega) (by omega) (by rw [hj]; simpa using ew) ⟨rfl,fin⟩) hs
theorem zsi : IxR X (zsG X.K):=by
 intro value slice pins s σ H x y v u Q I rx ry h hs;obtain ⟨p,xs,i,z,rfl,rfl,hq,he,q⟩:=h;cases rx;obtain ⟨t,rfl⟩:=ry;obtain ⟨its,r,pl,hz⟩:=I.tuple hq;obtain ⟨j,h1,h2,h3,h4,h5⟩:=ziV he;obtain ⟨w,ew,rw'⟩:=r.get h2;have hl:=r.length;have hn:=zfY;have fin : EP X pins σ Q w s:=⟨z,H,I,rw',q⟩
 exact subscriptTail_builtinR (x:=w) pl.typeIs slot_tuple_getitem.lookup
   (getItem_tuple (j:=j) (Q:=λ r s'=>r = w /\ EP X pins σ Q r s') pl (by omega) (by omega) (by rw [wq,<- hl]; exact h1) (by simpa using ew) ⟨rfl,fin⟩) hs
theorem zrx : IxR X ztk:=by
 intro value slice pins s σ H x y v u Q I rx ry h hs;obtain ⟨z,i,c,rfl,rfl,hz,he,q⟩:=h;obtain ⟨t,rfl⟩:=rx;obtain ⟨t',rfl⟩:=ry;obtain ⟨j,h1,h2,h3,h4,h5⟩:=ziV he;have hl : z.cps.toList.length = z.length:=by simp [Str.length]
 rw [hl] at h1 h4 h5;have hn:=zfY
 exact tail_any (typeIs_str s z t) slot_str_getitem.lookup (getItem_str (c:=c) (by
   have e1 : decide (i < -(2 ^ 63 : Int)) = false:=decide_eq_false (by omega);have e2 : decide (i ≥ 2 ^ 63) = false:=decide_eq_false (by omega);rw [e1,e2,xJ]) (by rw [h1]; simpa using h2) ⟨.str ⟨#[c]⟩,H,I.tok _,⟨_,rfl⟩,q⟩) hs
def rIx (K : wa) : R2:=λ x y H Q=>zsI K x y H Q \/ zsG K x y H Q \/ ztk x y H Q
theorem zah : IxR X (rIx X.K):=zqL.or (zsi.or zrx)
theorem zk0 (its : List Value) (n j : Nat) (u : Value) : wZ (·.setIfInBounds j u) { cls:=.type "list",data:=.seq its.toArray n } = { cls:=.type "list",data:=.seq (its.set j u).toArray n }:=by
 simp [wZ]
theorem Inv.lst {pins : List (Addr × Obj)} {σ : St} {H : Hp} {s : Shared} {p : Addr} {xs : List V} (I : Inv X pins σ H s) (h : H p = some (.lst xs)) :
   ∃ (its : List Value) (n : Nat),zaG xs its /\ s.heap.get? p = some { cls:=.type "list",data:=.seq its.toArray n } /\ xs.length <= sizeLine:=by
 obtain ⟨z,its,n,r,e⟩:=I.hok p _ h;exact ⟨its,n,r,e,z⟩
theorem Inv.lstUpd {pins : List (Addr × Obj)} {σ : St} {H : Hp} {s : Shared} {p : Addr} {xs ys : List V} {its its' : List Value} {n n' : Nat} {f : Obj -> Obj} (I : Inv X pins σ H s) (h : H p = some (.lst xs))
   (ho : s.heap.get? p = some { cls:=.type "list",data:=.seq its.toArray n }) (hf : f { cls:=.type "list",data:=.seq its.toArray n } = { cls:=.type "list",data:=.seq its'.toArray n' }) (r : zaG ys its') (hz : ys.length <= sizeLine) (t : Nat) :
   Inv X pins σ (upd H p (.lst ys)) { s with heap:=s.heap.update p f,toks:=t }:=by
 have e : (s.heap.update p f).get? p = some { cls:=.type "list",data:=.seq its'.toArray n' }:=by
   rw [WG f ho (by rw [hf] <;> rfl),hf]
 refine I.write (x:=p) (e:=p) (by rw [h]; trivial) (.inl rfl) (λ b u hb q=>(VD _ _ (vH hb)).trans q) ⟨_,e⟩ ?_;exact ⟨hz,its',n',r,e⟩
def zqV : V -> V -> V -> Hp -> (Hp -> Prop) -> Prop:=λ o i v H Q=>∃ p xs k j,o = .ref p /\ i = .int k /\ H p = some (.lst xs) /\ ixN xs.length k = some j /\ Q (upd H p (.lst (xs.set j v)))
theorem zcs : zsL X zqV:=by
 intro pins s σ H o i v ov iv u Q I ro ri rv h;obtain ⟨p,xs,k,j,rfl,rfl,hp,hj,q⟩:=h;cases ro;obtain ⟨t,rfl⟩:=ri;obtain ⟨its,n,r,ho,hz⟩:=I.lst hp;obtain ⟨h1,h2,h3,h4⟩:=zlS hj;have hl:=r.length;have hn:=zfY
 have I' : Inv X pins σ (upd H p (.lst (xs.set j v))) { s with heap:=s.heap.update p (wZ (·.setIfInBounds j u)) } :=
   I.lstUpd hp ho (zk0 its n j u) (r.set rv j) (by rw [vD]; exact hz) s.toks
 by_cases h0 : 0 <= k
 . have hk : k.toNat = j:=by
     rw [seqIndex_of h0 h4] at h1;exact wH h1
   exact PySem.W.ki_setAt ho h0 (by omega) (by rw [wq,<- hl]; exact h4) (by rw [hk]; exact ⟨_,I',q⟩)
 . have hk : (k + (its.toArray.size : Int)).toNat = j:=by
     rw [seqIndex_neg (by omega) h3] at h1;rw [wq,<- hl];exact wH h1
   exact PySem.W.ki_setBack ho (by omega) (by rw [wq,<- hl]; exact h3) (by omega) (by rw [hk]; exact ⟨_,I',q⟩)
theorem zjk (lo hi : Option Int) (n : Nat) : (sliceBounds lo hi none n).1 = ((HT.sIx n 0 lo : Nat) : Int) /\ (sliceBounds lo hi none n).2.1 = ((HT.sIx n n hi : Nat) : Int) /\ (sliceBounds lo hi none n).2.2 = 1:=by
 refine ⟨?_,?_,rfl⟩
 . cases lo with
   | none=>simp [sliceBounds,HT.sIx]
   | some i =>
     simp only [sliceBounds,HT.sIx,Q1,show (1 : Int) > 0 by decide,if_true]
     by_cases h : i < 0
     . simp only [h,if_true] <;> omega
     . simp only [h,if_false] <;> omega
 . cases hi with
   | none=>simp [sliceBounds,HT.sIx]
   | some i =>
     simp only [sliceBounds,HT.sIx,Q1,show (1 : Int) > 0 by decide,if_true]
     by_cases h : i < 0
     . simp only [h,if_true] <;> omega
     . simp only [h,if_false] <;> omega
theorem zhU (its : List Value) (lo hi : Option Int) : slicePick its.toArray lo hi none = ((its.drop (HT.sIx its.length 0 lo)).take (HT.sIx its.length its.length hi - HT.sIx its.length 0 lo)).toArray:=by
 obtain ⟨h1,h2,h3⟩:=zjk lo hi its.toArray.size;unfold slicePick;rw [h1,h2,h3];simp only [sliceRange_one,pick_run,wq] <;> rfl
def zsE (K : wa) : V -> Option Int -> Option Int -> Hp -> VK -> Prop:=λ x lo hi H Q=>∃ a xs,x = .ref a /\ SqL K H a xs /\ ∀ p,H p = none -> Q (.ref p) (upd H p (.lst (zf3 xs lo hi)))
theorem zpX : SlR X (zsE X.K):=by
 intro pins s σ H x v vl vu lo hi sl Q I rx hs pl pu h;obtain ⟨a,xs,rfl,hx,q⟩:=h;cases rx;obtain ⟨its,r,ht,hz⟩:=I.list hx;have hlen:=r.length;refine ⟨"list",_,slot_list_getitem.lookup,ht.isList.typeIs,?_⟩;refine wpAny_getItem_list_slice ht.isList hs pl pu .none (by simp) ?_ (by rw [wq] <;> omega);rw [zhU,<- hlen];refine ⟨.ref s.heap.objs.size,_,I.laid (t':=s.toks) (o:=.lst (zf3 xs lo hi)) (λ b ob q=>wb _ q) (wg _) ?_,rfl,q _ (I.hok.fresh (wg _))⟩;exact ⟨wV (zgh xs lo hi) hz,_,0,(r.drop (HT.sIx xs.length 0 lo)).take (HT.sIx xs.length xs.length hi - HT.sIx xs.length 0 lo),wj _ rfl⟩
def zfy : V -> Bool
 | .non=>true
 | .bl _=>true
 | .int _=>true
 | .str _=>true
 | _=>false
def eqV : V -> V -> Bool
 | .non,.non=>true
 | .bl a,.bl b=>a == b
 | .bl a,.int b=>(if a then 1 else 0) == b
 | .int a,.bl b=>a == (if b then 1 else 0)
 | .int a,.int b=>a == b
 | .str a,.str b=>a == b
 | _,_=>false
theorem zrK {A : Around} {s : Shared} {y x : V} {u v : Value} (ry : zaQ y u) (rx : zaQ x v) (fy : zfy y = true) (fx : zfy x = true) : SeqAt.EqAt A s u v (eqV y x):=by
 cases y with
 | non =>
   cases ry;cases x with
   | non=>cases rx; exact SeqAt.EqAt.same _
   | bl b=>cases rx; exact SeqAt.EqAt.none_bool b
   | int b=>obtain ⟨t,rfl⟩:=rx; exact SeqAt.EqAt.none_int b t
   | str b=>obtain ⟨t,rfl⟩:=rx; exact SeqAt.EqAt.none_str b t
   | _=>exact absurd (show false = true from fx) vo
 | bl a =>
   cases ry;cases x with
   | non=>cases rx; exact SeqAt.EqAt.bool_none a
   | bl b=>cases rx; exact SeqAt.EqAt.bool_bool a b
   | int b=>obtain ⟨t,rfl⟩:=rx; exact SeqAt.EqAt.bool_int a b t
   | str b=>obtain ⟨t,rfl⟩:=rx; exact SeqAt.EqAt.bool_str a b t
   | _=>exact absurd (show false = true from fx) vo
 | int a =>
   obtain ⟨t',rfl⟩:=ry;cases x with
   | non=>cases rx; exact SeqAt.EqAt.int_none a t'
   | bl b=>cases rx; exact SeqAt.EqAt.int_bool a t' b
   | int b=>obtain ⟨t,rfl⟩:=rx; exact SeqAt.EqAt.int_int a t' b t
   | str b=>obtain ⟨t,rfl⟩:=rx; exact Qf a t' b t
   | _=>exact absurd (show false = true from fx) vo
 | str a =>
   obtain ⟨t',rfl⟩:=ry;cases x with
   | non=>cases rx; exact SeqAt.EqAt.str_none a t'
   | bl b=>cases rx; exact SeqAt.EqAt.str_bool a t' b
   | int b=>obtain ⟨t,rfl⟩:=rx; exact Qg a t' b t
   | str b=>obtain ⟨t,rfl⟩:=rx; exact SeqAt.EqAt.str_str a t' b t
   | _=>exact absurd (show false = true from fx) vo
 | _=>exact absurd (show false = true from fy) vo
def eqU (x : V) (u : Value) : Bool:=match u with
 | .none=>eqV .non x
 | .bool b=>eqV (.bl b) x
 | .int i _=>eqV (.int i) x
 | .str z _=>eqV (.str z) x
 | _=>false
theorem zoF {x y : V} {u : Value} (r : zaQ y u) (f : zfy y = true) : eqU x u = eqV y x:=by
 cases y with
 | non=>cases r; rfl
 | bl b=>cases r; rfl
 | int i=>obtain ⟨t,rfl⟩:=r; rfl
 | str z=>obtain ⟨t,rfl⟩:=r; rfl
 | _=>exact absurd (show false = true from f) vo
theorem zfK {x : V} : ∀ {xs : List V} {us : List Value},zaG xs us -> xs.all zfy = true -> us.any (eqU x) = xs.any λ y=>eqV y x
 | _,_,.nil,_=>rfl
 | y :: xs,u :: us,.cons r t,f=>by
   rw [qZ,wX] at f;rw [Vi,Vi,zoF r f.1,zfK t f.2]
theorem zey {A : Around} {s : Shared} {x : V} {v : Value} (rx : zaQ x v) (fx : zfy x = true) : ∀ {xs : List V} {us : List Value},zaG xs us -> xs.all zfy = true -> ∀ u ∈ us,SeqAt.EqAt A s u v (eqU x u)
 | _,_,.nil,_=>λ u hu=>by cases hu
 | y :: xs,u :: us,.cons r t,f=>λ u' hu=>by
   rw [qZ,wX] at f;rcases wm.mp hu with rfl | hu
   . rw [zoF r f.1]; exact zrK r rx f.1 fx
   . exact zey rx fx t f.2 u' hu
def inV (x : V) (xs : List V) : Bool:=xs.any λ y=>eqV y x
def rIn (K : wa) (neg : Bool) : R2:=λ x y H Q=>∃ p xs,y = .ref p /\ (SqL K H p xs \/ SqT K H p xs) /\ zfy x = true /\ xs.all zfy = true /\ Q (.bl (if neg then !inV x xs else inV x xs)) H
theorem zmZ : OpR X (compareOp .In) (rIn X.K false):=by
 intro pins s σ H x y v u Q I rx ry h;obtain ⟨p,xs,rfl,hq,fx,fs,q⟩:=h;cases ry;rcases hq with hq | hq
 . obtain ⟨its,r,pl,hz⟩:=I.list hq
   refine SeqAt.in_listAt (eqU x) pl.isList (λ w hw=>zey rx fx r fs w (by simpa using hw)) ⟨.bl _,H,I,rfl,?_⟩;rw [show its.toArray.any (eqU x) = its.any (eqU x) by simp,zfK r fs];exact q
 . obtain ⟨its,r,pl,hz⟩:=I.tuple hq
   refine SeqAt.in_tupleAt (eqU x) pl (λ w hw=>zey rx fx r fs w (by simpa using hw)) ⟨.bl _,H,I,rfl,?_⟩;rw [show its.toArray.any (eqU x) = its.any (eqU x) by simp,zfK r fs];exact q
theorem zjf : OpR X (compareOp .NotIn) (rIn X.K true):=by
 intro pins s σ H x y v u Q I rx ry h;obtain ⟨p,xs,rfl,hq,fx,fs,q⟩:=h;cases ry;rcases hq with hq | hq
 . obtain ⟨its,r,pl,hz⟩:=I.list hq
   refine SeqAt.notIn_listAt (eqU x) pl.isList (λ w hw=>zey rx fx r fs w (by simpa using hw)) ⟨.bl _,H,I,rfl,?_⟩;rw [show its.toArray.any (eqU x) = its.any (eqU x) by simp,zfK r fs];exact q
 . obtain ⟨its,r,pl,hz⟩:=I.tuple hq
   refine SeqAt.notIn_tupleAt (eqU x) pl (λ w hw=>zey rx fx r fs w (by simpa using hw)) ⟨.bl _,H,I,rfl,?_⟩;rw [show its.toArray.any (eqU x) = its.any (eqU x) by simp,zfK r fs];exact q
theorem ziU : zal X (.builtin "len") (λ xs H Q=>∃ p ys,xs = [.ref p] /\ (SqL X.K H p ys \/ SqT X.K H p ys) /\ Q (.int ys.length) H):=by
 intro pins s σ H xs us Q I r h;obtain ⟨p,ys,rfl,hq,q⟩:=h;obtain ⟨u,rfl,rx⟩:=zdE r;cases rx;have hn:=zfY;rcases hq with hq | hq
 . obtain ⟨its,r',pl,hz⟩:=I.list hq
   have hlen:=r'.length;exact Calls.call_len_list pl.isList (by simp only [wq] <;> omega) ⟨.int ys.length,H,I.tok _,⟨s.toks + 1,by rw [wq,hlen]⟩,q⟩
 . obtain ⟨its,r',pl,hz⟩:=I.tuple hq
   have hlen:=r'.length;exact len_tuple pl (by simp only [wq] <;> omega) ⟨.int ys.length,H,I.tok _,⟨s.toks + 1,by rw [wq,hlen]⟩,q⟩
theorem zi6 : zal X (.type "list") (λ xs H Q=>∃ p ys,xs = [.ref p] /\ (SqL X.K H p ys \/ SqT X.K H p ys) /\ ∀ l,H l = none -> Q (.ref l) (upd H l (.lst ys))):=by
 intro pins s σ H xs us Q I r h;obtain ⟨p,ys,rfl,hq,q⟩:=h;obtain ⟨u,rfl,rx⟩:=zdE r;cases rx
 have fin : ∀ (its : List Value),zaG ys its -> ys.length <= sizeLine -> ∀ (h' : Heap) (c' : Nat),(∀ b o',s.heap.get? b = some o' -> h'.get? b = some o') ->
     h'.get? s.heap.objs.size = some { cls:=.type "list",dict:=none,data:=.seq its.toArray c',slots:=#[] } -> EP X pins σ Q (.ref s.heap.objs.size) { s with heap:=h' }:=λ its r' hz h' c' kp e =>
   ⟨.ref s.heap.objs.size,_,I.laid (t':=s.toks) kp (wg _) (show za9 X.prog X.w _ h' _ (.lst ys) from ⟨hz,its,c',r',e⟩),rfl,q _ (I.hok.fresh (wg _))⟩
 rcases hq with hq | hq
 . obtain ⟨its,r',pl,hz⟩:=I.list hq
   have hlen:=r'.length;obtain ⟨o,ho,hc,n,hd⟩:=pl.isList;exact call_list_seq p (.inl rfl) ho hc hd (λ h' c' kp e=>fin its r' hz h' c' kp e) (by simp only [wq] <;> omega)
 . obtain ⟨its,r',pl,hz⟩:=I.tuple hq
   have hlen:=r'.length;obtain ⟨o,ho,hc,n,hd⟩:=pl;exact call_list_seq p (.inr rfl) ho hc hd (λ h' c' kp e=>fin its r' hz h' c' kp e) (by simp only [wq] <;> omega)
theorem zhQ : zal X (.type "tuple") (λ xs H Q=>∃ p ys,xs = [.ref p] /\ ((SqL X.K H p ys /\ ∀ l,H l = none -> Q (.ref l) (upd H l (.tup ys))) \/ (SqT X.K H p ys /\ Q (.ref p) H))):=by
 intro pins s σ H xs us Q I r h;obtain ⟨p,ys,rfl,h⟩:=h;obtain ⟨u,rfl,rx⟩:=zdE r;cases rx;rcases h with ⟨hq,q⟩ | ⟨hq,q⟩
 . obtain ⟨its,r',pl,hz⟩:=I.list hq
   have hlen:=r'.length;refine call_tuple_list pl.isList (λ h' kp=>?_) (by simp only [wq] <;> omega);have I1 : Inv X pins σ H { s with heap:=h' }:=I.kept (t':=s.toks) kp
   have I2 : Inv X pins σ (upd H h'.objs.size (.tup ys)) { s with heap:=h'.push { cls:=.type "tuple",data:=.seq its.toArray } } :=
     I1.laid (t':=s.toks) (λ b o e=>wb _ e) (wg _) (show za9 X.prog X.w _ _ _ (.tup ys) from ⟨hz,its,r',Vg _ _⟩)
   exact ⟨.ref h'.objs.size,_,I2,rfl,q _ (I1.hok.fresh (wg _))⟩
 . obtain ⟨its,r',pl,hz⟩:=I.tuple hq
   exact call_tuple_same pl ⟨.ref p,H,I,rfl,q⟩
def tyV (K : wa) (T : String) (x : V) (H : Hp) : Prop:=match x with
 | .str _=>T = "str"
 | .int _=>T = "int"
 | .ref p=>(T = "list" /\ ∃ xs,SqL K H p xs) \/ (T = "tuple" /\ ∃ o,K.lookup p = some o /\ o.cls = .type "tuple" /\ o.dict = none) \/
     (T = "dict" /\ ((∃ kvs,H p = some (.dK kvs)) \/ ∃ kvs,H p = some (.dT kvs))) \/ (T = "set" /\ ∃ S n,H p = some (.set S n))
 | _=>False
theorem zsj {pins : List (Addr × Obj)} {σ : St} {H : Hp} {s : Shared} {T : String} {x : V} {v : Value} (I : Inv X pins σ H s) (r : zaQ x v) (ty : tyV X.K T x H) :
   s.TypeIs v T /\ ∀ a,v = .ref a -> ∃ ob,s.heap.get? a = some ob /\ ob.dict = none:=by
 cases x with
 | str z =>
   obtain ⟨t,rfl⟩:=r;cases (show T = "str" from ty);exact ⟨typeIs_str s z t,λ _ e=>nomatch e⟩
 | int i =>
   obtain ⟨t,rfl⟩:=r;cases (show T = "int" from ty);exact ⟨typeIs_int s i t,λ _ e=>nomatch e⟩
 | ref p =>
   cases r;rcases ty with ⟨rfl,xs,hq⟩ | ⟨rfl,o,hk,hc,hd⟩ | ⟨rfl,hk⟩ | ⟨rfl,S,n,hk⟩
   . obtain ⟨its,_,pl,_⟩:=I.list hq
     refine ⟨pl.isList.typeIs,λ a e=>?_⟩;cases e;obtain ⟨o,n,e,c,hd,_⟩:=pl;exact ⟨o,e,hd⟩
   . refine ⟨⟨o,I.kIn p o hk,hc⟩,λ a e=>?_⟩
     cases e;exact ⟨o,I.kIn _ o hk,hd⟩
   . have z : ∃ o,s.heap.get? p = some o /\ o.ExactDict:=by
       rcases hk with ⟨kvs,hk⟩ | ⟨kvs,hk⟩
       . obtain ⟨_,_,_,_,o,_,_,e,ex,_⟩:=I.hok p _ hk
         exact ⟨o,e,ex⟩
       . obtain ⟨_,_,_,_,o,_,_,e,ex,_⟩:=I.hok p _ hk
         exact ⟨o,e,ex⟩
     obtain ⟨o,e,ex⟩:=z;refine ⟨⟨o,e,ex.1⟩,λ a e2=>?_⟩;cases e2;exact ⟨o,e,ex.2.1⟩
   . obtain ⟨o,_,_,_,e,ex,_⟩:=I.hok p _ hk
     refine ⟨⟨o,e,ex.1⟩,λ a e2=>?_⟩;cases e2;exact ⟨o,e,ex.2.1⟩
 | _=>exact WN ty
def tBM (K : wa) (T : String) (r : V -> List V -> Hp -> VK -> Prop) (to : TE) (t : TA) : TE:=λ σ H Q=>to σ H λ x H1=>tyV K T x H1 /\ t σ H1 λ xs H2=>r x xs H2 Q
variable {o e : Expr} {es : List Expr} {to : TE} {t : TA} {name : Str} {apos cpos : Pos} {T id : String} {r : V -> List V -> Hp -> VK -> Prop}
theorem ze3 (pa : PlainAttrs T) (slot : Slot T name id) (hty : typeOf (.builtin id) = pure (.type "method_descriptor")) (hm : MtR X id r) (ho : PE X o to) (ha : PA X (e :: es) t)
   (hbase : attributeBase o name X.env (eval o X.env) = eval o X.env:=by rfl)
   (hfew : ((backTo cpos (starEach (e :: es) X.env)).all (λ x=>!x.1) && (backToKw cpos (keywordEach [] X.env)).all (λ x=>x.1.isSome)
     && decide ((e :: es).length + ([] : List Keyword).length + (if ([] : List Keyword).isEmpty then 0 else 1) < 30)) = true:=by rfl)
   (hline : (apos.endLine == cpos.line) = true:=by rfl) (hs : starEach (e :: es) X.env = (false,eval e X.env) :: starEach es X.env:=by rfl) (hplain : (backTo cpos (starEach es X.env)).any (·.1) = false:=by rfl) :
   PE X (.Call (.Attribute o name apos) (e :: es) [] cpos) (tBM X.K T r to t):=by
 intro pins s σ H Q I h;refine wpAny_Call_method_late hbase hfew hline rfl (thn (ho pins s σ H _ I h) λ v s1 ⟨x,H1,I1,r1,ty,q1⟩=>?_);obtain ⟨h1,h2⟩:=zsj I1 r1 ty;refine ⟨T,id,pa,slot,hty,h1,h2,?_⟩;have hA:=ha cpos pins s1 σ H1 _ I1 q1;rw [hs] at hA ⊢;refine Calls.callWith_builtin (by show (false || (backTo cpos (starEach es X.env)).any (·.1)) = false; rw [hplain] <;> rfl) (qR ?_);exact thn hA λ us s2 ⟨vs,H2,I2,r2,q2⟩=>hm pins s2 σ H2 x vs v us Q I2 r1 r2 q2
/- xs.append(e),list.index on a module's tuple .. are MtR facts of 06m -/
end
def MtM (X : Cx) (id : String) (r : V -> List V -> Hp -> VK -> Prop) : Prop :=
 ∀ (pins : List (Addr × Obj)) (s : Shared) (σ : St) (H : Hp) (x : V) (xs : List V) (v : Value) (us : List Value) (Q : VK),Inv X pins σ H s -> zaQ x v -> zaG xs us -> r x xs H Q ->
   wpAny (model X.prog X.w) X.A (call (.builtin id) (v :: us)) (EP X pins σ Q) X.xe s
theorem zaG.one : ∀ {x : V} {us : List Value},zaG [x] us -> ∃ u,us = [u] /\ zaQ x u
 | _,_,.cons r .nil=>⟨_,rfl,r⟩
theorem zaG.eraseIdx : ∀ {xs : List V} {us : List Value} (i : Nat),zaG xs us -> zaG (xs.eraseIdx i) (us.eraseIdx i)
 | _,_,_,.nil=>.nil
 | _,_,0,.cons _ t=>t
 | _,_,i + 1,.cons r t=>.cons r (zaG.eraseIdx i t)
theorem zaG.rep {xs : List V} {us : List Value} (h : zaG xs us) : ∀ k : Nat,zaG (wl k xs).flatten (wl k us).flatten
 | 0=>.nil
 | k + 1=>by
   rw [vW,vW,Wj,Wj];exact zaG.append h (zaG.rep h k)
theorem zim {α : Type} : ∀ (l : List α) (i : Nat),(l.eraseIdx i).length <= l.length
 | [],_=>wg _
 | _ :: _,0=>Nat.le_succ _
 | _ :: r,i + 1=>Nat.succ_le_succ (zim r i)
theorem zik (its : List Value) : ∀ (k : Nat) (acc : List Value),
   List.foldl (λ x1 x2=>x1 ++ x2) acc.toArray (wl k its.toArray) = (acc ++ (wl k its).flatten).toArray
 | 0,acc=>by simp
 | k + 1,acc=>by
   have e : acc.toArray ++ its.toArray = (acc ++ its).toArray:=by simp
   have e2 : (acc ++ its) ++ (wl k its).flatten = acc ++ (wl (k + 1) its).flatten:=by
     rw [vW,Wj,Vx]
   rw [<- e2,<- zik its k (acc ++ its),<- e,vW,xh]
section
variable {X : Cx} {pins : List (Addr × Obj)} {σ : St} {H : Hp} {s : Shared} {l b : Addr} {xs ys zs : List V}
theorem Inv.lset {its its' : List Value} {n : Nat} {f : Array Value -> Array Value} {t' : Nat} (I : Inv X pins σ H s) (hH : H l = some (.lst xs))
   (e : s.heap.get? l = some { cls:=.type "list",data:=.seq its.toArray n }) (hf : f its.toArray = its'.toArray) (hv : zaG ys its') (hz : ys.length <= sizeLine) :
   Inv X pins σ (upd H l (.lst ys)) { s with heap:=s.heap.update l (wZ f),toks:=t' }:=by
 have q:=PySem.IsL.update e f;rw [hf] at q;refine I.write (x:=l) (e:=l) (by rw [hH]; exact trivial) (.inl rfl) (λ b' u hb hu=>(VD s.heap (wZ f) (vH hb)).trans hu) ⟨_,q⟩ ?_;exact ⟨hz,its',_,hv,q⟩
theorem Inv.lnew {its : List Value} {t' : Nat} (I : Inv X pins σ H s) (hv : zaG ys its) (hz : ys.length <= sizeLine) :
   Inv X pins σ (upd H s.heap.objs.size (.lst ys)) { s with heap:=s.heap.push { cls:=.type "list",data:=.seq its.toArray },toks:=t' } :=
 I.laid (λ _ _ q=>wb _ q) (wg _) ⟨hz,its,0,hv,wj _ rfl⟩
theorem Inv.fresh (I : Inv X pins σ H s) : H s.heap.objs.size = none:=I.hok.fresh (wg _)
theorem Inv.lstM (I : Inv X pins σ H s) (hH : H l = some (.lst xs)) : xs.length <= sizeLine /\ ∃ (its : List Value) (n : Nat),zaG xs its /\ xs.length = its.length /\ s.heap.get? l = some { cls:=.type "list",data:=.seq its.toArray n }:=by
 obtain ⟨z,its,n,r,e⟩:=I.hok l _ hH;exact ⟨z,its,n,r,r.length,e⟩
end
section
variable {X : Cx}
def zju : V -> List V -> Hp -> VK -> Prop:=λ x vs H Q=>∃ l xs y,x = .ref l /\ vs = [y] /\ H l = some (.lst xs) /\ xs.length < sizeLine /\ Q .non (upd H l (.lst (xs ++ [y])))
theorem zb0 : MtM X "list.append" zju:=by
 intro pins s σ H x vs v us Q I rx rv h;obtain ⟨l,xs,y,rfl,rfl,hH,hz,q⟩:=h;cases rx;obtain ⟨u,rfl,ru⟩:=rv.one;obtain ⟨z,its,n,r,hl,e⟩:=I.lstM hH;refine call_meets F.slot_list_append ⟨_,e,rfl⟩ F.entry_list_append (F.args_list_append_2 _ _) (PySem.list_append l its.toArray n u (by rw [wq]; omega)) ⟨e,?_⟩;refine ⟨.non,_,I.lset (its':=its ++ [u]) hH e (by simp) (r.append (.cons ru .nil)) ?_,rfl,q⟩;rw [wf,vq];omega
def zoI : V -> List V -> Hp -> VK -> Prop:=λ x vs H Q=>∃ l xs i k y,x = .ref l /\ vs = [.int i] /\ H l = some (.lst xs) /\ -(2 ^ 63) <= i /\ i < 2 ^ 63 /\ seqIndex? i xs.length = some k /\ xs[k]? = some y /\ Q y (upd H l (.lst (xs.eraseIdx k)))
theorem znD : MtM X "list.pop" zoI:=by
 intro pins s σ H x vs v us Q I rx rv h;obtain ⟨l,xs,i,k,y,rfl,rfl,hH,h1,h2,hk,hy,q⟩:=h;cases rx;obtain ⟨u,rfl,ru⟩:=rv.one;obtain ⟨t,rfl⟩:=ru;obtain ⟨z,its,n,r,hl,e⟩:=I.lstM hH;obtain ⟨w,hw,rw'⟩:=r.get hy
 refine call_meets F.slot_list_pop ⟨_,e,rfl⟩ F.entry_list_pop (F.args_list_pop_2 _ _)
   (MeetsSeq.list_pop_at l its.toArray n i t k w (fitsIndex_both h1 h2) (by rw [wq,<- hl]; exact hk) (by rw [<- vt]; exact hw) (by rw [wq]; omega)) ⟨e,?_⟩
 refine ⟨y,_,I.lset (its':=its.eraseIdx k) hH e ?_ (r.eraseIdx k) ?_,rw',q⟩
 . show its.toArray.eraseIdxIfInBounds k = (its.eraseIdx k).toArray
   rw [List.eraseIdxIfInBounds_toArray]
 . have:=zim xs k
   omega
def zrt : R2:=λ x y H Q=>∃ l b xs zs,x = .ref l /\ y = .ref b /\ H l = some (.lst xs) /\ H b = some (.lst zs) /\ xs.length + zs.length <= sizeLine /\ ∀ p,H p = none -> Q (.ref p) (upd H p (.lst (xs ++ zs)))
theorem zrB : OpR X (binaryOp .Add) zrt:=by
 intro pins s σ H x y v u Q I rx ry h;obtain ⟨l,b,xs,zs,rfl,rfl,hH,hB,hz,q⟩:=h;cases rx;cases ry;obtain ⟨z,its,n,r,hl,e⟩:=I.lstM hH;obtain ⟨z2,its2,n2,r2,hl2,e2⟩:=I.lstM hB;refine PySem.P.add_list e e2 ?_ (by rw [wq,wq]; omega);have ea : its.toArray ++ its2.toArray = (its ++ its2).toArray:=by simp
 rw [ea];exact ⟨.ref _,_,I.lnew (t':=s.toks) (r.append r2) (by rw [wf]; omega),rfl,q _ I.fresh⟩
theorem ziQ {α : Type} (xs : List α) (k : Nat) : (wl k xs).flatten.length = k * xs.length:=by
 induction k with
 | zero=>simp
 | succ k ih=>rw [vW,Wj,wf,ih,Nat.succ_mul,Nat.add_comm]
end
section
variable {prog : Program} {w : World} {A : Around} {E : Value -> Shared -> Prop} {s : Shared}
end
section
variable {X : Cx}
end
end L2
namespace Att
open PySem PySem.W PySem.Calls PyProof.Rows
theorem zgz {P : Params} {h : Heap} : ∀ (ns : List Int) (vs : List Value),WellAll P h vs (ns.map WData.int) -> IntsAre vs ns:=by
 intro ns
 induction ns with
 | nil =>
   intro vs w;rw [WE] at w;cases w;exact .nil
 | cons n ns ih =>
   intro vs w;rw [wv] at w;cases w with
   | cons a b =>
     cases a;exact .cons _ _ (ih _ b)
theorem zmD {l : OpenLaw} {n : Nat} (hn : l.most = some n) {P : Params} {h : Heap} {args : List WData} {vals : List Value}
   (hpre : l.row.toRowW.claim.pre args = true) (hwl : WellAll P h vals args) :
   ∃ a vs ns,vals = [Value.ref a] /\ args = [WData.list (ns.map WData.int)] /\ h.get? a = some { cls:=.type "list",data:=.seq vs.toArray } /\ IntsAre vs ns /\ ns.length <= n:=by
 have hsh : WShape.hasAll [] args [.list .int] = true:=(pre_splitW hpre).1;have hc : l.pre.holds [] { args:=args } = true:=(pre_splitW hpre).2;obtain ⟨d,r,rfl,h1,h2⟩:=hasAllW_cons hsh;obtain rfl:=hasAllW_nil h2;obtain ⟨xs,rfl,h3⟩:=hasW_list h1;obtain ⟨ns,rfl⟩:=items_int h3
 have hlen : ns.length <= n:=by
   unfold OpenLaw.pre at hc
   have h4 : (WTm.not (.lt (.lit (.int (n : Int))) (.len (.arg 0)))).holds [] { args:=[.list (ns.map .int)] } = true:=by
     have h4:=(holds_andW hc).1;rw [hn] at h4;exact h4
   have h5:=condW_of h4 (w_not (w_lt w_lit (w_len_list (w_arg rfl))));rw [wd] at h5;refine Nat.le_of_not_lt λ q=>?_
   have q' : (n : Int) < ((ns.length : Nat) : Int):=by omega
   first
     | (rw [decide_eq_true q'] at h5; exact absurd h5 (by decide))
     | (simp at h5; omega)
 cases hwl with
 | cons w1 w2 =>
   cases w2;cases w1 with
   | list ho hall=>exact ⟨_,_,ns,rfl,rfl,ho,zgz ns _ hall,hlen⟩
theorem zmr (l : OpenLaw) (args : List WData) : l.row.toRowW.claim.post args (.bool true) args = true :=
 postW_of (r:=l.row.toRowW) (X:=(true == true))
   (show WShape.has [] (.bool true) .bool = true by first | rfl | decide | simp [WShape.has,WShape.arms,WShape.armsAll])
   (show (WTm.eq .res (.lit (.bool true))).value [] { args:=args,res:=some (.bool true),after:=args } = some (.bool (true == true)) from w_eq_bool (w_res rfl) w_lit) rfl
theorem attach_call {l : OpenLaw} {n : Nat} {q : Program} {loose : List Str} {XP : (Str -> Option Value) -> Heap -> Prop} {YP : World -> Heap -> Prop} {d : DefRec}
   (hn : l.most = some n) (hdf : d.params.defaults = [])
   (call : ∀ (w : World) (s₀ s₁ : Shared) (mg mb : Str -> Option Value) (fa : Addr) (o : Obj) (pm cd doc : Value) (a : Addr) (vs : List Value) (ns : List Int),
     Ground q loose [] XP w s₀ mg mb s₁.heap -> YP w s₁.heap ->
     s₁.heap.get? fa = some o -> o.data = .func (docDef d.name d.params d.body d.scope pm cd doc) -> s₁.heap.CodeRec cd d.name -> mg d.name = some (.ref fa) ->
     s₁.heap.get? a = some { cls:=.type "list",data:=.seq vs.toArray } -> IntsAre vs ns -> ns.length <= n -> s₁.gens = #[] ->
     codeAny (model l.prog w) callerA (.call (.ref fa) ⟨[.ref a],[]⟩) (λ r s'=>r = .ok (.ret (.bool true)) /\ OldK s₁.heap s'.heap /\ s'.os = s₁.os /\ AllBare s'.gens) s₁) :
   WalkO q loose XP YP l.row.toRowW d [] (λ f vs=>xk f vs):=by
 intro w s₀ s₁ mg mb G Y fa o pm cd doc dV kV ho hd hcd hD hmg hg args vals as hpre hlay hrd hwl hlo;obtain rfl : dV = .none:=Dflts.none hD hdf;obtain rfl : kV = .none:=Dflts.noKw hD;obtain ⟨a,vs,ns,rfl,rfl,hobj,hints,hlen⟩:=zmD hn hpre hwl;refine enter_call (codeAny_mono (call w s₀ s₁ mg mb fa o pm cd doc a vs ns G Y ho (fd_plain hd) hcd hmg hobj hints hlen hg) λ r s' hq=>?_);obtain ⟨rfl,h2,h3,h4⟩:=hq;exact ⟨.inl ⟨.bool true,.bool true,[],rfl,λ _=>rfl,.bool true,zmr l _,λ _=>⟨xK.nil,λ _ hm=>(nomatch hm)⟩⟩,h2,h3,h4⟩
section
variable {prog : Program} {w : World} {A : Around} {E : Value -> Shared -> Prop} {s : Shared} {K : Frag}
def ztF (h : Heap) (L d : Addr) : List (Addr × Obj):=(wo h.objs.size).filterMap λ a=>if a = L \/ a = d then none else (h.get? a).map λ o=>(a,o)
end
end Att
namespace L2
open PySem PySem.Spec PyProof.Rows
theorem zij : ∀ {vs : List Value} {ns : List Int},IntsAre vs ns -> zaG (ns.map V.int) vs
 | _,_,.nil=>.nil
 | _,_,.cons n t h=>.cons ⟨t,rfl⟩ (zij h)
def zqJ (H : Hp) : Prop:=∀ b,H b = none \/ ∃ o xs,H b = some (.frz o (.lst xs))
theorem znV {P : Program} {w : World} {K : wa} {mg mb : Str -> Option Value} {CX : CXT} {k : Nat} {fa a : Addr} {fd : FuncData} {x : Str} {sp : Sp} {s₁ : Shared} {vs : List Value} {ns : List Int}
   (KX : K.In s₁.heap) (hns : s₁.heap.Ns mainGlobals mg) (hb : s₁.heap.Ns builtinsNs mb) (hbb : ∀ x : Str,x ≠ "__name__" -> mb x = bootBuiltins x) (hlim : s₁.heap.NoLimit) (hg : s₁.gens = #[])
   (ha : s₁.heap.get? a = some { cls:=.type "list",data:=.seq vs.toArray }) (hi : IntsAre vs ns) (hl : ns.length <= sizeLine) (hr : zej k callerA)
   (F : ∀ base : Heap,K.In base -> base.Ns mainGlobals mg -> zbB P w K mg base CX k fa fd [x] sp) (hbind : ∀ (s : Shared) (u : Value),BindsTo s fd ⟨[u],[]⟩ [(x,u)])
   (hsp : ∀ H : Hp,zqJ H -> SqL K H a (ns.map V.int) -> sp [.ref a] H (λ v _=>v = .bl true) λ _ _ _=>False)
   (hCX : ∀ H e s',CX [] H s₁ (λ _ _ _=>False) e s' -> False) :
   codeAny (model P w) callerA (.call (.ref fa) ⟨[.ref a],[]⟩) (λ r s'=>r = .ok (.ret (.bool true)) /\ OldK s₁.heap s'.heap /\ s'.os = s₁.os /\ AllBare s'.gens) s₁:=by
 have rv:=zij hi;have lenV:=hi.length
 -- from an abstract heap in which nothing but the script may be tracked
 have core : ∀ H : Hp,zqJ H -> SqL K H a (ns.map V.int) -> HOk P w H s₁.heap -> (∀ b,H b ≠ none -> b = a) -> (H a ≠ none -> K.lookup a = none) ->
     codeAny (model P w) callerA (.call (.ref fa) ⟨[.ref a],[]⟩) (λ r s'=>r = .ok (.ret (.bool true)) /\ OldK s₁.heap s'.heap /\ s'.os = s₁.os /\ AllBare s'.gens) s₁:=by
   intro H hO hS hok hA hK;have base_of : ∀ {b : Addr} {o : Obj},s₁.heap.get? b = some o -> H b = none -> (zjr s₁.heap H).get? b = some o:=λ e n=>znr e n
   have noA : ∀ {b : Addr} {o : Obj} {es : Array DictEntry} {ep : Nat},s₁.heap.get? b = some o -> o.data = .dict es ep -> H b = none:=λ {b o es ep} e d=>by
     cases q : H b with
     | none=>rfl
     | some u =>
       have e' : b = a:=hA b (by rw [q]; simp);subst e';rw [ha] at e; cases e;have d' : Data.seq vs.toArray _ = Data.dict es ep:=d;cases d'
   have nsK : ∀ {b : Addr} {m : Str -> Option Value},s₁.heap.Ns b m -> (zjr s₁.heap H).Ns b m:=λ {b m} ⟨o,es,ep,e,d,r⟩=>⟨o,es,ep,base_of e (noA e d),d,r⟩
   have hKb : K.In (zjr s₁.heap H):=λ b o e=>base_of (KX b o e) (by
     cases q : H b with
     | none=>rfl
     | some u =>
       have e' : b = a:=hA b (by rw [q]; simp);subst e';rw [hK (by rw [q]; simp)] at e; cases e)
   have hM : Mod K mg (zjr s₁.heap H):=⟨hKb,nsK hns,⟨mb,nsK hb,hbb⟩,let ⟨mc,h1,h2⟩:=hlim; ⟨mc,nsK h1,h2⟩⟩;have e0 : znT P w K mg (zjr s₁.heap H) callerA [] s₁ H:=⟨rfl,hM,λ b o e=>zp9 e,Nat.le_of_eq (zmu _ _),trivial,λ b hb=>absurd (show b ∈ ([] : List Addr) from hb) (by simp),hok,.of_eq hg⟩;refine codeAny_mono ((F _ hKb (nsK hns)).run callerA [] s₁ H ⟨[.ref a],[]⟩ [.ref a] [.ref a] _ _ hr e0 (hbind s₁ (.ref a)) (.cons rfl .nil) (hsp H hO hS)) λ r s' h=>?_
   cases r with
   | error e=>exact (hCX H e s' h).elim
   | ok fl =>
     cases fl with
     | next=>exact WN h
     | brk=>exact WN h
     | cont=>exact WN h
     | ret u =>
       obtain ⟨v,H',os,bare,un,hok',r',q⟩:=h;have q' : v = .bl true:=q;subst q';obtain rfl : u = Value.bool true:=r';refine ⟨rfl,OldK.of_keep λ b o e=>?_,os,bare⟩;cases q : H b with
       | none=>exact un.keep b o e q (by intro z; exact absurd (show b ∈ ([] : List Addr) from z) (by simp)) (by simp)
       | some u =>
         rcases hO b with z | ⟨ob,xs,z⟩
         . rw [q] at z; cases z
         . have z2:=un.frzs b ob _ z
           obtain ⟨e1,_⟩:=hok b _ z;obtain ⟨e2,_⟩:=hok' b _ z2;rw [e] at e1; cases e1;exact e2
 cases hk : K.lookup a with
 | some o =>
   -- the script is one of the module's own objects
   have e:=KX a o hk;rw [ha] at e;cases e;refine core (λ _=>none) (λ _=>.inl rfl) (.inr ⟨_,vs.toArray,_,hk,rfl,rfl,rfl,by rw [wq,lenV]; exact hl,by simpa using rv⟩) (λ b u z=>by have z' : (none : Option HO) = some u:=z; cases z') (λ b z=>absurd rfl z) λ z=>absurd rfl z
 | none =>
   refine core (λ b=>if b = a then some (.frz { cls:=.type "list",data:=.seq vs.toArray } (.lst (ns.map V.int))) else none) (λ b=>?_) (.inl (.inr ⟨{ cls:=.type "list",data:=.seq vs.toArray },if_pos rfl⟩)) (λ b u z=>?_) (λ b z=>?_) λ _=>hk
   . by_cases hb : b = a
     . exact .inr ⟨_,_,if_pos hb⟩
     . exact .inl (if_neg hb)
   . by_cases hb : b = a
     . have z':=(if_pos hb).symm.trans z
       cases z';subst hb;exact ⟨ha,by rw [wd]; exact hl,vs,_,rv,ha⟩
     . have z':=(if_neg hb).symm.trans z
       cases z'
   . by_cases hb : b = a
     . exact hb
     . exact absurd (if_neg hb) z
abbrev KOf {K : wa} {h : Heap} (_ : K.In h) : wa:=K
theorem walk_of {l : qy} {n k : Nat} {q : Program} {loose : List Str} {XP : (Str -> Option Value) -> Heap -> Prop} {YP : World -> Heap -> Prop} {d : DefRec} {K : Params -> wa} {CX : World -> CXT} {sp : World -> Sp} {x : Str}
   (hn : l.most = some n) (hn2 : n <= sizeLine) (hdf : d.params.defaults = []) (hr : zej k callerA)
   (hY : ∀ (w : World) (h : Heap),YP w h -> (K w.params).In h)
   (F : ∀ (w : World) (mg : Str -> Option Value) (fa : Addr) (h : Heap),(K w.params).In h -> h.Ns mainGlobals mg -> mg d.name = some (.ref fa) ->
     ∃ fd : FuncData,(∀ (s : Shared) (u : Value),BindsTo s fd ⟨[u],[]⟩ [(x,u)]) /\
       ∀ base : Heap,(K w.params).In base -> base.Ns mainGlobals mg -> zbB l.prog w (K w.params) mg base (CX w) k fa fd [x] (sp w))
   (hsp : ∀ (w : World) (H : Hp) (a : Addr) (ns : List Int),ns.length <= n -> zqJ H -> SqL (K w.params) H a (ns.map V.int) -> sp w [.ref a] H (λ v _=>v = .bl true) λ _ _ _=>False)
   (hCX : ∀ (w : World) (H : Hp) (s : Shared) (e : Value) (s' : Shared),CX w [] H s (λ _ _ _=>False) e s' -> False) :
   xL q loose XP YP l.row.toRowW d [] (λ f vs=>xk f vs):=by
 refine Att.attach_call hn hdf λ w s₀ s₁ mg mb fa o pm cd doc a vs ns G Y ho hd hcd hmg hobj hints hlen hg=>?_
 have KX:=hY w _ Y;obtain ⟨fd,hb,hF⟩:=F w mg fa _ KX G.T.g hmg;exact znV KX G.T.g G.T.b G.T.builtins G.T.nolimit hg hobj hints (wV hlen hn2) hr hF hb (λ H hO hS=>hsp w H a ns hlen hO hS) λ H e s'=>hCX w H s₁ e s'
def zaA (s : Stmt) : Arguments:=match s with
 | .FunctionDef _ a _ _ _ _ _ _ _ _=>a
 | _=>{ posonlyargs:=[],args:=[],vararg:=none,kwonlyargs:=[],kw_defaults:=[],kwarg:=none,defaults:=[] }
def zav (s : Stmt) : List Stmt:=match s with
 | .FunctionDef _ _ b _ _ _ _ _ _ _=>b
 | _=>[]
def zae (s : Stmt) : Scope:=match s with
 | .FunctionDef _ _ _ _ _ _ sc _ _ _=>sc
 | _=>{ kind:=.function,names:=[],isGenerator:=false,isCoroutine:=false }
abbrev CX0 : CXT:=λ _ _ _ _ _ _=>False
abbrev E0 : XK:=λ _ _ _=>False
theorem zaq {X : Cx} : zi9 CX0 X E0:=λ _ _ _ _ _ _ _ h=>h.elim
structure Fun (K : wa) (x qual : Str) (st : Stmt) (f : Addr) (fd : FuncData) : Prop where
 ex : ∃ (oc : Value) (od : Option Addr) (kV doc pm : Value) (an : Option Addr) (cdv ct : Value) (osl : Array (Option Value)),
   fd = wD x qual (zaA st) (zav st) (zae st) .none kV doc pm an cdv ct /\ K.lookup f = some ⟨oc,od,.func fd,osl⟩ /\ wA K cdv qual = true
 kp : ww K (.ref f) = true
section
variable {P : Program} {w : World} {K : wa} {mg : Str -> Option Value} {base : Heap}
theorem Fun.ok {x qual : Str} {st : Stmt} {f : Addr} {fd : FuncData} {N ps : List Str} {k : Nat} {sp : Sp} (F : Fun K x qual st f fd) (S : zaB N ps (zae st)) (len : ∀ vs H Q E,sp vs H Q E -> vs.length = ps.length)
   (hbody : ∀ (cdv : Value) (A : Around) (outer : List Env) (s : Shared) (H : Hp) (vs : List V) (Q : VK) (E : XK),zej k (A.deeper (envOfC qual (zae st) s.heap.objs.size f cdv)) -> sp vs H Q E ->
     ∃ t,PSs (zbz CX0 P w K mg base N qual (zae st) f cdv A outer s H E).nox (zav st) t /\ t { nx:=λ _ H'=>Q .non H',rt:=Q } (start N vs) H) : zbB P w K mg base CX0 (k + 1) f fd ps sp:=by
 obtain ⟨oc,od,kV,doc,pm,an,cdv,ct,osl,rfl,lk,hcd⟩:=F.ex;refine zq7 lk hcd S len λ A outer s H vs Q E hr hsp=>?_
 obtain ⟨t,h,q⟩:=hbody cdv A outer s H vs Q E hr hsp;exact ⟨t,h.nox,q⟩
theorem Fun.binds {x qual : Str} {st : Stmt} {f : Addr} {fd : FuncData} {ps : List Str} (F : Fun K x qual st f fd)
   (h : ∀ (kV doc pm : Value) (an : Option Addr) (cdv ct : Value) (us : List Value),us.length = ps.length -> bindArgs (wD x qual (zaA st) (zav st) (zae st) .none kV doc pm an cdv ct) ⟨us,[]⟩ = pure (ps.zip us)) : za1 K fd ps []:=by
 obtain ⟨oc,od,kV,doc,pm,an,cdv,ct,osl,rfl,lk,hcd⟩:=F.ex;exact .all (h kV doc pm an cdv ct)
theorem zaR {x qual : Str} {st : Stmt} {f : Addr} {oc : Value} {od an : Option Addr} {osl : Array (Option Value)} {kV doc pm cdv ct : Value} (l : K.lookup f = some ⟨oc,od,.func (wD x qual (zaA st) (zav st) (zae st) .none kV doc pm an cdv ct),osl⟩)
   (c : wA K cdv qual = true) (k : ww K (.ref f) = true) : Fun K x qual st f (wD x qual (zaA st) (zav st) (zae st) .none kV doc pm an cdv ct):=⟨⟨oc,od,kV,doc,pm,an,cdv,ct,osl,rfl,l,c⟩,k⟩
end
theorem zb4 {n : Nat} (h : n <= 1000) : n < sizeLine:=vY h (by decide)
section
variable {X : Cx}
theorem pv (i : Nat) {x : Str} {pos : Pos} (hN : X.N[i]? = some x:=by rfl) (hv : Vis X.env.scope x:=by first | exact Or.inl rfl | exact Or.inr (Or.inl rfl) | exact Or.inr (Or.inr rfl)) (hd : (x == ("__debug__" : Str)) = false:=by decide)
   (hcd : (x == ("__classdict__" : Str)) = false:=by decide) : PE X (.Name x pos) (zjh i):=zr4 hN hv hd hcd
end
theorem zpT {A B : Prop} (h : B) : if false = true then A else B:=by
 rw [if_neg vo];exact h
theorem zmM {A B : Prop} (h : A) : if true = true then A else B:=by
 rw [if_pos rfl];exact h
def zag (H H' : Hp) : Prop:=∀ b o,H b = some o -> H' b = some o
theorem zag.refl (H : Hp) : zag H H:=λ _ _ h=>h
theorem zag.trans {H H1 H2 : Hp} (a : zag H H1) (b : zag H1 H2) : zag H H2:=λ c o h=>b c o (a c o h)
theorem zag.seq {K : wa} {H H' : Hp} {a : Addr} {xs : List V} (e : zag H H') (h : SqL K H a xs) : SqL K H' a xs:=by
 rcases h with (h | ⟨o,h⟩) | h
 . exact .inl (.inl (e _ _ h))
 . exact .inl (.inr ⟨o,e _ _ h⟩)
 . exact .inr h
end L2
namespace GM
structure Bd (n : Nat) (x : Int) : Prop where
 lt : x.natAbs < 2 ^ n
theorem Bd.mono {m n : Nat} {x : Int} (h : Bd m x) (e : m <= n) : Bd n x:=⟨wL h.lt (qS (by decide) e)⟩
theorem Bd.log {n : Nat} {x : Int} (h : Bd n x) (hn : 0 < n) : x.natAbs.log2 < n:=by
 by_cases e : x.natAbs = 0
 . rw [e]; exact hn
 . exact (Nat.log2_lt e).mpr h.lt
structure Bdr (n : Nat) (x : Rat) : Prop where
 t : Bd n x.num
 b : Bd n (x.den : Int)
theorem Bd.of128 {m : Int} (h1 : -100000000000000000000000000000000000000 <= m) (h2 : m <= 100000000000000000000000000000000000000) : Bd 128 m:=⟨by
 have e : (2 : Nat) ^ 128 = 340282366920938463463374607431768211456:=by decide
 rw [e];omega⟩
def shf (a b : Rat) : Nat -> Rat
 | 0=>0
 | n + 1=>a * shf a b n + b
def push (a b : Rat) : Nat -> Rat -> Rat
 | 0,x=>x
 | n + 1,x=>a * push a b n x + b
def zqg (a b : Rat) (n : Nat) (xs : List Rat) (i : Nat) : List Rat:=(xs.map λ x=>push a b n (x + (1 - xs.getD i 0))).set i 0
def zll (a b : Rat) (ns : List Int) (xs : List Rat) : Nat -> List Rat
 | 0=>xs
 | k + 1=>zqg a b (ns.getD k 0).toNat (zll a b ns xs k) k
def zsO (a b : Rat) (n : Nat) (xs : List Rat) : List Rat:=(xs.tail.map λ y=>push a b n (y + (1 - xs.headD 0))) ++ [0]
def turned (a b : Rat) (ns : List Int) (xs : List Rat) : Nat -> List Rat
 | 0=>xs
 | k + 1=>zsO a b (ns.getD k 0).toNat (turned a b ns xs k)
theorem getD_mem {α : Type} {xs : List α} {d : α} {i : Nat} (h : i < xs.length) : xs.getD i d ∈ xs:=by
 rw [wc,we h];exact vb h
structure ztt (x : Rat) : Prop where
 nn : 0 <= x
 lt : x < 1
 den : x.den <= 60
def mx (m : Rat) (l : List Rat) : Rat:=l.foldl (λ m x=>if m < x then x else m) m
def zqb (xs : List Rat) : Rat:=mx (xs.getD 0 0) xs
def ztb (ps : List Rat) (left : List Nat) : List Nat:=left.filter λ w=>!decide (ps.getD w 0 < 1)
def zi8 (left wave : List Nat) : List Nat:=left.filter λ w=>!decide (w ∈ wave)
def zpi (f g : Rat) (ps : List Rat) (l : List Nat) : List Rat:=l.foldl (λ ps w=>ps.set w (f * ps.getD w 0 + g)) ps
def zjq (a b : Rat) : Nat -> List Rat -> List Nat -> List (List Nat) × (List Nat × List Rat)
 | 0,ps,left=>([],left,ps)
 | n + 1,ps,left=>match ztb ps left with
   | []=>([],left,ps)
   | w :: ws=>((w :: ws) :: (zjq a b n (zpi (a ^ (w :: ws).length) (shf a b (w :: ws).length) ps (zi8 left (w :: ws))) (zi8 left (w :: ws))).1,(zjq a b n (zpi (a ^ (w :: ws).length) (shf a b (w :: ws).length) ps (zi8 left (w :: ws))) (zi8 left (w :: ws))).2)
def zr2 (left : List Nat) (ps : List Rat) : List Rat:=(wo ps.length).map λ i=>if i ∈ left then ps.getD i 0 else 0
def zs9 (xs : List Rat) : List Rat:=xs.map (· + (1 - zqb xs))
def zoA (a b : Rat) (xs : List Rat) : List (List Nat) × (List Nat × List Rat):=zjq a b xs.length (zs9 xs) (wo xs.length)
def zmy (a b : Rat) (xs : List Rat) : List (List Nat):=(zoA a b xs).1
def zsv (a b : Rat) (xs : List Rat) : List Rat:=zr2 (zoA a b xs).2.1 (zoA a b xs).2.2
def znP (a b : Rat) (xs : List Rat) : Nat -> List Rat
 | 0=>xs
 | k + 1=>zsv a b (znP a b xs k)
def znF (a b : Rat) (xs : List Rat) : Nat -> Rat
 | 0=>0
 | k + 1=>znF a b xs k + (1 - zqb (znP a b xs k))
structure ztC (l : List Rat) : Prop where
 pw : l.Pairwise (· > ·)
 nn : ∀ y ∈ l,0 <= y
structure znk (xs row : List Rat) (fl : Nat -> Nat) : Prop where
 at' : ∀ w,w < xs.length -> xs.getD w 0 = row.getD (fl w) 0
 lt : ∀ w,w < xs.length -> fl w < row.length
def ztE (n : Nat) (fl : Nat -> Nat) (c : Nat) : List Nat:=(wo n).filter λ w=>decide (fl w = c)
structure ztR (xs row : List Rat) (fl : Nat -> Nat) (ns : List Int) : Prop where
 pl : znk xs row fl
 fall : ztC row
 one : row.getD 0 0 < 1
 len : ns.length = row.length
 some : ∀ c,c < row.length -> ∃ w,w < xs.length /\ fl w = c
 size : ∀ c,c < row.length -> (ns.getD c 0).toNat = (ztE xs.length fl c).length
def zly (xs : List Rat) (v : Rat) : List Nat:=(wo xs.length).filter λ w=>decide (xs.getD w 0 = v)
def zj8 : Nat -> List Rat -> List Rat
 | 0,_=>[]
 | _ + 1,[]=>[]
 | n + 1,x :: l=>zqb (x :: l) :: zj8 n ((x :: l).filter λ y=>!decide (y = zqb (x :: l)))
def zbR (xs : List Rat) : List Rat:=zj8 xs.length xs
def zpG (xs : List Rat) (w : Nat) : Nat:=(zbR xs).idxOf (xs.getD w 0)
def zgA (xs : List Rat) : List Int:=(zbR xs).map λ v=>((zly xs v).length : Int)
def zq2 (a b : Rat) (ns : List Int) (row : List Rat) : Nat -> Rat
 | 0=>0
 | k + 1=>zq2 a b ns row k + (1 - (zll a b ns row k).getD k 0)
structure ztN (xs : List Rat) : Prop where
 nn : ∀ x ∈ xs,0 <= x
 lt : ∀ x ∈ xs,x < 1
structure ztV (a b : Rat) (xs : List Rat) : Prop where
 waves : ∀ t,t < (zbR xs).length -> zmy a b (znP a b xs t) = [zly xs ((zbR xs).getD t 0)]
 vals : zbR (znP a b xs (zbR xs).length) = zll a b (zgA xs) (zbR xs) (zbR xs).length
 sizes : zgA (znP a b xs (zbR xs).length) = zgA xs
 hour : znF a b xs (zbR xs).length = zq2 a b (zgA xs) (zbR xs) (zbR xs).length
def zjN : List Int -> List Rat -> List Rat
 | n :: ns,x :: xs=>wl n.toNat x ++ zjN ns xs
 | _,_=>[]
structure ztP (zs : List Rat) (ns : List Int) (row : List Rat) : Prop where
 perm : zs.Perm (zjN ns row)
 len : ns.length = row.length
 pos : ∀ n ∈ ns,1 <= n
 fall : row.Pairwise (· > ·)
def seg (n : Nat) (fl : Nat -> Nat) (s t : Nat) : List Nat:=(wo n).filter λ w=>decide (s <= fl w) && decide (fl w < t)
inductive zpz (n : Nat) (fl : Nat -> Nat) : Nat -> List (List Nat) -> Nat -> Prop
 | nil (t : Nat) : zpz n fl t [] t
 | cons {t u v : Nat} {ws : List (List Nat)} : t < u -> zpz n fl u ws v -> zpz n fl t (seg n fl t u :: ws) v
structure ztH (xs ys : List Rat) (waves : List (List Nat)) (v : Nat) : Prop where
 v1 : 1 <= v
 vm : v <= (zbR xs).length
 first : ∃ ws,waves = seg xs.length (zpG xs) 0 1 :: ws /\ zpz xs.length (zpG xs) 1 ws v
 vals : ∃ (A B : Rat),0 < A /\ zbR ys = ((zbR xs).drop v).map (λ x=>A * x + B) ++ [0] /\ (∀ x ∈ (zbR xs).drop v,0 < A * x + B)
 at' : znk ys (zbR ys) (λ w=>if zpG xs w < v then (zbR xs).length - v else zpG xs w - v)
 len : ys.length = xs.length
end GM
namespace L2
open PySem PySem.Spec PyProof.Rows GM
section
variable {K : wa} {H H' H2 : Hp} {a p : Addr} {xs ys : List V} {o : HO}
theorem zag.upd (h : H p = none) : zag H (upd H p o):=λ b u e=>by
 rw [zbj (zay e h)];exact e
theorem zag.sqT (s : zag H H') (h : SqT K H a xs) : SqT K H' a xs:=by
 rcases h with (h | ⟨o,h⟩) | h
 . exact .inl (.inl (s _ _ h))
 . exact .inl (.inr ⟨o,s _ _ h⟩)
 . exact .inr h
structure zaM (H H' : Hp) : Prop where
 t : ∀ b xs,H b = some (.tup xs) -> H' b = some (.tup xs)
 f : ∀ b o u,H b = some (.frz o u) -> H' b = some (.frz o u)
theorem zag.keep (s : zag H H') : zaM H H':=⟨λ b xs h=>s _ _ h,λ b o u h=>s _ _ h⟩
theorem zaM.refl (H : Hp) : zaM H H:=(zag.refl H).keep
theorem zaM.trans (a : zaM H H') (b : zaM H' H2) : zaM H H2:=⟨λ c xs h=>b.t _ _ (a.t _ _ h),λ c o u h=>b.f _ _ _ (a.f _ _ _ h)⟩
theorem zaM.sqT (k : zaM H H') (h : SqT K H a xs) : SqT K H' a xs:=by
 rcases h with (h | ⟨o,h⟩) | h
 . exact .inl (.inl (k.t _ _ h))
 . exact .inl (.inr ⟨o,k.f _ _ _ h⟩)
 . exact .inr h
def SqF (K : wa) (H : Hp) (a : Addr) (xs : List V) : Prop :=
 (∃ o,H a = some (.frz o (.lst xs))) \/
   ∃ (o : Obj) (its : Array Value) (n : Nat),K.lookup a = some o /\ o.cls = .type "list" /\ o.dict = none /\ o.data = .seq its n /\ its.size <= sizeLine /\ zaG xs its.toList
theorem SqF.sq (h : SqF K H a xs) : SqL K H a xs:=by
 rcases h with ⟨o,h⟩ | h
 . exact .inl (.inr ⟨o,h⟩)
 . exact .inr h
theorem zaM.sqF (k : zaM H H') (h : SqF K H a xs) : SqF K H' a xs:=by
 rcases h with ⟨o,h⟩ | h
 . exact .inl ⟨o,k.f _ _ _ h⟩
 . exact .inr h
def Exc (p : Addr) (H H' : Hp) : Prop:=∀ b o,b ≠ p -> H b = some o -> H' b = some o
theorem Exc.keep (e : Exc p H H') (h : H p = some (.lst xs)) : zaM H H' :=
 ⟨λ b ys hb=>e b _ (zne hb h (by intro z; cases z)) hb,λ b o u hb=>e b _ (zne hb h (by intro z; cases z)) hb⟩
theorem zag.exc (s : zag H H') : Exc p H H':=λ b o _ h=>s b o h
theorem Exc.refl (p : Addr) (H : Hp) : Exc p H H:=λ _ _ _ h=>h
theorem Exc.trans (a : Exc p H H') (b : Exc p H' H2) : Exc p H H2:=λ c o n h=>b c o n (a c o n h)
theorem Exc.upd (p : Addr) (H : Hp) (o : HO) : Exc p H (upd H p o):=λ b u n h=>by
 rw [zbj n];exact h
theorem Exc.at (e : Exc p H H') {q : Addr} {u : HO} (n : q ≠ p) (h : H q = some u) : H' q = some u:=e q u n h
end
mutual
def Is (K : wa) (H : Hp) : V -> PyData -> Prop
 | v,.none=>v = .non
 | v,.bool b=>v = .bl b
 | v,.int i=>v = .int i
 | v,.str x=>v = .str x
 | v,.tuple ds=>∃ a xs,v = .ref a /\ SqT K H a xs /\ IsAll K H xs ds
 | v,.list ds=>∃ a xs,v = .ref a /\ SqL K H a xs /\ IsAll K H xs ds
 | v,.dict _=>∃ a kvs,v = .ref a /\ H a = some (.dK kvs)
def IsAll (K : wa) (H : Hp) : List V -> List PyData -> Prop
 | xs,[]=>xs = []
 | xs,d :: ds=>∃ x r,xs = x :: r /\ Is K H x d /\ IsAll K H r ds
end
section
variable {K : wa} {H H' : Hp} {v : V} {xs : List V} {ds : List PyData} {d : PyData}
theorem zbf {i : Int} : Is K H v (.int i) ↔ v = .int i:=by rw [Is]
theorem zc6 {b : Bool} : Is K H v (.bool b) ↔ v = .bl b:=by rw [Is]
theorem zf0 {x : Str} : Is K H v (.str x) ↔ v = .str x:=by rw [Is]
theorem zd8 : Is K H v .none ↔ v = .non:=by rw [Is]
theorem zaI : Is K H v (.tuple ds) ↔ ∃ a xs,v = .ref a /\ SqT K H a xs /\ IsAll K H xs ds:=by rw [Is]
theorem zaF : Is K H v (.list ds) ↔ ∃ a xs,v = .ref a /\ SqL K H a xs /\ IsAll K H xs ds:=by rw [Is]
theorem zi1 {kv : List (PyData × PyData)} : Is K H v (.dict kv) ↔ ∃ a kvs,v = .ref a /\ H a = some (.dK kvs):=by rw [Is]
theorem za3 : IsAll K H xs [] ↔ xs = []:=by rw [IsAll]
theorem zaE : IsAll K H xs (d :: ds) ↔ ∃ x r,xs = x :: r /\ Is K H x d /\ IsAll K H r ds:=by rw [IsAll]
theorem IsAll.cons (h : Is K H v d) (t : IsAll K H xs ds) : IsAll K H (v :: xs) (d :: ds):=zaE.mpr ⟨v,xs,rfl,h,t⟩
theorem IsAll.nil : IsAll K H [] []:=za3.mpr rfl
theorem IsAll.length : ∀ {ds : List PyData} {xs : List V},IsAll K H xs ds -> xs.length = ds.length
 | [],_,h=>by rw [za3.mp h]; rfl
 | d :: ds,_,h=>by
   obtain ⟨x,r,rfl,_,t⟩:=zaE.mp h;rw [wU,wU,IsAll.length t]
theorem IsAll.get : ∀ {ds : List PyData} {xs : List V} {i : Nat} {d : PyData},IsAll K H xs ds -> ds[i]? = some d -> ∃ x,xs[i]? = some x /\ Is K H x d
 | [],_,_,_,_,e=>by simp at e
 | d :: ds,_,0,_,h,e=>by
   obtain ⟨x,r,rfl,q,_⟩:=zaE.mp h;simp at e; subst e;exact ⟨x,rfl,q⟩
 | d :: ds,_,i + 1,d',h,e=>by
   obtain ⟨x,r,rfl,_,t⟩:=zaE.mp h;obtain ⟨y,h1,h2⟩:=IsAll.get (i:=i) t (by simpa using e);exact ⟨y,by simpa using h1,h2⟩
theorem IsAll.append : ∀ {ds es : List PyData} {xs ys : List V},IsAll K H xs ds -> IsAll K H ys es -> IsAll K H (xs ++ ys) (ds ++ es)
 | [],_,_,_,h,t=>by rw [za3.mp h]; exact t
 | d :: ds,_,_,_,h,t=>by
   obtain ⟨x,r,rfl,q,u⟩:=zaE.mp h;exact .cons q (IsAll.append u t)
mutual
theorem Is.same (s : zag H H') : ∀ (d : PyData) (v : V),Is K H v d -> Is K H' v d
 | .none,v,h=>by rw [zd8] at h ⊢; exact h
 | .bool _,v,h=>by rw [zc6] at h ⊢; exact h
 | .int _,v,h=>by rw [zbf] at h ⊢; exact h
 | .str _,v,h=>by rw [zf0] at h ⊢; exact h
 | .tuple ds,v,h=>by
   obtain ⟨a,xs,e,q,t⟩:=zaI.mp h;exact zaI.mpr ⟨a,xs,e,s.sqT q,IsAll.same s ds xs t⟩
 | .list ds,v,h=>by
   obtain ⟨a,xs,e,q,t⟩:=zaF.mp h;exact zaF.mpr ⟨a,xs,e,s.seq q,IsAll.same s ds xs t⟩
 | .dict _,v,h=>by
   obtain ⟨a,kvs,e,q⟩:=zi1.mp h;exact zi1.mpr ⟨a,kvs,e,s _ _ q⟩
theorem IsAll.same (s : zag H H') : ∀ (ds : List PyData) (xs : List V),IsAll K H xs ds -> IsAll K H' xs ds
 | [],xs,h=>by rw [za3] at h ⊢; exact h
 | d :: ds,xs,h=>by
   obtain ⟨x,r,e,q,t⟩:=zaE.mp h;exact zaE.mpr ⟨x,r,e,Is.same s d x q,IsAll.same s ds r t⟩
end
end
/- no list and no dict within -/
mutual
def Imm : PyData -> Bool
 | .none=>true
 | .bool _=>true
 | .int _=>true
 | .str _=>true
 | .tuple ds=>ImmAll ds
 | .list _=>false
 | .dict _=>false
def ImmAll : List PyData -> Bool
 | []=>true
 | d :: ds=>Imm d && ImmAll ds
end
section
variable {K : wa} {H H' : Hp}
mutual
theorem Is.keep (k : zaM H H') : ∀ (d : PyData) (v : V),Imm d = true -> Is K H v d -> Is K H' v d
 | .none,v,_,h=>by rw [zd8] at h ⊢; exact h
 | .bool _,v,_,h=>by rw [zc6] at h ⊢; exact h
 | .int _,v,_,h=>by rw [zbf] at h ⊢; exact h
 | .str _,v,_,h=>by rw [zf0] at h ⊢; exact h
 | .tuple ds,v,i,h=>by
   obtain ⟨a,xs,e,q,t⟩:=zaI.mp h;exact zaI.mpr ⟨a,xs,e,k.sqT q,IsAll.keep k ds xs (by rw [Imm] at i; exact i) t⟩
 | .list ds,v,i,h=>by rw [Imm] at i; cases i
 | .dict _,v,i,h=>by rw [Imm] at i; cases i
theorem IsAll.keep (k : zaM H H') : ∀ (ds : List PyData) (xs : List V),ImmAll ds = true -> IsAll K H xs ds -> IsAll K H' xs ds
 | [],xs,_,h=>by rw [za3] at h ⊢; exact h
 | d :: ds,xs,i,h=>by
   obtain ⟨x,r,e,q,t⟩:=zaE.mp h;rw [ImmAll,wX] at i;exact zaE.mpr ⟨x,r,e,Is.keep k d x i.1 q,IsAll.keep k ds r i.2 t⟩
end
end
def N (r : Rat) : PyData:=.tuple [.int r.num,.int (r.den : Int)]
section
variable {K : wa} {H H' : Hp} {v : V} {r : Rat}
end
section
variable {X : Cx} {pins : List (Addr × Obj)} {σ : St} {H : Hp} {s : Shared}
mutual
theorem Inv.reads (I : Inv X pins σ H s) : ∀ (d : PyData) (v : V) (u : Value),d.canLay0 = true -> Is X.K H v d -> zaQ v u -> ∃ as,Reads s.heap u d as
 | .none,v,u,_,h,r=>by
   cases zd8.mp h;cases (show u = Value.none from r);exact ⟨_,.none⟩
 | .bool b,v,u,_,h,r=>by
   cases zc6.mp h;cases (show u = Value.bool b from r);exact ⟨_,.bool b⟩
 | .int i,v,u,_,h,r=>by
   cases zbf.mp h;obtain ⟨t,e⟩:=(show ∃ t,u = Value.int i t from r);cases e;exact ⟨_,.int i t⟩
 | .str x,v,u,_,h,r=>by
   cases zf0.mp h;obtain ⟨t,e⟩:=(show ∃ t,u = Value.str x t from r);cases e;exact ⟨_,.str x t⟩
 | .tuple ds,v,u,c,h,r=>by
   obtain ⟨a,xs,e,q,t⟩:=zaI.mp h;subst e;cases (show u = Value.ref a from r);obtain ⟨its,rv,⟨o,e1,e2,n,e3⟩,_⟩:=I.tuple q;obtain ⟨as,ra⟩:=Inv.readsAll I ds xs its (by rw [WB] at c; exact c) t rv;exact ⟨_,.tuple e1 e2 e3 (by simpa using ra)⟩
 | .list ds,v,u,c,h,r=>by
   obtain ⟨a,xs,e,q,t⟩:=zaF.mp h;subst e;cases (show u = Value.ref a from r);obtain ⟨its,rv,⟨o,n,e1,e2,_,e3⟩,_⟩:=I.list q;obtain ⟨as,ra⟩:=Inv.readsAll I ds xs its (by rw [WB] at c; exact c) t rv;exact ⟨_,.list e1 e2 e3 (by simpa using ra)⟩
 | .dict _,v,u,c,h,r=>by rw [WB] at c; cases c
theorem Inv.readsAll (I : Inv X pins σ H s) : ∀ (ds : List PyData) (xs : List V) (us : List Value),Wk ds = true -> IsAll X.K H xs ds -> zaG xs us -> ∃ as,ReadsAll s.heap us ds as
 | [],xs,us,_,h,r=>by
   rw [za3.mp h] at r;cases r;exact ⟨_,.nil⟩
 | d :: ds,xs,us,c,h,r=>by
   obtain ⟨x,l,e,q,t⟩:=zaE.mp h;subst e;rw [Wk,wX] at c;cases r with
   | cons r1 r2 =>
     obtain ⟨as,h1⟩:=Inv.reads I d x _ c.1 q r1;obtain ⟨bs,h2⟩:=Inv.readsAll I ds l _ c.2 t r2;exact ⟨_,.cons h1 h2⟩
end
end
section
variable {X : Cx}
open PySem.SeqAt (shaped)
def zcV (K : wa) : R2:=λ x y H Q=>∃ d e,Is K H x d /\ Is K H y e /\ shaped d = true /\ shaped e = true /\ Q (.bl (wQ d e)) H
def zek (K : wa) : R2:=λ x y H Q=>∃ d e,Is K H x d /\ Is K H y e /\ shaped d = true /\ shaped e = true /\ Q (.bl (!PyData.eqv d e)) H
theorem zbI (hu : X.A.units + 64 < cLine) : OpR X (compareOp .Eq) (zcV X.K):=by
 intro pins s σ H x y v u Q I rx ry h;obtain ⟨d,e,hd,he,sd,se,q⟩:=h;obtain ⟨as,h1⟩:=I.reads d x v (WC sd) hd rx;obtain ⟨bs,h2⟩:=I.reads e y u (WC se) he ry;exact eq_dataH h1 h2 sd se hu ⟨.bl _,H,I,rfl,q⟩
theorem zdK (hu : X.A.units + 64 < cLine) : OpR X (compareOp .NotEq) (zek X.K):=by
 intro pins s σ H x y v u Q I rx ry h;obtain ⟨d,e,hd,he,sd,se,q⟩:=h;obtain ⟨as,h1⟩:=I.reads d x v (WC sd) hd rx;obtain ⟨bs,h2⟩:=I.reads e y u (WC se) he ry;exact ne_dataH h1 h2 sd se hu ⟨.bl _,H,I,rfl,q⟩
theorem zaQ.beq_bool {x : V} {v : Value} (r : zaQ x v) (c : Bool) : (v == Value.bool c) = decide (x = .bl c):=by
 cases x with
 | non=>cases (show v = Value.none from r); rfl
 | bl b=>cases (show v = Value.bool b from r); cases b <;> cases c <;> rfl
 | int _=>obtain ⟨t,rfl⟩:=r; rfl
 | str _=>obtain ⟨t,rfl⟩:=r; rfl
 | byt _=>obtain ⟨t,rfl⟩:=r; rfl
 | flt _=>obtain ⟨t,rfl⟩:=r; rfl
 | ref _=>cases r; rfl
 | ty _=>cases r; rfl
theorem zaQ.plain_bool {x : V} {v : Value} (r : zaQ x v) (c : Bool) : plainIs v (Value.bool c) = true:=by
 cases x with
 | non=>cases (show v = Value.none from r); rfl
 | bl b=>cases (show v = Value.bool b from r); rfl
 | int _=>obtain ⟨t,rfl⟩:=r; rfl
 | str _=>obtain ⟨t,rfl⟩:=r; rfl
 | byt _=>obtain ⟨t,rfl⟩:=r; rfl
 | flt _=>obtain ⟨t,rfl⟩:=r; rfl
 | ref _=>cases r; rfl
 | ty _=>cases r; rfl
def rIs : R2:=λ x y H Q=>(∃ c,y = .bl c /\ Q (.bl (decide (x = .bl c))) H) \/ (y = .non /\ Q (.bl (decide (x = .non))) H)
theorem zte : OpR X (compareOp .Is) rIs:=by
 intro pins s σ H x y v u Q I rx ry h;rcases h with ⟨c,e,q⟩ | h
 . subst e
   cases (show u = Value.bool c from ry);exact wpAny_is_plain (rx.plain_bool c) (znf I q (rx.beq_bool c).symm)
 . exact zso pins s σ H x y v u Q I rx ry h
def kindOf : PyData -> String
 | .none=>"NoneType"
 | .bool _=>"bool"
 | .int _=>"int"
 | .str _=>"str"
 | .tuple _=>"tuple"
 | .list _=>"list"
 | .dict _=>"dict"
def zgu (K : wa) : List V -> Hp -> VK -> Prop:=λ xs H Q=>∃ x T d b,xs = [x,.ty T] /\ Is K H x d /\ V1 K (.type (kindOf d)) (.type T) = some b /\ Q (.bl b) H
theorem zf6 : zal X (.builtin "isinstance") (zgu X.K):=by
 intro pins s σ H xs us Q I r h;obtain ⟨x,T,d,b,rfl,hd,e,q⟩:=h;obtain ⟨u,w',rfl,rx,rt⟩:=zh3 r;cases (show w' = Value.type T from rt);have fin : ∀ tk,EP X pins σ Q (.bool b) { s with toks:=tk }:=λ tk=>⟨.bl b,H,I.tok _,rfl,q⟩
 cases d with
 | none =>
   cases zd8.mp hd;cases (show u = Value.none from rx);exact WH QF I.kIn True.intro e (λ z=>nomatch z) fin
 | bool y =>
   cases zc6.mp hd;cases (show u = Value.bool y from rx);exact WH QG I.kIn True.intro e (λ z=>nomatch z) fin
 | int i =>
   cases zbf.mp hd;obtain ⟨t,q⟩:=(show ∃ t,u = Value.int i t from rx);cases q;exact WH Q2 I.kIn True.intro e (λ z=>nomatch z) fin
 | str y =>
   cases zf0.mp hd;obtain ⟨t,q⟩:=(show ∃ t,u = Value.str y t from rx);cases q;exact WH Q3 I.kIn True.intro e (λ z=>nomatch z) fin
 | tuple ds =>
   obtain ⟨a,xs,e1,hq,_⟩:=zaI.mp hd;subst e1;cases (show u = Value.ref a from rx);obtain ⟨its,_,⟨o,h1,h2,_⟩,_⟩:=I.tuple hq;exact WH Ql I.kIn ⟨o,h1,h2⟩ e (λ z=>nomatch z) fin
 | list ds =>
   obtain ⟨a,xs,e1,hq,_⟩:=zaF.mp hd;subst e1;cases (show u = Value.ref a from rx);obtain ⟨its,_,⟨o,n,h1,h2,_⟩,_⟩:=I.list hq;exact WH QI I.kIn ⟨o,h1,h2⟩ e (λ z=>nomatch z) fin
 | dict kv =>
   obtain ⟨a,kvs,e1,hq⟩:=zi1.mp hd;subst e1;cases (show u = Value.ref a from rx);obtain ⟨_,_,vs,_,o,es,ep,h1,h2,_⟩:=(show za9 X.prog X.w H s.heap a (.dK kvs) from I.hok a _ hq);exact WH QJ I.kIn ⟨o,h1,h2.1⟩ e (λ z=>nomatch z) fin
def isA (T : String) (d : PyData) : Bool:=(kindOf d == T) || (kindOf d == "bool" && T == "int")
theorem zqH {K : wa} (d : PyData) : V1 K (.type (kindOf d)) (.type "int") = some (isA "int" d):=by cases d <;> rfl
theorem zn9 {K : wa} (d : PyData) : V1 K (.type (kindOf d)) (.type "bool") = some (isA "bool" d):=by cases d <;> rfl
theorem zdA : OpR X (binaryOp .Mult) (rI IntMulOk λ i j=>.int (i * j)):=opI λ _ _ _ _ _ _ _ hc q=>mul_int q hc
def ztm (_ j : Int) : Prop:=j ≠ 0 /\ Bd 8999 j
theorem zev : OpR X (binaryOp .FloorDiv) (rI ztm λ i j=>.int (i.fdiv j)):=opI λ _ _ _ _ _ _ _ hc q =>
 floordiv_int hc.1 q (.inl (PyProof.noPylong_of_log2 (Vb (hc.2.log (by decide)))))
theorem zpu : OpR X (binaryOp .Add) (λ x y H Q=>(rI0 λ i j=>.int (i + j)) x y H Q \/ (zrt x y H Q \/ ∃ i j,x = .str i /\ y = .str j /\ i.length + j.length <= sizeLine /\ Q (.str (i ++ j)) H)):=zr1.or (zrB.or zkz)
end
theorem za2 : bootBuiltins "len" = some (.builtin "len"):=by decide +kernel
theorem zcP : bootBuiltins "isinstance" = some (.builtin "isinstance"):=by decide +kernel
theorem zfj : bootBuiltins "int" = some (.type "int"):=by decide +kernel
theorem zl0 : bootBuiltins "bool" = some (.type "bool"):=by decide +kernel
theorem znK : bootBuiltins "str" = some (.type "str"):=by decide +kernel
theorem zaN : bootBuiltins "tuple" = some (.type "tuple"):=by decide +kernel
theorem zc9 : bootBuiltins "list" = some (.type "list"):=by decide +kernel
def mkT (K : wa) (xs : List V) (H : Hp) (Q : VK) : Prop:=xs.length <= sizeLine /\ ∀ p,H p = none -> Q (.ref p) (upd H p (.tup xs))
def mkL (K : wa) (xs : List V) (H : Hp) (Q : VK) : Prop:=xs.length <= sizeLine /\ ∀ p,H p = none -> Q (.ref p) (upd H p (.lst xs))
def znW (K : wa) (t : TA) : TE:=λ σ H Q=>t σ H λ xs H1=>mkT K xs H1 Q
def zks (K : wa) (t : TA) : TE:=λ σ H Q=>t σ H λ xs H1=>mkL K xs H1 Q
def znn : R2:=λ x y H Q=>(rI0 λ i j=>.int (i + j)) x y H Q \/ (zrt x y H Q \/ ∃ i j,x = .str i /\ y = .str j /\ i.length + j.length <= sizeLine /\ Q (.str (i ++ j)) H)
def zb7 (K : wa) : List V -> Hp -> VK -> Prop:=λ xs H Q=>∃ p ys,xs = [.ref p] /\ (SqL K H p ys \/ SqT K H p ys) /\ Q (.int ys.length) H
def ztn : List V -> Hp -> VK -> Prop:=λ xs H Q=>(∃ i,xs = [.int i] /\ Q (.int i) H) \/ ∃ k,xs = [.bl k] /\ Q (.int (if k then 1 else 0)) H
section
variable {X : Cx} {e : Expr} {es : List Expr} {te : TE} {t : TA} {pos : Pos}
theorem zaD {x1} (h : PA X es t) : PE X (.Tuple es x1 pos) (znW X.K t):=zsa h
theorem zaP (h : PA X es t) : PE X (.List es pos) (zks X.K t):=zrm h
theorem zaC : OpR X (binaryOp .Add) znn:=zpu
theorem zax : zal X (.builtin "len") (zb7 X.K):=ziU
theorem zdb : zal X (.type "int") ztn:=zmx
theorem zeq {x : Str} {i : Int} {pos : Pos} (hg : Gl X x) (hm : ∃ t,X.mg x = some (.int i t)) (hd : (x == ("__debug__" : Str)) = false:=by decide) : PE X (.Name x pos) (tC (.int i)):=by
 obtain ⟨t,hm⟩:=hm;exact zqd hg hm ⟨t,rfl⟩ hd
end
section
variable {K : wa} {σ : St} {H H' : Hp} {Q : VK} {QA : List V -> Hp -> Prop} {QB : Bool -> Hp -> Prop} {QS : St -> Hp -> Prop} {QH : Hp -> Prop} {D : zcc} {ta tb te : TE} {tt tu : TT} {t tr : TA} {s1 s2 : TS} {g : TG} {gs : TGs} {r : R2} {v w : V} {xs ys : List V} {i : Nat} {m n : Int}
theorem zho (h : σ[i]? = some (some v)) (q : Q v H) : zjh i σ H Q:=⟨v,h,q⟩
theorem ztz (q : Q v H) : tC v σ H Q:=q
theorem zra (h : ta σ H λ x H1=>tb σ H1 λ y H2=>r x y H2 Q) : tOp r ta tb σ H Q:=h
theorem zsB {u : V -> Hp -> VK -> Prop} (h : ta σ H λ x H1=>u x H1 Q) : tUn u ta σ H Q:=h
theorem zr5 (h : t σ H λ xs H1=>mkT K xs H1 Q) : znW K t σ H Q:=h
theorem zrr (h : t σ H λ xs H1=>mkL K xs H1 Q) : zks K t σ H Q:=h
theorem znZ (q : QA [] H) : zmL σ H QA:=q
theorem zl6 (h : te σ H λ x H1=>tr σ H1 λ xs H2=>QA (x :: xs) H2) : ziu te tr σ H QA:=h
theorem zp1 {sp : Sp} {E : XK} (h : t σ H λ vs H1=>sp vs H1 Q E) : znL sp [] E t σ H Q:=by
 simpa only [znL,vS] using h
theorem zq5 {u : List V -> Hp -> VK -> Prop} (h : t σ H λ vs H1=>u vs H1 Q) : tCB u t σ H Q:=h
theorem zl1 (h : te σ H λ x H'=>∃ k,x = .bl k /\ QB k H') : znU te σ H QB:=h
theorem zto (h : te σ H λ x H'=>∃ k,x = .bl k /\ QB k H') : tB te σ H QB:=h
theorem zog {R : Bool -> Prop} {k : Bool} (q : R k) : ∃ k',V.bl k = V.bl k' /\ R k':=⟨k,rfl,q⟩
theorem zrD (h : tt σ H λ c H1=>if c = true then tu σ H1 QB else QB false H1) : zsF tt tu σ H QB:=h
theorem zsJ (h : tt σ H λ c H1=>if c = true then QB true H1 else tu σ H1 QB) : tOr tt tu σ H QB:=h
theorem zrF (h : tt σ H λ c H1=>QB (!c) H1) : zsD tt σ H QB:=h
theorem zp0 (h : ta σ H λ x H1=>∃ c,x = .bl c /\ if c = true then tb σ H1 Q else Q (.bl false) H1) : zrc ta tb σ H Q:=h
theorem zqe (h : ta σ H λ x H1=>∃ c,x = .bl c /\ Q (.bl (!c)) H1) : zqM ta σ H Q:=h
theorem zr7 (h : tt σ H λ c H1=>if c = true then ta σ H1 Q else tb σ H1 Q) : tIf tt ta tb σ H Q:=h
-- statements
theorem zpU (h : D.nx σ H) : zqY D σ H:=h
theorem zrP (h : te σ H D.rt) : zsT te D σ H:=h
theorem zrZ (h : tt σ H λ b H1=>if b = true then s1 D σ H1 else s2 D σ H1) : ztl tt s1 s2 D σ H:=h
theorem zr6 (h : te σ H λ x H1=>g x σ H1 D.nx) : zo1 te g D σ H:=h
theorem zqG (h : te σ H λ _ H1=>D.nx σ H1) : zq6 te D σ H:=h
theorem zsg {i j : Nat} (h : t σ H λ vs H1=>∃ v w,vs = [v,w] /\ D.nx ((σ.set i (some v)).set j (some w)) H1) : zs1 i j t D σ H:=h
theorem zhE (q : QS (σ.set i (some v)) H) : zeY i v σ H QS:=q
theorem zpJ (q : QS σ H) : zsK [] σ H QS:=⟨rfl,q⟩
theorem zo4 (q : g v σ H λ σ' H'=>gs xs σ' H' QS) : zrf g gs (v :: xs) σ H QS:=⟨v,xs,rfl,q⟩
theorem zcw {a : Addr} {n : Nat} (h : SqT K H a xs) (e : xs.length = n) (q : gs xs σ H QS) : zmp K n gs (.ref a) σ H QS:=⟨a,xs,rfl,h,e,q⟩
theorem zpw {tset : zqD} (h : ta σ H λ o H1=>tb σ H1 λ i H2=>tset o i v H2 λ H3=>QS σ H3) : zs5 ta tb tset v σ H QS:=h
theorem zds {p : Addr} {k : Int} {j : Nat} (h : H p = some (.lst xs)) (e : ixN xs.length k = some j) (q : ∀ H',Exc p H H' -> H' p = some (.lst (xs.set j v)) -> QH H') : zqV (.ref p) (.int k) v H QH :=
 ⟨p,xs,k,j,rfl,rfl,h,e,q _ (Exc.upd p H _) zar⟩
-- ints
theorem zrM {f : Int -> Int -> V} (q : Q (f m n) H) : rI0 f (.int m) (.int n) H Q:=⟨m,n,rfl,rfl,q⟩
theorem zoH {C : Int -> Int -> Prop} {f : Int -> Int -> V} (c : C m n) (q : Q (f m n) H) : rI C f (.int m) (.int n) H Q:=⟨m,n,rfl,rfl,c,q⟩
theorem zth {f : Int -> V} (q : Q (f m) H) : rU f (.int m) H Q:=⟨m,rfl,q⟩
theorem zqm (q : Q (.int (m + n)) H) : znn (.int m) (.int n) H Q:=.inl ⟨m,n,rfl,rfl,q⟩
theorem zby {p b : Addr} (h : H p = some (.lst xs)) (k : H b = some (.lst ys)) (z : xs.length + ys.length <= sizeLine)
   (q : ∀ c H',H c = none -> zag H H' -> H' c = some (.lst (xs ++ ys)) -> Q (.ref c) H') : znn (.ref p) (.ref b) H Q :=
 .inr (.inl ⟨p,b,xs,ys,rfl,rfl,h,k,z,λ c hc=>q c _ hc (zag.upd hc) zar⟩)
theorem zqo {p : Addr} (h : SqT K H p xs) (q : Q (.int xs.length) H) : zb7 K [.ref p] H Q:=⟨p,xs,rfl,.inr h,q⟩
theorem zaS {p : Addr} (h : SqL K H p xs) (q : Q (.int xs.length) H) : zb7 K [.ref p] H Q:=⟨p,xs,rfl,.inl h,q⟩
theorem zpO {b : Bool} (q : Q (.int (if b then 1 else 0)) H) : ztn [.bl b] H Q:=.inr ⟨b,rfl,q⟩
-- comparisons
theorem zrs (q : Q (.bl (decide (v = .non))) H) : rIs v .non H Q:=.inr ⟨rfl,q⟩
theorem zsy (q : Q (.bl (decide (m = n))) H) : zcV K (.int m) (.int n) H Q :=
 ⟨.int m,.int n,zbf.mpr rfl,zbf.mpr rfl,rfl,rfl,by
   have e : wQ (.int m) (.int n) = decide (m = n):=by
     rw [wQ,VP]
   rw [e]; exact q⟩
theorem zss (q : Q (.bl (!decide (m = n))) H) : zek K (.int m) (.int n) H Q :=
 ⟨.int m,.int n,zbf.mpr rfl,zbf.mpr rfl,rfl,rfl,by
   have e : wQ (.int m) (.int n) = decide (m = n):=by
     rw [wQ,VP]
   rw [e]; exact q⟩
theorem zlf {d e : PyData} (h : Is K H v d) (k : Is K H w e) (sd : Ws d = true) (se : Ws e = true) (q : Q (.bl (wQ d e)) H) : zcV K v w H Q:=⟨d,e,h,k,sd,se,q⟩
theorem ziO {d e : PyData} (h : Is K H v d) (k : Is K H w e) (sd : Ws d = true) (se : Ws e = true) (q : Q (.bl (!PyData.eqv d e)) H) : zek K v w H Q:=⟨d,e,h,k,sd,se,q⟩
theorem zlX {T : String} {d : PyData} (h : Is K H v d) (e : V1 K (.type (kindOf d)) (.type T) = some (isA T d)) (q : Q (.bl (isA T d)) H) : zgu K [v,.ty T] H Q:=⟨v,T,d,_,rfl,h,e,q⟩
def zow : PyData -> Bool
 | .tuple _=>true
 | _=>false
def zky : PyData -> Bool
 | .int _=>true
 | .bool _=>true
 | _=>false
def zrA : PyData -> Bool
 | .bool _=>true
 | _=>false
def znv : PyData -> Bool
 | .list _=>true
 | _=>false
theorem zo6 {d : PyData} (h : Is K H v d) (q : Q (.bl (zky d)) H) : zgu K [v,.ty "int"] H Q:=zlX h (zqH d) (by have e : isA "int" d = zky d:=(by cases d <;> rfl); rw [e]; exact q)
theorem zkt {d : PyData} (h : Is K H v d) (q : Q (.bl (zrA d)) H) : zgu K [v,.ty "bool"] H Q:=zlX h (zn9 d) (by have e : isA "bool" d = zrA d:=(by cases d <;> rfl); rw [e]; exact q)
theorem zdI {p : Addr} {m : Int} (h : SqT K H p xs) (e : atI xs m = some v) (q : Q v H) : rIx K (.ref p) (.int m) H Q:=.inr (.inl ⟨p,xs,m,v,rfl,rfl,h,e,q⟩)
theorem zcb {p : Addr} {m : Int} (h : SqL K H p xs) (e : atI xs m = some v) (q : Q v H) : rIx K (.ref p) (.int m) H Q:=.inl ⟨p,xs,m,v,rfl,rfl,h,e,q⟩
theorem zrJ {α : Type} {xs : List α} {m : Int} (h0 : 0 <= m) (h1 : m < xs.length) : ∃ v,atI xs m = some v /\ v ∈ xs:=by
 obtain ⟨k,rfl⟩ : ∃ k : Nat,m = (k : Int):=⟨m.toNat,by omega⟩;have l : k < xs.length:=by omega
 exact ⟨xs[k],zbP (by simp [l]),vb l⟩
theorem zd3 {p : Addr} {m : Int} (P : V -> Prop) (h : SqL K H p xs) (h0 : 0 <= m) (h1 : m < xs.length) (hP : ∀ x ∈ xs,P x) (q : ∀ x,P x -> Q x H) : rIx K (.ref p) (.int m) H Q:=by
 obtain ⟨x,e,hx⟩:=zrJ h0 h1;exact zcb h e (q x (hP x hx))
theorem zdj {ds : List PyData} {d : PyData} {j : Nat} (h : Is K H v (.tuple ds)) (e : ds[j]? = some d) (q : ∀ x,Is K H x d -> Q x H) : rIx K v (.int (j : Int)) H Q:=by
 obtain ⟨a,xs,rfl,h,t⟩:=zaI.mp h;obtain ⟨x,e1,hx⟩:=t.get e;exact zdI h (zbP e1) (q x hx)
theorem zlN {ds : List PyData} (h : Is K H v (.tuple ds)) (q : Q (.int ds.length) H) : zb7 K [v] H Q:=by
 obtain ⟨a,xs,rfl,h,t⟩:=zaI.mp h;exact zqo h (by rw [t.length]; exact q)
theorem zjR {ds : List PyData} {n : Nat} (h : Is K H v (.tuple ds)) (e : ds.length = n) (q : ∀ xs,IsAll K H xs ds -> gs xs σ H QS) : zmp K n gs v σ H QS:=by
 obtain ⟨a,xs,rfl,h,t⟩:=zaI.mp h;exact zcw h (by rw [t.length]; exact e) (q xs t)
theorem zdp {α : Type} {l : List α} (h : l.length <= 1000) : l.length <= sizeLine:=WD (zb4 h)
theorem zbC (z : xs.length <= 1000) (q : ∀ p H',H p = none -> zag H H' -> H' p = some (.tup xs) -> Q (.ref p) H') : mkT K xs H Q:=⟨zdp z,λ p hp=>q p _ hp (zag.upd hp) zar⟩
theorem zcX (z : xs.length <= 1000) (q : ∀ p H',H p = none -> zag H H' -> H' p = some (.lst xs) -> Q (.ref p) H') : mkL K xs H Q:=⟨zdp z,λ p hp=>q p _ hp (zag.upd hp) zar⟩
theorem zbh {ds : List PyData} (z : xs.length <= 1000) (h : IsAll K H xs ds) (q : ∀ v H',zag H H' -> Is K H' v (.tuple ds) -> Q v H') : mkT K xs H Q :=
 zbC z λ p H' _ s e=>q _ H' s (zaI.mpr ⟨p,xs,rfl,.of e,IsAll.same s ds xs h⟩)
theorem zqa {p : Prop} [Decidable p] {A B : Prop} (h1 : p -> A) (h2 : ¬ p -> B) : if decide p = true then A else B:=by
 by_cases h : p
 . rw [decide_eq_true h,if_pos rfl]; exact h1 h
 . rw [decide_eq_false h,if_neg vo]; exact h2 h
theorem znc {p : Prop} [Decidable p] {A B : Prop} (h1 : ¬ p -> A) (h2 : p -> B) : if (!decide p) = true then A else B:=by
 by_cases h : p
 . rw [decide_eq_true h]; exact zpT (h2 h)
 . rw [decide_eq_false h]; exact zmM (h1 h)
theorem zqn {b : Bool} {A B : Prop} (h1 : b = true -> A) (h2 : b = false -> B) : if b = true then A else B:=by
 cases b
 . exact zpT (h2 rfl)
 . exact zmM (h1 rfl)
end
section
variable {c : TT} {tb : TS} {D : zcc} {σ : St} {H : Hp}
def zs0 (g : TG) (tb : TS) (D : zcc) (σ : St) (vs : List V) (H1 : Hp) : Prop:=∃ j : Int,vs = [.int j] /\ -(2 ^ 62) <= j /\ j < 2 ^ 62 /\
 ∃ W : Nat -> Nat -> St -> Hp -> Prop,(∃ m,W 0 m σ H1) /\ ∀ i m σ H,W i m σ H ->
   ((Itr 0 j.toNat).stop i H /\ D.nx σ H) \/ ((Itr 0 j.toNat).go i H /\ ∃ M : St -> Hp -> Prop,(∀ σ' H',M σ' H' -> ∃ m',m' < m /\ W (i + 1) m' σ' H') /\ ∀ x H',(Itr 0 j.toNat).yld i H x H' -> g x σ H' λ σ2 H2=>tb { D with nx:=M,ct:=M,bk:=D.nx } σ2 H2)
theorem zpK {ta : TA} {g : TG} (h : ta σ H λ vs H1=>zs0 g tb D σ vs H1) : zjQ (zn3 ta) g tb D σ H:=h
theorem zdN {g : TG} {n : Int} (h0 : -1000000000 <= n) (h1 : n < 1000000000) (Pv : Nat -> St -> Hp -> Prop) (p : Pv 0 σ H)
   (hs : ∀ (i : Nat) σ H,i < n.toNat -> Pv i σ H -> g (.int (i : Int)) σ H λ σ2 H2=>tb { D with nx:=Pv (i + 1),ct:=Pv (i + 1),bk:=D.nx } σ2 H2)
   (hd : ∀ σ H,Pv n.toNat σ H -> D.nx σ H) : zs0 g tb D σ [.int n] H:=by
 refine ⟨n,rfl,by omega,by omega,zmk (lo:=0) Pv p (λ i σ H hi q=>?_) hd⟩;have e : (0 : Int) + (i : Int) = (i : Int):=by omega
 rw [e];exact hs i σ H hi q
end
def zsA (K : wa) (g : TG) (tb : TS) (D : zcc) (σ : St) (x : V) (H1 : Hp) : Prop:=∃ a,x = .ref a /\ (∃ xs,SqL K H1 a xs) /\
 ∃ W : Nat -> Nat -> St -> Hp -> Prop,(∃ m,W 0 m σ H1) /\ ∀ i m σ H,W i m σ H ->
   ((Itl K a).stop i H /\ D.nx σ H) \/ ((Itl K a).go i H /\ ∃ M : St -> Hp -> Prop,(∀ σ' H',M σ' H' -> ∃ m',m' < m /\ W (i + 1) m' σ' H') /\ ∀ x H',(Itl K a).yld i H x H' -> g x σ H' λ σ2 H2=>tb { D with nx:=M,ct:=M,bk:=D.nx } σ2 H2)
def ztq (K : wa) (g : TG) (tb : TS) (D : zcc) (σ : St) (x : V) (H1 : Hp) : Prop:=∃ a,x = .ref a /\ (∃ xs,SqT K H1 a xs) /\
 ∃ W : Nat -> Nat -> St -> Hp -> Prop,(∃ m,W 0 m σ H1) /\ ∀ i m σ H,W i m σ H ->
   ((Itt K a).stop i H /\ D.nx σ H) \/ ((Itt K a).go i H /\ ∃ M : St -> Hp -> Prop,(∀ σ' H',M σ' H' -> ∃ m',m' < m /\ W (i + 1) m' σ' H') /\ ∀ x H',(Itt K a).yld i H x H' -> g x σ H' λ σ2 H2=>tb { D with nx:=M,ct:=M,bk:=D.nx } σ2 H2)
section
variable {K : wa} {te : TE} {g : TG} {tb : TS} {D : zcc} {σ : St} {H : Hp} {a : Addr} {xs : List V}
theorem zp4 (h : te σ H λ x H1=>zsA K g tb D σ x H1) : zjQ (zpd K te) g tb D σ H:=h
theorem zqs (h : te σ H λ x H1=>ztq K g tb D σ x H1) : zjQ (zrI K te) g tb D σ H:=h
theorem zh5 (hx : SqL K H a xs) (Pv : Nat -> St -> Hp -> Prop) (h0 : Pv 0 σ H) (hl : ∀ i σ H,i <= xs.length -> Pv i σ H -> SqL K H a xs)
   (hs : ∀ i x σ H,xs[i]? = some x -> Pv i σ H -> g x σ H λ σ2 H2=>tb { D with nx:=Pv (i + 1),ct:=Pv (i + 1),bk:=D.nx } σ2 H2) (hd : ∀ σ H,Pv xs.length σ H -> D.nx σ H) : zsA K g tb D σ (.ref a) H :=
 ⟨a,rfl,⟨xs,hx⟩,zn1 Pv h0 hl hs hd⟩
theorem zf9 (hx : SqT K H a xs) (Pv : Nat -> St -> Hp -> Prop) (h0 : Pv 0 σ H) (hl : ∀ i σ H,i <= xs.length -> Pv i σ H -> SqT K H a xs)
   (hs : ∀ i x σ H,xs[i]? = some x -> Pv i σ H -> g x σ H λ σ2 H2=>tb { D with nx:=Pv (i + 1),ct:=Pv (i + 1),bk:=D.nx } σ2 H2) (hd : ∀ σ H,Pv xs.length σ H -> D.nx σ H) : ztq K g tb D σ (.ref a) H :=
 ⟨a,rfl,⟨xs,hx⟩,zqf Pv h0 hl hs hd⟩
end
theorem zmc {σ : St} {H : Hp} {Q : VK} (q : ∀ p H',H p = none -> zag H H' -> H' p = some (.dK []) -> Q (.ref p) H') : zoz σ H Q:=λ p hp=>q p _ hp (zag.upd hp) zar
theorem zsr {K : wa} {H : Hp} {a : Addr} {xs : List V} (hO : zqJ H) (h : SqL K H a xs) : SqF K H a xs:=by
 rcases h with (h | ⟨o,h⟩) | h
 . rcases hO a with z | ⟨ob,ys,z⟩
   . rw [h] at z; cases z
   . rw [h] at z; cases z
 . exact .inl ⟨o,h⟩
 . exact .inr h
theorem zrQ {K : wa} {H : Hp} {Q : VK} {a : Addr} {ns : List Int} {m : Int} (h : SqF K H a (ns.map V.int)) (h0 : 0 <= m) (h1 : m < ((ns.map V.int).length : Int)) (q : ∀ z,Q (.int z) H) : rIx K (.ref a) (.int m) H Q:=by
 refine zd3 (λ v=>∃ z,v = .int z) h.sq h0 h1 (λ x hx=>?_) (λ x hx=>?_)
 . obtain ⟨z,_,rfl⟩:=wT.mp hx
   exact ⟨z,rfl⟩
 . obtain ⟨z,rfl⟩:=hx
   exact q z
section
variable {K : wa} {H H' : Hp} {v : V} {d : PyData} {a : Addr} {xs : List V} {o : HO}
theorem Is.by (s : zag H H') (h : Is K H v d) : Is K H' v d:=Is.same s d v h
theorem Is.byK (s : zaM H H') (i : Imm d = true) (h : Is K H v d) : Is K H' v d:=Is.keep s _ v i h
end
def zbp (X : Cx) (N' : List Str) (scope : Scope) (cl : List (Str × Addr)) (C : Addr) (s₀ : Shared) (H₀ : Hp) (fp : List Addr) (pins : List (Addr × Obj)) : Cx where
 prog:=X.prog
 w:=X.w
 K:=X.K
 mg:=X.mg
 base:=X.base
 A:=X.A
 N:=N'
 s₀:=s₀
 H₀:=H₀
 env:=compEnvC scope cl C X.env
 outer:=X.stack
 stack:=X.stack
 ex:=fp
 fn:=λ _=>false
 calm:=X.calm
 pn:=X.pn ++ pins
 xe:=λ _ _=>False
structure znu (X : Cx) (scope : Scope) (cl : List (Str × Addr)) : Prop where
 clos : closureFor scope X.env = pure cl
 sub : ∀ x c,cl.lookup x = some c -> X.env.cells.lookup x = some c
 has : ∀ x,((relabel scope X.env).names.lookup x = some .cell \/ (relabel scope X.env).names.lookup x = some .free) -> ∃ c,cl.lookup x = some c
def za0 (src : List (Option Nat)) (σ : St) : St:=src.map λ o=>match o with
 | none=>none
 | some j=>(σ[j]?).join
def zqQ (X : Cx) (N' : List Str) (src : List (Option Nat)) : Prop :=
 N'.length = src.length /\ ∀ (i j : Nat) (x : Str),N'[i]? = some x -> src[i]? = some (some j) -> X.N[j]? = some x /\ X.env.scope.names.lookup x = some .cell
section
variable {X : Cx} {pins : List (Addr × Obj)} {σ : St} {H : Hp} {s : Shared} {N' : List Str} {scope : Scope} {cl : List (Str × Addr)} {src : List (Option Nat)} {fp : List Addr}
theorem Inv.block {h₁ : Heap} {tk : Nat} (I : Inv X pins σ H s) (hk : scope.kind = .function) (cok : znu X scope cl) (sok : zqQ X N' src) (hf : ∀ b ∈ fp,zdR X pins H b) (hlt : ∀ b ∈ fp,b < s.heap.objs.size)
   (hns : h₁.Ns s.heap.objs.size λ _=>none) (old : ∀ b o,s.heap.get? b = some o -> h₁.get? b = some o)
   (hvis : ∀ (i : Nat) x,N'[i]? = some x -> src[i]? ≠ some none -> (relabel scope X.env).names.lookup x = some .cell \/ (relabel scope X.env).names.lookup x = some .free) :
   Inv (zbp X N' scope cl s.heap.objs.size s H fp pins) [] (za0 src σ) H { s with heap:=h₁,toks:=tk }:=by
 have hfr : H s.heap.objs.size = none:=I.hok.fresh (wg _)
 have cne : ∀ x c,cl.lookup x = some c -> c < s.heap.objs.size:=λ x c e=>by
   obtain ⟨v,q⟩:=I.cell x c (cok.sub x c e);exact q.lt
 have fplt : ∀ b ∈ fp,b ∉ frs X.stack:=λ b hb z=>by
   obtain ⟨_,f1,f2,_⟩:=hf b hb;exact (wm.mp (I.stkSub b z)).elim f1 f2
 refine ⟨⟨I.ok.mod,?_,I.ok.glob,I.ok.blt,wg _,λ x y c h1 h2=>?_,λ x hx=>?_,λ x c hx=>?_,I.ok.hd,I.ok.frames,.inl rfl,λ b hb=>⟨?_,λ x c e=>?_⟩,I.bs,wV I.ok.bsz I.sz,λ b o e=>?_,fplt,I.stack,I.stkFree⟩,
   rfl,I.bare,Un.kept old,⟨_,hns,λ i x v h1 h2 h3=>?_⟩,λ x c e=>?_,hfr,λ x c e=>?_,λ p hp=>?_,I.hok.kept old,?_⟩
 . show (relabel scope X.env).kind = .function
   exact hk
 . exact I.ok.inj x y c (cok.sub x c h1) (cok.sub y c h2)
 . exact cok.has x hx
 . exact absurd (show false = true from hx) vo
 . exact wF (hlt b hb)
 . exact (hf b hb).2.2.2.2.1 x c (cok.sub x c e)
 . intro hb
   obtain ⟨_,_,_,f3,_⟩:=hf b hb;rcases f3 with z | z
   . exact I.ok.noex b o e z
   . exact absurd (wL (wk e) (wV I.ok.bsz z)) (W0 _)
 . -- a name of the frame around
   have hsrc : ∃ j,src[i]? = some (some j) /\ σ[j]? = some (some v):=by
     unfold za0 at h2;rw [wE] at h2;cases q : src[i]? with
     | none=>rw [q] at h2; cases h2
     | some o =>
       rw [q] at h2;cases o with
       | none=>cases h2
       | some j =>
         refine ⟨j,rfl,?_⟩;have h2' : (σ[j]?).join = some v:=wH h2;cases q2 : σ[j]? with
         | none=>rw [q2] at h2'; cases h2'
         | some z=>rw [q2] at h2'; exact congrArg some h2'
   obtain ⟨j,hj,hv⟩:=hsrc;obtain ⟨hN,hc⟩:=sok.2 i j x h1 hj;obtain ⟨m,_,hl⟩:=I.loc;obtain ⟨u,ru,lk⟩:=hl j x v hN hv (.inr (.inl hc));refine ⟨u,ru,.inr ⟨hvis i x h1 (by rw [hj]; intro z; cases z),?_⟩⟩;rcases lk with ⟨k,_⟩ | ⟨_,c,ec,hcell⟩
   . have k' : X.env.scope.names.lookup x = some .local:=k
     rw [hc] at k'; cases k'
   . obtain ⟨c',ec'⟩:=cok.has x (hvis i x h1 (by rw [hj]; intro z; cases z))
     have:=cok.sub x c' ec';rw [ec] at this; cases this;obtain ⟨o,ho,hd⟩:=hcell;exact ⟨c,ec',o,old c o ho,hd⟩
 . obtain ⟨v,o,ho,hd⟩:=I.cell x c (cok.sub x c e)
   exact ⟨v,o,old c o ho,hd⟩
 . exact I.freeC x c (cok.sub x c e)
 . have hp' : p ∈ (X.pn ++ pins) ++ []:=hp
   rw [vS] at hp';obtain ⟨e,n,ne,nf,d⟩:=I.pin p hp';refine ⟨old _ _ e,n,wF (wk e),λ z=>?_,d⟩;exact (wm.mp (I.stkSub p.1 z)).elim ne nf
 . show (za0 src σ).length = N'.length
   unfold za0;rw [wd,sok.1]
end
def zj9 : TT:=λ _ H Q=>Q true H
def PTs (X : Cx) (ifs : List Expr) (t : TT) : Prop :=
 ∀ (pins : List (Addr × Obj)) (s : Shared) (σ : St) (H : Hp) (Q : Bool -> Hp -> Prop),Inv X pins σ H s -> t σ H Q ->
   wpAny (model X.prog X.w) X.A (forIn ifs true λ c r=>if r = true then do let ok <- isTrue c X.env (eval c X.env); pure (ForInStep.yield ok) else pure (ForInStep.yield r)) (TP X pins σ Q) X.xe s
theorem za7 {X : Cx} : PTs X [] zj9:=λ _ _ _ H _ I h=>wpAny_tests_nil ⟨H,I,h⟩
theorem zd2 {X : Cx} {c : Expr} {t : TT} (hc : PT X c t) : PTs X [c] t:=λ pins s σ H Q I h=>wpAny_tests_one (hc pins s σ H Q I h)
section
variable {prog : Program} {w : World} {A : Around} {R : Result -> Shared -> Prop} {s : Shared}
theorem zjl {elt target iter : Expr} {ifs : List Expr} {scope : Scope} {pos : Pos} {it acc : Value} {env : Env} (I : Nat -> Shared -> Prop)
   (turn : ∀ n s,I n s -> wpAny (model prog w) A (pyNext it) (λ r s₁=>match r with
     | none=>R (.ok .next) s₁
     | some v=>wpAny (model prog w) A (letOwnedTupleGo target it v) (λ _ s₁'=>wpAny (model prog w) A (assign target env v) (λ _ s₂ =>
         wpAny (model prog w) A (forIn ifs true λ c r=>if r = true then do let ok <- isTrue c env (eval c env); pure (ForInStep.yield ok) else pure (ForInStep.yield r)) (λ ok s₃ =>
           if ok = true then wpAny (model prog w) A (eval elt env) (λ x s₄ =>
             wpAny (model prog w) A (call (.builtin "list.append") [acc,x]) (λ _ s₅=>∃ m,m < n /\ I m s₅) (λ _ _=>False) s₄) (λ _ _=>False) s₃
           else ∃ m,m < n /\ I m s₃) (λ _ _=>False) s₂) (λ _ _=>False) s₁') (λ _ _=>False) s₁) (λ _ _=>False) s)
   (n : Nat) (h : I n s) : codeAny (model prog w) A (.compLoop (.ListComp elt [⟨target,iter,ifs,0⟩] scope pos) 0 it acc env) R s:=by
 refine codeAny_loop rfl I (λ n s hI=>?_) n h
 show wpAny _ A ((compTurn (.ListComp elt [⟨target,iter,ifs,0⟩] scope pos) 0 it acc env).onRaise (λ x=>do noteFrame x env; theTreesLotGoes x)) _ _ s
 refine wpAny_noted ?_;rw [compTurn_list];refine wpAny_bind (wpAny_standAt (wpAny_bind (wpAny_mono (turn n s hI) (λ r s₁ h₁=>?_) λ _ _ h'=>h'.elim)));cases r with
 | none=>exact wpAny_pure h₁
 | some v =>
   refine wpAny_bind (wpAny_mono h₁ (λ _ s₁' h₁'=>?_) λ _ _ h'=>h'.elim);refine wpAny_bind (wpAny_mono h₁' (λ _ s₂ h₂=>wpAny_bind (wpAny_mono h₂ (λ ok s₃ h₃=>?_) λ _ _ h'=>h'.elim)) λ _ _ h'=>h'.elim);cases ok with
   | false=>exact wpAny_pure ⟨rfl,h₃⟩
   | true=>exact wpAny_bind (wpAny_bind (wpAny_mono h₃ (λ x s₄ h₄=>wpAny_bind (wpAny_mono h₄ (λ _ s₅ h₅=>wpAny_pure (wpAny_pure ⟨rfl,h₅⟩)) λ _ _ h'=>h'.elim)) λ _ _ h'=>h'.elim))
end
def zee (g : TG) (tt : TT) (te : TE) (J : It) (D : Addr) (σ0 : St) (H0 : Hp) (Q : Hp -> Prop) : Prop :=
 ∃ W : Nat -> Nat -> St -> Hp -> Prop,(∃ m,W 0 m σ0 H0) /\ ∀ i m σ' H',W i m σ' H' ->
   (J.stop i H' /\ Q H') \/ (J.go i H' /\ ∃ M : St -> Hp -> Prop,(∀ σ2 H2,M σ2 H2 -> ∃ m',m' < m /\ W (i + 1) m' σ2 H2) /\
     ∀ x H2,J.yld i H' x H2 -> g x σ' H2 λ σ3 H3=>tt σ3 H3 λ ok H4=>if ok = true then te σ3 H4 λ y H5=>∃ ys,H5 D = some (.lst ys) /\ ys.length < sizeLine /\ M σ3 (upd H5 D (.lst (ys ++ [y]))) else M σ3 H4)
def ze2 (src : List (Option Nat)) (wi : TI) (g : TG) (tt : TT) (te : TE) : TE:=λ σ H Q=>wi σ H λ J H1=>∀ D,H1 D = none -> zee g tt te J D (za0 src σ) (upd H1 D (.lst [])) (λ H'=>Q (.ref D) H')
structure zqS (Y : Cx) (tg : Expr) (J : It) (fp : List Addr) (it : Addr) (tn : Nat -> Heap -> Prop) : Prop where
 item : ∀ (i : Nat) (pins : List (Addr × Obj)) (s : Shared) (σ : St) (H : Hp) (E : Value -> Shared -> Prop),Inv Y pins σ H s -> (∀ b ∈ fp,zdR Y pins H b) -> tn i s.heap -> J.go i H ->
   wpAny (model Y.prog Y.w) Y.A (pyNext (.ref it)) (λ r s1=>∃ u,r = some u /\ wpAny (model Y.prog Y.w) Y.A (letOwnedTupleGo tg (.ref it) u) (λ _ s2=>∃ x H',Inv Y pins σ H' s2 /\ zaQ x u /\ J.yld i H x H' /\ tn (i + 1) s2.heap /\ ∀ b ∈ fp,H' b = none) E s1) E s
 done : ∀ (i : Nat) (pins : List (Addr × Obj)) (s : Shared) (σ : St) (H : Hp) (E : Value -> Shared -> Prop),Inv Y pins σ H s -> (∀ b ∈ fp,zdR Y pins H b) -> tn i s.heap -> J.stop i H ->
   wpAny (model Y.prog Y.w) Y.A (pyNext (.ref it)) (λ r s1=>r = none /\ Inv Y pins σ H s1) E s
theorem zhu.toC {P : Program} {w : World} {K : wa} {tg : Expr} {J : It} {fp : List Addr} {it : Addr} {tn : Nat -> Heap -> Prop} (T : zhu P w K tg J fp it tn) {Y : Cx} (h1 : Y.prog = P) (h2 : Y.w = w) (h3 : Y.K = K) (hc : Y.calm = true) : zqS Y tg J fp it tn:=by
 subst h1 h2 h3;exact ⟨T.item Y rfl rfl rfl hc,T.done Y rfl rfl rfl hc⟩
section
variable {X : Cx} {pins : List (Addr × Obj)} {σ : St} {H : Hp} {s : Shared} {N' : List Str} {scope : Scope} {cl : List (Str × Addr)} {src : List (Option Nat)} {elt tgt iter : Expr} {ifs : List Expr} {pos : Pos} {wi : TI} {g : TG} {tt : TT} {te : TE}
structure zaO (X : Cx) (N' : List Str) (scope : Scope) (cl : List (Str × Addr)) (src : List (Option Nat)) : Prop where
 kind : scope.kind = .function
 cell : ∀ y ∈ scope.names,y.2 ≠ .cell
 names : ∀ y ∈ scope.names,y.2 = .local -> scope.names.lookup y.1 = some .local
 clos : znu X scope cl
 srco : zqQ X N' src
 vis : ∀ (i : Nat) x,N'[i]? = some x -> src[i]? ≠ some none -> (relabel scope X.env).names.lookup x = some .cell \/ (relabel scope X.env).names.lookup x = some .free
theorem zih {it : Addr} {fp : List Addr} {tn : Nat -> Heap -> Prop} {J : It} {RQ : Addr -> Hp -> Prop} {E : Value -> Shared -> Prop} {RR : Value -> Addr -> Result -> Shared -> Prop}
   (TC : ∀ C s₀ H₀,zqS (zbp X N' scope cl C s₀ H₀ fp pins) tgt J fp it tn) (ok : zaO X N' scope cl src)
   (hg : ∀ C s₀ H₀ fp pins,PG (zbp X N' scope cl C s₀ H₀ fp pins) tgt g) (ht : ∀ C s₀ H₀ fp pins,PTs (zbp X N' scope cl C s₀ H₀ fp pins) ifs tt) (he : ∀ C s₀ H₀ fp pins,PE (zbp X N' scope cl C s₀ H₀ fp pins) elt te)
   (I : Inv X pins σ H s) (T : zhu X.prog X.w X.K tgt J fp it tn) (st : tn 0 s.heap) (hf : ∀ b ∈ fp,zdR X pins H b)
   (rd : ∀ D,H D = none -> zee g tt te J D (za0 src σ) (upd H D (.lst [])) (λ H'=>RQ D H'))
   (hRR : ∀ D C H' s' m,Inv X pins σ H' s' -> s'.heap.Ns C m -> zdR X pins H' C -> RQ D H' -> RR (.ref D) C (.ok .next) s') :
   wpAny (model X.prog X.w) X.A (newList []) (λ acc s₃=>wpAny (model X.prog X.w) X.A (newFunctionEnv scope X.env.globals cl [] X.env.qual none .none (some X.env)) (λ cenv s₄ =>
     codeAny (model X.prog X.w) X.A (.compStart (.ListComp elt [⟨tgt,iter,ifs,0⟩] scope pos) 0 (.ref it) acc { cenv with scope:=relabel scope X.env }) (RR acc cenv.locals) s₄) E s₃) E s:=by
 -- the list
 refine wpAny_newObj_type ?_ (by show 0 <= sizeLine; exact vB _);have hD : H s.heap.objs.size = none:=I.hok.fresh (wg _)
 have I3 : Inv X pins σ (upd H s.heap.objs.size (.lst [])) { s with heap:=s.heap.push { cls:=.type "list",data:=.seq ([] : List Value).toArray } } :=
   I.lnew (ys:=[]) (its:=[]) (t':=s.toks) .nil (vB _)
 have old3 : ∀ b o,s.heap.get? b = some o -> (s.heap.push { cls:=.type "list",data:=.seq ([] : List Value).toArray }).get? b = some o:=λ b o e=>wb _ e
 have lt0 : ∀ b ∈ fp,b < s.heap.objs.size:=λ b hb=>by
   obtain ⟨o,e,_⟩:=T.obj 0 _ st b hb;exact wk e
 have hf3 : ∀ b ∈ fp,zdR X pins (upd H s.heap.objs.size (.lst [])) b:=λ b hb=>⟨by rw [zbj (wF (lt0 b hb))]; exact (hf b hb).1,(hf b hb).2⟩
 have lt3 : ∀ b ∈ fp,b < (s.heap.push { cls:=.type "list",data:=.seq ([] : List Value).toArray }).objs.size:=λ b hb=>by
   rw [vn]; exact Vb (lt0 b hb)
 have st3 : tn 0 (s.heap.push { cls:=.type "list",data:=.seq ([] : List Value).toArray }):=T.keep _ _ _ st λ b _ o e=>old3 b o e
 obtain ⟨W,⟨m0,w0⟩,turn⟩:=rd _ hD;generalize hs3 : ({ s with heap:=s.heap.push { cls:=.type "list",data:=.seq ([] : List Value).toArray } } : Shared) = s3 at I3 ⊢;have hh3 : s3.heap = s.heap.push { cls:=.type "list",data:=.seq ([] : List Value).toArray }:=by rw [<- hs3]
 rw [<- hh3] at lt3 st3;clear old3 hs3 hh3;generalize hD' : s.heap.objs.size = D at *
 -- the block's dict
 refine wpAny_newFunctionEnv ok.cell (by intro y hy; cases hy) (λ h₁ hns₁ hsb₁=>?_) ok.kind;have old : ∀ b o,s3.heap.get? b = some o -> h₁.get? b = some o:=λ b o e=>hsb₁.extBut b o (wF (wk e)) (wb _ e)
 have hC : zdR X pins (upd H D (.lst [])) s3.heap.objs.size:=I3.fpOk (wg _) (I3.hok.fresh (wg _))
 have IB : ∀ tk,Inv (zbp X N' scope cl s3.heap.objs.size s3 (upd H D (.lst [])) fp pins) [] (za0 src σ) (upd H D (.lst [])) { s3 with heap:=h₁,toks:=tk }:=λ tk =>
   I3.block ok.kind ok.clos ok.srco hf3 lt3 hns₁ old ok.vis
 have stB : tn 0 h₁:=T.keep _ _ _ st3 λ b _ o e=>old b o e
 -- what is true of the iterator's records within
 have stat : ∀ {H' : Hp} ,(∀ b ∈ fp,H' b = none) -> ∀ b ∈ fp,zdR (zbp X N' scope cl s3.heap.objs.size s3 (upd H D (.lst [])) fp pins) [] H' b:=λ hn b hb=>by
   obtain ⟨_,f1,f2,f3,f4,f5⟩:=hf3 b hb;refine ⟨hn b hb,wF (lt3 b hb),λ z=>(wm.mp (I3.stkSub b z)).elim f1 f2,.inl hb,λ x c e=>f4 x c (ok.clos.sub x c e),λ p hp=>?_⟩;have hp' : p ∈ (X.pn ++ pins) ++ []:=hp;rw [vS] at hp';exact f5 p hp'
 -- from within back to the frame around
 have back : ∀ {σ' : St} {H' : Hp} {s' : Shared},Inv (zbp X N' scope cl s3.heap.objs.size s3 (upd H D (.lst [])) fp pins) [] σ' H' s' -> Inv X pins σ H' s' /\ (∃ m,s'.heap.Ns s3.heap.objs.size m) /\ zdR X pins H' s3.heap.objs.size:=λ {σ' H' s'} J=>by
   obtain ⟨m,hn,_⟩:=J.loc;refine ⟨I3.call' (ch:=fp) J.os J.base J.hok J.bare (λ b hb=>?_),⟨m,hn⟩,⟨J.free,hC.2⟩⟩;obtain ⟨_,f1,_,f3,f4,f5⟩:=hf3 b hb;exact ⟨f3,f1,f4,f5⟩
 have loop : ∀ tk,codeAny (model X.prog X.w) X.A (.compLoop (.ListComp elt [⟨tgt,iter,ifs,0⟩] scope pos) 0 (.ref it) (.ref D) (compEnvC scope cl s3.heap.objs.size X.env)) (RR (.ref D) s3.heap.objs.size) { s3 with heap:=h₁,toks:=tk }:=by
   intro tk
   refine zjl (λ n s'=>∃ i σ' H',Inv (zbp X N' scope cl s3.heap.objs.size s3 (upd H D (.lst [])) fp pins) [] σ' H' s' /\ tn i s'.heap /\ (∀ b ∈ fp,H' b = none) /\ W i n σ' H') ?_ m0
     ⟨0,_,_,IB tk,stB,λ b hb=>(hf3 b hb).1,w0⟩
   rintro n s4 ⟨i,σ4,H4,I4,st4,fr4,w4⟩;rcases turn i n σ4 H4 w4 with ⟨stop,q⟩ | ⟨go,M,hM,step⟩
   . refine thn ((TC _ _ _).done i [] s4 σ4 H4 (λ _ _=>False) I4 (stat fr4) st4 stop) λ r s5 ⟨hr,I5⟩=>?_
     subst hr;obtain ⟨J,⟨m,hn⟩,hCf⟩:=back I5;exact hRR D _ H4 s5 m J hn hCf q
   . refine thn ((TC _ _ _).item i [] s4 σ4 H4 (λ _ _=>False) I4 (stat fr4) st4 go) λ r s5 ⟨u,hr,h5⟩=>?_
     subst hr;refine thn h5 λ _ s6 ⟨x,H6,I6,r6,y6,st6,fr6⟩=>?_
     have I6':=I6.pinned (stat fr6) (T.obj _ _ st6)
     have again : ∀ {σ7 : St} {H7 : Hp} {s7 : Shared},Inv (zbp X N' scope cl s3.heap.objs.size s3 (upd H D (.lst [])) fp pins) ([] ++ zhK fp s6.heap) σ7 H7 s7 -> M σ7 H7 ->
         ∃ m,m < n /\ ∃ i σ' H',Inv (zbp X N' scope cl s3.heap.objs.size s3 (upd H D (.lst [])) fp pins) [] σ' H' s7 /\ tn i s7.heap /\ (∀ b ∈ fp,H' b = none) /\ W i m σ' H':=λ {σ7 H7 s7} I7 n7=>by
       obtain ⟨m',hm,w7⟩:=hM σ7 H7 n7;refine ⟨m',hm,i + 1,σ7,H7,I7.unpinned,T.keep _ _ _ st6 λ b hb o e=>(I7.pin (b,o) (wM _ (wM _ (zd6 hb e)))).1,λ b hb=>?_,w7⟩;obtain ⟨o,e,d⟩:=T.obj _ _ st6 b hb;exact (I7.pin (b,o) (wM _ (wM _ (zd6 hb e)))).2.1
     refine thn (hg _ _ _ _ _ _ s6 σ4 H6 x u _ I6' r6 (step x H6 y6)) λ _ s7 ⟨σ7,H7,I7,q7⟩=>?_
     refine thn (ht _ _ _ _ _ _ s7 σ7 H7 _ I7 q7) λ k s8 ⟨H8,I8,q8⟩=>?_
     cases k with
     | false=>exact again I8 q8
     | true =>
       rw [if_pos rfl] at q8 ⊢;refine thn (he _ _ _ _ _ _ s8 σ7 H8 _ I8 q8) λ y s9 ⟨yv,H9,I9,r9,ys,hys,hz,q9⟩=>?_
       exact thn (zb0 _ s9 σ7 H9 (.ref D) [yv] (.ref D) [y] (λ _ H'=>M σ7 H') I9 rfl (.cons r9 .nil) ⟨D,ys,yv,rfl,rfl,hys,hz,q9⟩) λ _ s10 ⟨_,H10,I10,_,q10⟩=>again I10 q10
 exact codeAny_compStart_list (loop _) (T.self _ _ _ _ _ stB (loop _))
theorem zaV (hc : X.calm = true) (ok : zaO X N' scope cl src) (hi : PI X tgt iter wi)
   (hg : ∀ C s₀ H₀ fp pins,PG (zbp X N' scope cl C s₀ H₀ fp pins) tgt g) (ht : ∀ C s₀ H₀ fp pins,PTs (zbp X N' scope cl C s₀ H₀ fp pins) ifs tt) (he : ∀ C s₀ H₀ fp pins,PE (zbp X N' scope cl C s₀ H₀ fp pins) elt te)
   (hs : ∀ x,foldedSetIterable iter X.env x = pure x:=by intro _; rfl) : PE X (.ListComp elt [⟨tgt,iter,ifs,0⟩] scope pos) (ze2 src wi g tt te):=by
 intro pins s σ H Q I h;rw [eval_ListComp];refine wpAny_comprehension_free (use:=none) rfl hs ok.clos.clos ok.kind ok.names (thn (hi pins s σ H _ I h) λ v s1 h1=>thn h1 λ itv s2 h2=>?_);obtain ⟨it,fp,tn,J,H2,e,I2,T,st2,f2,rd⟩:=h2;subst e;refine zih (RQ:=λ D H'=>Q (.ref D) H') (RR:=λ acc C=>compPost (model X.prog X.w) X.A X.xe none (EP X pins σ Q) acc C) (λ _ _ _=>T.toC rfl rfl rfl hc) ok hg ht he I2 T st2 f2 rd ?_;intro D C H' s' m J hn hC q;obtain ⟨c0,c1,_,c3,c4,c5⟩:=hC;exact ⟨m,hn,λ h' sb=>⟨.ref D,H',J.turned (t':=s'.toks) (λ b o hb e=>(sb.2 b hb).trans e) c0 c1 c3 c4 c5,rfl,q⟩⟩
theorem zfk {i : Nat} {y : Str} {py spos : Pos} (hN : X.N.Nodup) (hy : X.N[i]? = some y) (hly : Loc X.env.scope y) (hc : X.calm = true) (ok : zaO X N' scope cl src) (hi : PI X tgt iter wi)
   (hg : ∀ C s₀ H₀ fp pins,PG (zbp X N' scope cl C s₀ H₀ fp pins) tgt g) (ht : ∀ C s₀ H₀ fp pins,PTs (zbp X N' scope cl C s₀ H₀ fp pins) ifs tt) (he : ∀ C s₀ H₀ fp pins,PE (zbp X N' scope cl C s₀ H₀ fp pins) elt te)
   (hsw : swapsWith (.ListComp elt [⟨tgt,iter,ifs,0⟩] scope pos) (some (.Name y py)) spos.line X.env = pure true:=by rfl)
   (hs : ∀ x,foldedSetIterable iter X.env x = pure x:=by intro _; rfl) (hf : X.fn y = true \/ X.env.scope.names.lookup y = some .local:=by first | exact .inl rfl | exact .inr rfl | assumption) :
   PS X (.Assign [.Name y py] (.ListComp elt [⟨tgt,iter,ifs,0⟩] scope pos) spos) (zo1 (ze2 src wi g tt te) (zeY i)):=by
 intro pins s σ H D0 I h;rw [exec_Assign_Name_used _ _ _ _ hsw];refine wpAny_bind (wpAny_standAt (wpAny_bind ?_))
 show wpAny _ X.A (do let _ <- comprehension (.ListComp elt [⟨tgt,iter,ifs,0⟩] scope pos) scope X.env _ (newList []) false (eval iter X.env) (some (assign (.Name y py) X.env))) _ _ s
 refine wpAny_bind (wpAny_mono (wpAny_comprehension_free (Q:=λ _ s'=>SP X pins D0 .next s') rfl hs ok.clos.clos ok.kind ok.names (thn (hi pins s σ H _ I h) λ v s1 h1=>thn h1 λ itv s2 h2=>?_))
   (λ _ s' hq=>wpAny_pure (wpAny_pure hq)) λ _ _ e=>e)
 obtain ⟨it,fp,tn,J,H2,e,I2,T,st2,f2,rd⟩:=h2;subst e;refine zih (RQ:=λ D H'=>zeY i (.ref D) σ H' D0.nx) (RR:=λ acc C=>compPost (model X.prog X.w) X.A X.xe (some (assign (.Name y py) X.env)) (λ _ s'=>SP X pins D0 .next s') acc C) (λ _ _ _=>T.toC rfl rfl rfl hc) ok hg ht he I2 T st2 f2 rd ?_;intro D C H' s' m J hn hC q;obtain ⟨c0,c1,_,c3,c4,c5⟩:=hC
 show wpAny _ _ (assign (.Name y py) X.env (.ref D)) _ _ s'
 refine wpAny_assign_Name (zh4 J hN hy hly (v:=.ref D) rfl (λ s'' J2 ⟨a,sb,ha⟩=>?_) hf)
 have hCa : C ≠ a:=by
   rcases ha with z | z
   . rw [z]; exact c1
   . exact (c4 y a z).symm
 exact ⟨m,hn.sameBut sb hCa,λ h' sb'=>⟨_,H',J2.turned (t':=s''.toks) (λ b o hb e=>(sb'.2 b hb).trans e) c0 c1 c3 c4 c5,q⟩⟩
end
abbrev Tr0 (h B : Heap) (e : Addr) (cls : Value) : Prop :=
 ∃ oe vs,h.get? e = some oe /\ oe.cls = cls /\ oe.data = .fields vs /\ vs[1]? = some .none /\ vs[2]? = some .none /\ oe.dict = none /\ B.get? e = none
abbrev Tr1 (h B : Heap) (e : Addr) (cls fl : Value) : Prop :=
 ∃ oe vs T oT ts,h.get? e = some oe /\ oe.cls = cls /\ oe.data = .fields vs /\ vs[1]? = some (.ref T) /\ vs[2]? = some .none /\ oe.dict = none /\ B.get? e = none /\ B.get? T = none /\ T ≠ e /\ h.get? T = some oT /\ oT.data = .fields ts /\ ts[3]? = some fl
structure Fly (B : Heap) (l : List Env) (e : Addr) (cls fl : Value) (h : Heap) : Prop where
 st : B.StaysIn h
 fr : h.FunFrames B l
 tr : Tr1 h B e cls fl
theorem zjD {f : Array Value -> Array Value} (o : Obj) : (VI f o).dict = o.dict:=by
 obtain ⟨c,d,dt,sl⟩:=o;cases dt <;> rfl
theorem zgN {h : Heap} {T : Addr} {f : Obj -> Obj} {b : Addr} (n : b ≠ T) : (h.update T f).get? b = h.get? b:=VD _ _ (vH n)
theorem zgD {h : Heap} {T b : Addr} {oT o : Obj} {ts : Array Value} (hT : h.get? T = some oT) (dT : oT.data = .fields ts) (hb : h.get? b = some o) (hn : ∀ vs,o.data ≠ .fields vs) : b ≠ T:=by
 rintro rfl;rw [hT] at hb;cases hb;exact hn _ dT
theorem zoP {B : Heap} {T b : Addr} {o : Obj} (n : B.get? T = none) (q : B.get? b = some o) : b ≠ T:=by
 rintro rfl;rw [n] at q;cases q
section
variable {M : Model} {A : Around} {E : Value -> Shared -> Prop} {s : Shared} {B : Heap} {l outer : List Env} {env : Env} {L e : Addr} {cls fl : Value} {Q : Unit -> Shared -> Prop}
theorem Fly.land (F : Fly B l e cls fl s.heap) (k : ∀ h',Fly B l e cls .none h' -> s.heap.UpToSlots h' -> Q () { s with heap:=h' }) : wpAny M A (setFlight (.ref e) none) Q E s:=by
 obtain ⟨st,fr,oe,vs,T,oT,ts,he,hc,hd,h1,h2,hdi,be,bT,ne,hT,dT,h3⟩:=F;have sz : 3 < ts.size:=(Vj.mp h3).1;unfold setFlight;refine wpAny_bind (wpAny_field he hd h1 ?_);rw [if_pos (by simp)];have at3 : ∀ b,b ≠ T -> (s.heap.update T (VI (·.setIfInBounds 3 Value.none))).get? b = s.heap.get? b:=λ b n=>zgN n
 have tr : Tr1 (s.heap.update T (VI (·.setIfInBounds 3 Value.none))) B e cls .none :=
   ⟨oe,vs,T,VI (·.setIfInBounds 3 Value.none) oT,ts.setIfInBounds 3 Value.none,(at3 e ne.symm).trans he,hc,hd,h1,h2,hdi,be,bT,ne,
     WG _ hT (Ve (W1 dT _)),W1 dT _,by simp [sz]⟩
 refine wpAny_setField hT dT sz (k _ ⟨λ b o q=>(at3 b (zoP bT q)).trans (st b o q),fr.of_keeps λ b o hb hn=>⟨o,(at3 b (zgD hT dT hb hn)).trans hb,rfl⟩,tr⟩ λ b o hb hn=>⟨o.slots,(at3 b (zgD hT dT hb hn)).trans hb⟩)
theorem zmF {oe : Obj} {vs : Array Value} {head : Value} {had : Bool} (hfr : A.frames = some (env :: outer)) (hf : env.frame = some L) (st : B.StaysIn s.heap) (fr : s.heap.FunFrames B (env :: outer)) (he : s.heap.get? e = some oe)
   (hd : oe.data = .fields vs) (sz : 1 < vs.size) (h2 : vs[2]? = some .none) (hdi : oe.dict = none) (be : B.get? e = none) (k : ∀ h',Fly B (env :: outer) e oe.cls (rawInt L) h' -> s.heap.UpToSlots h' -> Q () { s with heap:=h' }) :
   wpAny M A (do let a <- frameOf env; let pl <- entryPlaceOf L had; let b <- Qa head a .none (rawInt L) .none pl; setField (.ref e) 1 b) Q E s:=by
 have nfr : e ∉ (env :: outer).filterMap (·.frame):=λ z=>by
   obtain ⟨_,o,ho,hnf⟩:=fr.mem z;rw [he] at ho;cases ho;exact hnf vs hd
 refine wpAny_bind (wpAny_frameOf_fun hfr fr hf λ g sg=>wpAny_bind (wpAny_entryPlaceOf λ pl hpl=>?_));unfold Qa newFields;refine wpAny_bind (wpAny_newObj_type ?_ (hpl.sizeOk5 _ _ _ _ _));have eg : g.get? e = some oe:=(sg.2.1 e nfr).trans he
 have stg : B.StaysIn g:=λ b o q=>by
   rw [sg.2.1 b λ z=>?_]
   . exact st b o q
   . rw [(fr.mem z).1] at q; cases q
 generalize hob : ({ cls:=.type "traceback",data:=.fields ([head,.ref L,.none,rawInt L,.none] ++ (if pl.isEmpty then wl 6 Value.none else pl)).toArray } : Obj) = tb;have dtb : tb.data = .fields ([head,.ref L,.none,rawInt L,.none] ++ (if pl.isEmpty then wl 6 Value.none else pl)).toArray:=by rw [<- hob]
 have ftb : tb.isFreed = false:=Ve dtb;have e2:=wb (h:=g) tb eg;have neT : g.objs.size ≠ e:=vi (wk eg)
 have at3 : ∀ b o,b ≠ e -> g.get? b = some o -> ((g.push tb).update e (VI (·.setIfInBounds 1 (.ref g.objs.size)))).get? b = some o:=λ b o n q=>by
   rw [zgN n];exact wb _ q
 refine wpAny_setField e2 hd sz (k _ ?_ ?_)
 . have d3:=W1 hd (·.setIfInBounds 1 (Value.ref g.objs.size))
   refine ⟨λ b o q=>at3 b o (zoP be q) (stg b o q),fr.of_keeps λ b o hb hn=>?_,_,_,g.objs.size,tb,_,WG _ e2 (Ve d3),QK _ _,d3,by simp [sz],?_,?_,be,stg.fresh,neT,?_,dtb,?_⟩
   . obtain ⟨sl,q⟩:=sg.2.2 b o hb
     exact ⟨_,at3 b _ (zgD he hd hb hn) q,rfl⟩
   . rw [Array.getElem?_setIfInBounds_ne (by decide)]; exact h2
   . exact (zjD oe).trans hdi
   . rw [zgN neT]; exact wj _ ftb
   . first | (simp; done) | (rcases hpl with rfl | ⟨_,_,_,_,_,_,_,rfl⟩ <;> simp)
 . exact λ b o hb hn=>by
     obtain ⟨sl,q⟩:=sg.2.2 b o hb;exact ⟨sl,at3 b _ (zgD he hd hb hn) q⟩
theorem zm3 (hfr : A.frames = some (env :: outer)) (hf : env.frame = some L) (st : B.StaysIn s.heap) (fr : s.heap.FunFrames B (env :: outer)) (t : Tr0 s.heap B e cls)
   (k : ∀ h',Fly B (env :: outer) e cls (rawInt L) h' -> s.heap.UpToSlots h' -> Q () { s with heap:=h' }) : wpAny M A (noteFrame (.ref e) env) Q E s:=by
 obtain ⟨oe,vs,he,hc,hd,h1,h2,hdi,be⟩:=t;subst hc;unfold noteFrame;simp only [hf];refine wpAny_bind (wpAny_field he hd h1 ?_);rw [if_neg (by decide)];exact zmF hfr hf st fr he hd (Vj.mp h1).1 h2 hdi be k
theorem zk2 (hfr : A.frames = some (env :: outer)) (hf : env.frame = some L) (st : B.StaysIn s.heap) (fr : s.heap.FunFrames B (env :: outer)) (t : Tr0 s.heap B e cls)
   (k : ∀ h',Fly B outer e cls .none h' -> s.heap.UpToSlots h' -> Q () { s with heap:=h' }) : wpAny M A (leaving env (.ref e)) Q E s:=by
 unfold leaving;refine wpAny_bind (zm3 hfr hf st fr t λ h1 F1 s1=>Fly.land F1 λ h2 F2 s2=>k h2 ⟨F2.st,F2.fr.2.2,F2.tr⟩ (s1.trans s2))
end
theorem za9.there {P : Program} {w : World} {H : Hp} {h : Heap} {a : Addr} {o : HO} (x : za9 P w H h a o) : ∃ u,h.get? a = some u:=by
 cases o with
 | lst xs=>obtain ⟨_,_,_,_,e⟩:=x; exact ⟨_,e⟩
 | tup xs=>obtain ⟨_,_,_,_,e,_⟩:=x; exact ⟨_,e⟩
 | dK kvs=>obtain ⟨_,_,_,_,o,_,_,e,_⟩:=x; exact ⟨_,e⟩
 | dT kvs=>obtain ⟨_,_,_,_,o,_,_,e,_⟩:=x; exact ⟨_,e⟩
 | set S n=>obtain ⟨o,_,_,_,e,_⟩:=x; exact ⟨_,e⟩
 | ins C dx fs=>obtain ⟨_,_,_,e,_⟩:=x; exact ⟨_,e⟩
 | own y=>exact x
 | xd fs=>obtain ⟨_,⟨_,_,_,e,_⟩,_⟩:=x; exact ⟨_,e⟩
 | rng lo hi=>obtain ⟨_,_,_,e⟩:=x; exact ⟨_,e⟩
 | frz ob u=>obtain ⟨e,_⟩:=x; exact ⟨_,e⟩
 | tbl ps=>exact ⟨_,x⟩
 | met f y=>exact ⟨_,x⟩
 | ext φ=>obtain ⟨_,e,_⟩:=x; exact e
structure zsW (B : Heap) (fs : List Addr) (H H' : Hp) (h : Heap) : Prop where
 trk : ∀ a o,H' a = some o -> ∃ u,B.get? a = some u
 old : ∀ b o,h.get? b = some o -> H b = none -> b ∉ fs -> B.get? b = some o
 thr : ∀ b o,h.get? b = some o -> b ∉ fs -> ∃ u,B.get? b = some u
def CX1 (P : Program) (w : World) : CXT:=λ outer H s E e s'=>∃ (ex : Addr) (C : Value) (H' : Hp) (B : Heap),e = .ref ex /\ s'.os = s.os /\ AllBare s'.gens /\ Un (frs outer) [] H H' s.heap s'.heap /\ HOk P w H' s'.heap /\
 Fly B outer ex C .none s'.heap /\ zsW B (frs outer) H H' s.heap /\ E C none H'
section
variable {B h h1 h' : Heap} {fs : List Addr} {H H' : Hp} {P : Program} {w : World}
end
section
variable {X : Cx} {pins : List (Addr × Obj)} {σ : St} {H H' : Hp} {s s' : Shared} {B : Heap} {ex : Addr} {C : Value} {E : XK} {E' : Value -> Shared -> Prop}
theorem zkb (I : Inv X pins σ H s) (hx : X.ex = []) (os : s'.os = s.os) (bare : AllBare s'.gens) (un : Un (frs X.stack) [] H H' s.heap s'.heap) (hok : HOk X.prog X.w H' s'.heap) (stB : B.StaysIn s'.heap) (ov : zsW B (frs X.stack) H H' s.heap)
   (q : E C none H') (fly : ∀ (Q : Unit -> Shared -> Prop),(∀ h',Fly B X.outer ex C .none h' -> s'.heap.UpToSlots h' -> Q () { s' with heap:=h' }) -> wpAny (model X.prog X.w) X.A (leaving X.env (.ref ex)) Q E' s') :
   wpAny (model X.prog X.w) X.A (leaving X.env (.ref ex)) (λ _ s''=>CX1 X.prog X.w X.outer X.H₀ X.s₀ E (.ref ex) s'') E' s':=by
 have base : Un X.fs [] X.H₀ H X.s₀.heap s.heap:=by have:=I.base; rwa [hx] at this
 have nL : ∀ b o,X.s₀.heap.get? b = some o -> b ∉ X.fs -> b ∉ frs X.stack:=λ b o e n z=>by
   rcases wm.mp (I.stkSub b z) with r | r
   . exact wF (wL (wk e) I.ok.above) r
   . exact n r
 have old : ∀ b o,X.s₀.heap.get? b = some o -> X.H₀ b = none -> b ∉ X.fs -> B.get? b = some o:=λ b o e n nf =>
   ov.old b o (base.keep b o e n nf (by simp)) (base.free b o e n (by simp)) (nL b o e nf)
 have thr : ∀ b o,X.s₀.heap.get? b = some o -> b ∉ X.fs -> ∃ u,B.get? b = some u:=λ b o e nf=>by
   obtain ⟨o',e1⟩:=base.there b o e (by simp);exact ov.thr b o' e1 (nL b o e nf)
 refine fly _ λ h' F sm=>⟨ex,C,H',B,rfl,os.trans I.os,bare,⟨λ b o e n nf _=>F.st b o (old b o e n nf),λ b o e n hb _=>?_,λ b o e n _=>?_,λ b o e _=>?_,λ b xs e=>un.tups b xs (base.tups b xs e),
   λ b o u e=>un.frzs b o u (base.frzs b o u e),λ b ps e=>?_⟩,λ a o e=>?_,F,⟨ov.trk,old,thr⟩,q⟩
 . obtain ⟨sl,e1⟩:=base.slot b o e n hb (by simp)
   obtain ⟨sl',e2⟩:=un.any e1 (base.free b o e n (by simp)) (by simp);obtain ⟨_,o',ho',nr⟩:=I.ok.funs.mem hb;rw [e] at ho';cases ho';obtain ⟨sl2,e3⟩:=sm b _ e2 nr;exact ⟨sl2,e3⟩
 . obtain ⟨o',e1⟩:=base.there b o e (by simp)
   exact un.free b o' e1 (base.free b o e n (by simp)) (by simp)
 . by_cases hb : b ∈ X.fs
   . obtain ⟨_,o',ho',nr⟩:=I.ok.funs.mem hb
     rw [e] at ho';cases ho';have n : X.H₀ b = none:=I.ok.frf b hb;obtain ⟨sl,e1⟩:=base.slot b o e n hb (by simp);obtain ⟨sl',e2⟩:=un.any e1 (base.free b o e n (by simp)) (by simp);obtain ⟨sl2,e3⟩:=sm b _ e2 nr;exact ⟨_,e3⟩
   . obtain ⟨u,e1⟩:=thr b o e hb
     exact ⟨u,F.st b u e1⟩
 . obtain ⟨m1,e1⟩:=base.tbls b ps e
   obtain ⟨m2,e2⟩:=un.tbls b _ e1;exact ⟨m1 ++ m2,by rw [e2,Qi]⟩
 . refine (hok a o e).stay (λ b u hb r=>?_) (λ _ z=>z) λ _ _ z=>z
   have : ∃ v,B.get? b = some v:=by
     rcases hb with rfl | hb
     . exact ov.trk _ _ e
     . exact ov.trk _ _ hb
   obtain ⟨v,ev⟩:=this;have e2:=stB b v ev;rw [r] at e2;cases e2;exact F.st b u ev
theorem zlu {h' : Heap} {vs : List Value} (I : Inv X pins σ H s) (hx : X.ex = []) (hs : X.stack = X.env :: X.outer) (hf : X.env.frame = some X.env.locals) (m : xy s.heap h' ex C vs) (q : E C none H) :
   wpAny (model X.prog X.w) X.A (leaving X.env (.ref ex)) (λ _ s''=>CX1 X.prog X.w X.outer X.H₀ X.s₀ E (.ref ex) s'') E' { s with heap:=h' }:=by
 obtain ⟨B,hB⟩ : ∃ B,B = xf s.heap (frs X.stack):=⟨_,rfl⟩;have hin : ∀ env ∈ X.stack,∀ b,env.frame = some b -> b ∈ frs X.stack:=λ env he b hb=>Vo.mpr ⟨env,he,hb⟩
 have frB : s.heap.FunFrames B X.stack:=by rw [hB]; exact PySem.W.funFrames_hide I.stack hin
 have getB : ∀ {b o},s.heap.get? b = some o -> b ∉ frs X.stack -> B.get? b = some o:=λ e n=>by rw [hB]; exact q5 _ e n
 have ofB : ∀ {b o},B.get? b = some o -> s.heap.get? b = some o:=λ r=>by rw [hB] at r; exact Qh _ r
 have nfr : ∀ a o,H a = some o -> a ∉ frs X.stack:=λ a o e z=>by
   have:=I.stkFree a z;rw [e] at this;cases this
 obtain ⟨t,he,_,_⟩:=m.there
 refine zkb (B:=B) (s':={ s with heap:=h' }) I hx rfl I.bare (Un.kept m.keeps) (I.hok.kept m.keeps) (λ b o r=>m.keeps b o (ofB r))
   ⟨λ a o e=>?_,λ b o e _ nf=>getB e nf,λ b o e nf=>⟨o,getB e nf⟩⟩ q λ Q k=>?_
 . obtain ⟨u,e1⟩:=(I.hok a o e).there
   exact ⟨u,getB e1 (nfr a o e)⟩
 . rw [hs] at frB
   refine zk2 (s:={ s with heap:=h' }) (I.ok.frames.trans (congrArg some hs)) hf (λ b o r=>m.keeps b o (ofB r)) (frB.of_keeps λ b o hb _=>⟨o,m.keeps b o hb,rfl⟩) ⟨_,_,he,rfl,rfl,rfl,rfl,rfl,?_⟩ k;cases z : B.get? ex with
   | none=>rfl
   | some o =>
     have:=ofB z;rw [m.new] at this;cases this
end
def zq8 (X : Cx) (C : Value) (E : XK) : Prop:=∀ (pins : List (Addr × Obj)) (σ : St) (H : Hp) (s : Shared) (h' : Heap) (ex : Addr) (vs : List Value),Inv X pins σ H s -> xy s.heap h' ex C vs -> E C none H -> X.xe (.ref ex) { s with heap:=h' }
theorem zkQ {P : Program} {w : World} {K : wa} {mg : Str -> Option Value} {base : Heap} {N : List Str} {qual : Str} {scope : Scope} {f : Addr} {cd C : Value} {A : Around} {outer : List Env} {s : Shared} {H : Hp} {E : XK} :
   zq8 (zbz (CX1 P w) P w K mg base N qual scope f cd A outer s H E) C E:=λ pins σ H1 s1 h' ex vs I m q=>zlu I rfl rfl rfl m q
def zoK : List Value:=[.type "ValueError",.type "Exception",.type "BaseException",.type "object"]
theorem zqi {K : wa} {h : Heap} {C : Addr} {bmB : List Value} {newId : String} (X : K.In h) (q : VJ K C bmB newId = true) :
   ∃ bm N nm qn bs hd sn sub ab col dd k0 k1 k2 k3 k5 mN,h.get? C = some (excClassObj nm qn C N bs bm hd sn sub ab col dd k0 k1 k2 k3 k5 newId) /\ h.Ns N mN /\ mN "__init__" = none /\ OwnTail h bmB bm:=by
 unfold VJ at q
 split at q
 case h_2=>cases q
 rename_i dd cd sl ho
 split at q
 case h_2=>cases q
 rename_i C' bm k0 k1 k2 k3 n k5 hm hs;simp only [wX,beq_iff_eq,Wl] at q;obtain ⟨⟨⟨⟨⟨rfl,rfl⟩,hdel⟩,ht⟩,hok⟩,hni⟩:=q;obtain ⟨nm,bs,mro,ns,qn,hd,sn,sub,ab,col,del⟩:=cd;dsimp only at hm hdel hok hni;subst hm hdel
 have e : sl = #[k0,k1,k2,k3,some (.builtin n),k5]:=by
   cases sl;simp only at hs;rw [hs]
 subst e;exact ⟨bm,ns,nm,qn,bs,hd,sn,sub,ab,col,dd,k0,k1,k2,k3,k5,_,X _ _ ho,.of_isNs (PySem.W.isNs_of_in X hok),PySem.W.nsMap_none_of_in X hok hni,PySem.W.tail_of_in X ht⟩
section
variable {X : Cx} {x : Str} {C : Addr} {E : XK} {e : Expr} {es : List Expr} {t : TA} {np cpos pos : Pos}
def zrq (C : Value) (E : XK) (t : TA) : TS:=λ _ σ H=>t σ H λ vs H1=>vs.length <= sizeLine /\ E C none H1
theorem zhs (q : VJ X.K C zoK "ValueError.__new__" = true) (hc : X.calm = true) (hg : Gl X x) (hm : X.mg x = some (.ref C)) (Z : zq8 X (.ref C) E) (ha : PA X (e :: es) t) (hdb : (x == ("__debug__" : Str)) = false:=by decide)
   (he : starEach (e :: es) X.env = (false,eval e X.env) :: starEach es X.env:=by rfl) (hpl : (backTo cpos (starEach es X.env)).any (·.1) = false:=by rfl) :
   PS X (.Raise (some (.Call (.Name x np) (e :: es) [] cpos)) none pos) (zrq (.ref C) E t):=by
 intro pins s σ H D I h;obtain ⟨bm,N,nm,qn,bs,hd,sn,sub,ab,col,dd,k0,k1,k2,k3,k5,mN,hC,hN,hni,T⟩:=zqi I.ok.mod.kin q
 refine wpAny_Raise_call_subU (C:=C) (nm:=nm) (q:=qn) (N:=N) (bs:=bs) (bm:=bm) (hdct:=hd) (sn:=sn) (sub:=sub) (ab:=ab) (col:=col) (dd:=dd) (k0:=k0) (k1:=k1) (k2:=k2) (k3:=k3) (k5:=k5)
   qT (by decide) qT (mN:=mN) (T.hasType (by decide)) (I.ok.hd hc) (by rw [he]; show (false || (backTo cpos (starEach es X.env)).any (·.1)) = false; rw [hpl]; rfl) hni (ziM I hg hm ⟨rfl,?_⟩ hdb)
 have ha':=ha cpos pins s σ H _ I h;rw [he] at ha' ⊢;refine qR (wpAny_mono ha' (λ us s2 ⟨vs,H2,I2,r,z,q2⟩=>⟨rfl,by rw [<- r.length]; exact z,I2.bk _ _ hC,hN.keeps I2.bk,T.keeps I2.bk,λ h' ex m=>Z pins σ H2 s2 h' ex us I2 m q2⟩) λ _ _ y=>y)
end
abbrev Cx.at (X : Cx) (pn : List (Addr × Obj)) (E : Value -> Shared -> Prop) : Cx:={ X with pn:=pn,xe:=E }
abbrev Cx.inExc (X : Cx) (pn : List (Addr × Obj)) (ex : Addr) (oe : Obj) : Cx:={ X with pn:=pn ++ [(ex,oe)],xe:=λ _ _=>False,A:=X.A.mark (some (.ref ex)),calm:=false }
section
variable {X : Cx} {pins pins' : List (Addr × Obj)} {σ : St} {H : Hp} {s : Shared} {ex : Addr} {oe : Obj}
end
section
variable {X : Cx} {CX : CXT} {k : Nat} {f : Addr} {fd : FuncData} {ps : List Str} {sp : Sp} {W : St -> XK} {x : Str} {p pos : Pos} {e : Expr} {es : List Expr} {t : TA}
end
structure zqX (C : Value) (oe : Obj) : Prop where
 cls : oe.cls = C
 fld : ∃ vs,oe.data = .fields vs /\ vs[2]? = some .none
 dict : oe.dict = none
section
variable {X : Cx} {x n : Str} {G : Value} {i : Nat} {b₀ : Stmt} {body suite : List Stmt} {np hpos pos : Pos} {tb : (St -> XK) -> TS} {th : Addr -> Value -> TS}
end
structure zsN (k : Nat) (A : Around) : Prop where
 dp : A.depth + 3 * k + 5 < recursionLimit
 un : A.units + 16 * k + 200 < cLine
structure ztO (P : Program) (w : World) (K : wa) (mg : Str -> Option Value) (base : Heap) (k : Nat) (f : Addr) (fd : FuncData) (ps : List Str) (sp : Addr -> Value -> Sp) : Prop where
 len : ∀ ex C vs H Q E,sp ex C vs H Q E -> vs.length = ps.length
 run : ∀ (A : Around) (outer : List Env) (s : Shared) (H : Hp) (args : Args) (us : List Value) (vs : List V) (Q : VK) (E : XK) (ex : Addr) (C : Value) (oe : Obj),zsN k A -> A.handled = some (.ref ex) -> s.heap.get? ex = some oe -> zqX C oe -> H ex = none -> ex ∉ frs outer ->
   znT P w K mg base A outer s H -> BindsTo s fd args (ps.zip us) -> zaG vs us -> sp ex C vs H Q E -> codeAny (model P w) A (.call (.ref f) args) (CR CX0 outer P w H s Q E) s
def zbb (P : Program) (w : World) (K : wa) (mg : Str -> Option Value) (base : Heap) (N : List Str) (qual : Str) (scope : Scope) (f : Addr) (cd : Value) (A : Around) (outer : List Env) (s : Shared) (H : Hp) (ex : Addr) (oe : Obj) : Cx :=
 { zbz CX0 P w K mg base N qual scope f cd A outer s H E0 with calm:=false,pn:=[(ex,oe)],xe:=λ _ _=>False }
structure Hd (X : Cx) (ex : Addr) (C : Value) (oe : Obj) : Prop where
 hd : X.A.handled = some (.ref ex)
 pn : (ex,oe) ∈ X.pn
 ob : zqX C oe
section
variable {P : Program} {w : World} {K : wa} {mg : Str -> Option Value} {base : Heap}
end
section
variable {X : Cx} {k : Nat} {f : Addr} {fd : FuncData} {ps : List Str} {sp : Addr -> Value -> Sp} {x : Str} {p pos : Pos} {e : Expr} {es : List Expr} {t : TA} {ex : Addr} {C : Value} {oe : Obj}
end
def zfU (cells : List (Str × Addr)) : List (Str × NameKind) -> List (Str × Addr) -> List (Str × Addr)
 | [],acc=>acc
 | (n,k) :: r,acc=>zfU cells r (if (k == NameKind.free) = true then (n,(cells.lookup n).getD 0) :: acc else acc)
theorem zf7 {scope : Scope} {env : Env} (h : ∀ y ∈ scope.names,y.2 = .free -> ∃ c,env.cells.lookup y.1 = some c) : closureFor scope env = pure (zfU env.cells scope.names []):=by
 unfold closureFor;generalize scope.names = names at h
 suffices g : ∀ (names : List (Str × NameKind)) (acc : List (Str × Addr)),(∀ y ∈ names,y.2 = .free -> ∃ c,env.cells.lookup y.1 = some c) ->
     (forIn names acc λ (x : Str × NameKind) (r : List (Str × Addr))=>if (x.2 == NameKind.free) = true then do let c <- cellOf env x.1; pure (ForInStep.yield ((x.1,c) :: r)) else pure (ForInStep.yield r) : Sem (List (Str × Addr))) = pure (zfU env.cells names acc) by
   have:=g names [] h
   show (_ >>= pure) = _
   rw [bind_pure];exact this
 intro names
 induction names with
 | nil=>intro acc _; rfl
 | cons y r ih =>
   intro acc hy;obtain ⟨n,k⟩:=y;rw [qz]
   by_cases e : (k == NameKind.free) = true
   . obtain ⟨c,hc⟩:=hy (n,k) wO (beq_iff_eq.mp e)
     have hcell : cellOf env n = pure c:=by
       unfold cellOf;rw [hc]
     simp only [e,if_true,hcell,pure_bind];rw [ih _ λ z hz=>hy z (wI _ hz)]
     show _ = pure (zfU env.cells r _)
     simp only [e,if_true,hc,Q4]
   . simp only [e,pure_bind]
     rw [if_neg (by simp),pure_bind];dsimp only;rw [ih _ λ z hz=>hy z (wI _ hz)]
     show _ = pure (zfU env.cells r _)
     rw [if_neg e]
theorem zgy {cells : List (Str × Addr)} : ∀ (names : List (Str × NameKind)) (acc : List (Str × Addr)) (x : Str) (c : Addr),(∀ y ∈ names,y.2 = .free -> ∃ c,cells.lookup y.1 = some c) -> (∀ x c,acc.lookup x = some c -> cells.lookup x = some c) ->
   (zfU cells names acc).lookup x = some c -> cells.lookup x = some c
 | [],acc,x,c,_,ha,h=>ha x c h
 | (n,k) :: r,acc,x,c,hy,ha,h=>by
   unfold zfU at h;refine zgy r _ x c (λ z hz=>hy z (wI _ hz)) (λ x' c' h'=>?_) h
   split at h'
   . rename_i e
     obtain ⟨c0,hc0⟩:=hy (n,k) wO (beq_iff_eq.mp e);rw [Vh] at h'
     split at h'
     . rename_i e2
       rw [beq_iff_eq.mp e2,hc0];rw [hc0] at h';exact h'
     . exact ha x' c' h'
   . exact ha x' c' h'
theorem zjv {cells : List (Str × Addr)} : ∀ (names : List (Str × NameKind)) (acc : List (Str × Addr)) (x : Str),(∃ c,acc.lookup x = some c) -> ∃ c,(zfU cells names acc).lookup x = some c
 | [],acc,x,h=>h
 | (n,k) :: r,acc,x,h=>by
   unfold zfU;refine zjv r _ x ?_
   split
   . rw [Vh]
     split
     . exact ⟨_,rfl⟩
     . exact h
   . exact h
theorem zjY {cells : List (Str × Addr)} : ∀ (names : List (Str × NameKind)) (acc : List (Str × Addr)) (x : Str),(x,NameKind.free) ∈ names -> ∃ c,(zfU cells names acc).lookup x = some c
 | [],acc,x,h=>nomatch h
 | (n,k) :: r,acc,x,h=>by
   unfold zfU;rcases wm.mp h with e | e
   . cases e
     rw [if_pos (by decide)];refine zjv r _ _ ?_;rw [Vh];simp
   . exact zjY r _ x e
theorem zgm (g : Str -> NameKind -> NameKind) : ∀ (names : List (Str × NameKind)) (x : Str),(names.map λ y=>(y.1,g y.1 y.2)).lookup x = (names.lookup x).map (g x)
 | [],x=>rfl
 | (n,k) :: r,x=>by
   rw [wv,Vh,Vh];dsimp only
   by_cases e : (x == n) = true
   . have e':=beq_iff_eq.mp e
     subst e';simp
   . rw [Bool.not_eq_true] at e
     simp only [e];exact zgm g r x
def zpA (env : Env) (x : Str) (k : NameKind) : NameKind:=if (k == .free && env.scope.kind == .function && env.kindOf x == some .cell) = true then .cell else k
theorem zgT {scope : Scope} {env : Env} (x : Str) : (relabel scope env).names.lookup x = (scope.names.lookup x).map (zpA env x):=by
 rw [<- zgm]
 show (scope.names.map _).lookup x = _
 congr 2
 funext ⟨n,k⟩
 dsimp only [zpA]
 split <;> rfl
def zaK (inner outer : List (Str × NameKind)) (N N' : List Str) (src : List (Option Nat)) : Bool :=
 (inner.all λ y=>(y.2 != .cell) && (y.2 != .local || inner.lookup y.1 == some .local) && (y.2 != .free || outer.lookup y.1 == some .cell)) &&
 (N'.length == src.length) && ((N'.zip src).all λ p=>match p.2 with
   | none=>true
   | some j=>N[j]? == some p.1 && outer.lookup p.1 == some .cell && inner.lookup p.1 == some .free)
theorem zaO.by {X : Cx} {N' : List Str} {scope : Scope} {src : List (Option Nat)} (hk : scope.kind = .function) (hc : zaK scope.names X.env.scope.names X.N N' src = true) (hf : ∀ x,X.env.scope.names.lookup x = some .cell -> ∃ c,X.env.cells.lookup x = some c:=by exact λ x h=>zhz h) :
   zaO X N' scope (zfU X.env.cells scope.names []) src:=by
 unfold zaK at hc;simp only [wX,Wc,beq_iff_eq,xl,bne_iff_ne,ne_eq] at hc;obtain ⟨⟨h1,h2⟩,h3⟩:=hc;have fr : ∀ y ∈ scope.names,y.2 = .free -> ∃ c,X.env.cells.lookup y.1 = some c:=λ y hy e=>hf _ (((h1 y hy).2).elim (λ z=>absurd e z) id)
 have at3 : ∀ (i : Nat) (x : Str) (j : Nat),N'[i]? = some x -> src[i]? = some (some j) -> X.N[j]? = some x /\ X.env.scope.names.lookup x = some .cell /\ scope.names.lookup x = some .free:=λ i x j e1 e2=>by
   have m : (x,some j) ∈ N'.zip src:=by
     rw [vM];exact ⟨i,by rw [Vn]; exact ⟨e1,e2⟩⟩
   have:=h3 _ m;simp only [wX,beq_iff_eq] at this;exact ⟨this.1.1,this.1.2,this.2⟩
 refine ⟨hk,λ y hy=>((h1 y hy).1).1,λ y hy e=>(((h1 y hy).1).2).elim (λ z=>absurd e z) id,⟨zf7 fr,λ x c e=>zgy _ _ x c fr (λ _ _ z=>by simp at z) e,λ x e=>?_⟩,⟨h2,λ i j x e1 e2=>⟨(at3 i x j e1 e2).1,(at3 i x j e1 e2).2.1⟩⟩,λ i x e1 e2=>?_⟩
 . rw [zgT] at e
   cases q : scope.names.lookup x with
   | none=>rw [q] at e; simp at e
   | some k =>
     have hm:=Wz q
     have hk : k = .free:=by
       rw [q] at e;simp only [xm,Vy,zpA] at e;have nc : k ≠ .cell:=((h1 _ hm).1).1;rcases e with e | e
       . split at e
         . rename_i z; simp only [wX,beq_iff_eq] at z; exact z.1.1
         . exact absurd e nc
       . split at e
         . cases e
         . exact e
     subst hk;exact zjY _ _ x hm
 . obtain ⟨o,ho⟩ : ∃ o,src[i]? = some o:=by
     have : i < src.length:=by rw [<- h2]; exact (vV.mp e1).1
     exact ⟨src[i],by simp [this]⟩
   cases o with
   | none=>exact absurd ho e2
   | some j =>
     have:=(at3 i x j e1 ho).2.2;rw [zgT,this];simp only [xm,Vy,zpA]
     split
     . exact .inl rfl
     . exact .inr rfl
section
variable {prog : Program} {w : World} {A : Around} {E : Value -> Shared -> Prop} {s : Shared}
structure ztM (A : Around) (h : Heap) (ex : Addr) : Prop where
 hd : A.handled = some (.ref ex)
 ob : ∃ oe vs,h.get? ex = some oe /\ oe.data = .fields vs /\ vs[2]? = some .none
end
section
variable {X : Cx} {ex : Addr} {C : Value} {oe : Obj} {pins : List (Addr × Obj)} {σ : St} {H : Hp} {s : Shared} {pos : Pos}
variable {tg l : Expr} {tl : TE}
variable {N' : List Str} {scope : Scope} {cl : List (Str × Addr)} {src : List (Option Nat)} {elt tgt iter : Expr} {ifs : List Expr} {wi : TI} {g : TG} {tt : TT} {te : TE}
end
structure ztA (K : wa) (C : Addr) : Prop where
 ga : WA K (.ref C) "__getattribute__" = some (some (.builtin "BaseException.__getattribute__"))
 gh : WA K (.ref C) "__getattr__" = some none
 cl : (PySem.W.clsIn K C).isSome = true
 at_ : WA K (.ref C) "__class__" = some (some (.builtin "object.__class__"))
 gt : qe K (.builtin "object.__class__") "__get__" = some (some (.builtin "getset_descriptor.__get__"))
 tk : xg K (.builtin "object.__class__") = some true
 mr : qY K C (.type "object") = some true
 be : qY K C (.type "BaseException") = some true
def zha (K : wa) (g : TG) (tt : TT) (te : TE) (src : List (Option Nat)) (σ : St) (x : V) (H1 : Hp) (Q : VK) : Prop :=
 ∃ a,x = .ref a /\ (∃ xs,SqL K H1 a xs) /\ ∀ D,H1 D = none -> zee g tt te (Itl K a) D (za0 src σ) (upd H1 D (.lst [])) (λ H'=>Q (.ref D) H')
def ziy (K : wa) (g : TG) (tt : TT) (te : TE) (src : List (Option Nat)) (σ : St) (x : V) (H1 : Hp) (Q : VK) : Prop :=
 ∃ a,x = .ref a /\ (∃ xs,SqT K H1 a xs) /\ ∀ D,H1 D = none -> zee g tt te (Itt K a) D (za0 src σ) (upd H1 D (.lst [])) (λ H'=>Q (.ref D) H')
def znY (g : TG) (tt : TT) (te : TE) (src : List (Option Nat)) (σ : St) (vs : List V) (H1 : Hp) (Q : VK) : Prop :=
 ∃ j : Int,vs = [.int j] /\ -(2 ^ 62) <= j /\ j < 2 ^ 62 /\ ∀ D,H1 D = none -> zee g tt te (Itr 0 j.toNat) D (za0 src σ) (upd H1 D (.lst [])) (λ H'=>Q (.ref D) H')
section
variable {K : wa} {g : TG} {tt : TT} {te ta : TE} {tA : TA} {src : List (Option Nat)} {σ : St} {H : Hp} {Q : VK} {a : Addr} {xs : List V} {n : Int}
theorem zoE (h : ta σ H λ x H1=>zha K g tt te src σ x H1 Q) : ze2 src (zpd K ta) g tt te σ H Q:=h
theorem zo3 (h : ta σ H λ x H1=>ziy K g tt te src σ x H1 Q) : ze2 src (zrI K ta) g tt te σ H Q:=h
theorem zoi (h : tA σ H λ vs H1=>znY g tt te src σ vs H1 Q) : ze2 src (zn3 tA) g tt te σ H Q:=h
def zkl (Pv : Addr -> Nat -> List V -> St -> Hp -> Prop) (D : Addr) (i : Nat) (σ3 : St) (y : V) (H5 : Hp) : Prop :=
 ∃ ys,H5 D = some (.lst ys) /\ ys.length < sizeLine /\ ∃ ys',Pv D (i + 1) ys' σ3 (upd H5 D (.lst (ys ++ [y])))
def zeh (Pv : Addr -> Nat -> List V -> St -> Hp -> Prop) (g : TG) (tt : TT) (te : TE) (D : Addr) (i : Nat) (x : V) (σ' : St) (H' : Hp) : Prop :=
 g x σ' H' λ σ3 H3=>tt σ3 H3 λ ok H4=>if ok = true then te σ3 H4 λ y H5=>zkl Pv D i σ3 y H5 else ∃ ys',Pv D (i + 1) ys' σ3 H4
theorem zbS {Pv : Addr -> Nat -> List V -> St -> Hp -> Prop} {D : Addr} {i : Nat} {σ3 : St} {y : V} {H5 : Hp} {ys : List V} (h : H5 D = some (.lst ys)) (z : ys.length <= 1000) (q : ∀ H6,Exc D H5 H6 -> H6 D = some (.lst (ys ++ [y])) -> Pv D (i + 1) (ys ++ [y]) σ3 H6) : zkl Pv D i σ3 y H5 :=
 ⟨ys,h,zb4 z,_,q _ (Exc.upd D H5 _) zar⟩
theorem zg1 {J : It} {N : Nat} {D : Addr} {σ0 : St} {H0 : Hp} {R : Hp -> Prop} (Pv : Addr -> Nat -> List V -> St -> Hp -> Prop) (item : Nat -> V -> Prop) (h0 : Pv D 0 [] σ0 H0)
   (stop : ∀ i ys σ' H',Pv D i ys σ' H' -> N <= i -> J.stop i H') (go : ∀ i ys σ' H',Pv D i ys σ' H' -> i < N -> J.go i H') (yld : ∀ i ys σ' H' x H2,Pv D i ys σ' H' -> J.yld i H' x H2 -> H2 = H' /\ item i x)
   (hs : ∀ i x ys σ' H',i < N -> item i x -> Pv D i ys σ' H' -> zeh Pv g tt te D i x σ' H') (hd : ∀ ys σ' H',Pv D N ys σ' H' -> R H') : zee g tt te J D σ0 H0 R:=by
 refine ⟨λ i m σ' H'=>i + m = N /\ ∃ ys,Pv D i ys σ' H',⟨N,by omega,[],h0⟩,?_⟩;rintro i m σ' H' ⟨him,ys,hp⟩
 by_cases hm : m = 0
 . subst hm
   have e : i = N:=by omega
   subst e;exact .inl ⟨stop _ _ _ _ hp (wg _),hd _ _ _ hp⟩
 . refine .inr ⟨go _ _ _ _ hp (by omega),λ σ2 H2=>∃ ys,Pv D (i + 1) ys σ2 H2,λ σ2 H2 h=>⟨m - 1,by omega,by omega,h⟩,λ x H2 hy2=>?_⟩
   obtain ⟨e,hit⟩:=yld _ _ _ _ _ _ hp hy2;subst e;exact hs i x ys σ' H2 (by omega) hit hp
theorem zeg (hx : SqL K H a xs) (Pv : Addr -> Nat -> List V -> St -> Hp -> Prop) (h0 : ∀ D H',H D = none -> zag H H' -> H' D = some (.lst []) -> Pv D 0 [] (za0 src σ) H') (hl : ∀ D i ys σ' H',Pv D i ys σ' H' -> SqL K H' a xs)
   (hs : ∀ D i x ys σ' H',xs[i]? = some x -> Pv D i ys σ' H' -> zeh Pv g tt te D i x σ' H') (hd : ∀ D ys σ' H',Pv D xs.length ys σ' H' -> Q (.ref D) H') : zha K g tt te src σ (.ref a) H Q:=by
 refine ⟨a,rfl,⟨xs,hx⟩,λ D hD=>zg1 (N:=xs.length) Pv (λ i x=>xs[i]? = some x) (h0 D _ hD (zag.upd hD) zar) (λ i ys σ' H' hp hi=>⟨xs,hl _ _ _ _ _ hp,hi⟩) (λ i ys σ' H' hp hi=>?_) (λ i ys σ' H' x H2 hp hy=>?_)
   (λ i x ys σ' H' _ hit hp=>hs D i x ys σ' H' hit hp) (hd D)⟩
 . exact ⟨xs,xs[i],hl _ _ _ _ _ hp,by simp [hi]⟩
 . obtain ⟨e,hy⟩:=hy
   exact ⟨e,hy xs (hl _ _ _ _ _ hp)⟩
theorem zd7 (hx : SqT K H a xs) (Pv : Addr -> Nat -> List V -> St -> Hp -> Prop) (h0 : ∀ D H',H D = none -> zag H H' -> H' D = some (.lst []) -> Pv D 0 [] (za0 src σ) H') (hl : ∀ D i ys σ' H',Pv D i ys σ' H' -> SqT K H' a xs)
   (hs : ∀ D i x ys σ' H',xs[i]? = some x -> Pv D i ys σ' H' -> zeh Pv g tt te D i x σ' H') (hd : ∀ D ys σ' H',Pv D xs.length ys σ' H' -> Q (.ref D) H') : ziy K g tt te src σ (.ref a) H Q:=by
 refine ⟨a,rfl,⟨xs,hx⟩,λ D hD=>zg1 (N:=xs.length) Pv (λ i x=>xs[i]? = some x) (h0 D _ hD (zag.upd hD) zar) (λ i ys σ' H' hp hi=>⟨xs,hl _ _ _ _ _ hp,hi⟩) (λ i ys σ' H' hp hi=>?_) (λ i ys σ' H' x H2 hp hy=>?_)
   (λ i x ys σ' H' _ hit hp=>hs D i x ys σ' H' hit hp) (hd D)⟩
 . exact ⟨xs,xs[i],hl _ _ _ _ _ hp,by simp [hi]⟩
 . obtain ⟨e,hy⟩:=hy
   exact ⟨e,hy xs (hl _ _ _ _ _ hp)⟩
theorem zcz (h0' : -1000000000 <= n) (h1 : n < 1000000000) (Pv : Addr -> Nat -> List V -> St -> Hp -> Prop) (h0 : ∀ D H',H D = none -> zag H H' -> H' D = some (.lst []) -> Pv D 0 [] (za0 src σ) H')
   (hs : ∀ D (i : Nat) ys σ' H',i < n.toNat -> Pv D i ys σ' H' -> zeh Pv g tt te D i (.int (i : Int)) σ' H') (hd : ∀ D ys σ' H',Pv D n.toNat ys σ' H' -> Q (.ref D) H') : znY g tt te src σ [.int n] H Q:=by
 refine ⟨n,rfl,by omega,by omega,λ D hD=>zg1 (N:=n.toNat) Pv (λ i x=>x = .int (i : Int)) (h0 D _ hD (zag.upd hD) zar) (λ i ys σ' H' hp hi=>hi) (λ i ys σ' H' hp hi=>hi) (λ i ys σ' H' x H2 hp hy=>?_)
   (λ i x ys σ' H' hi hit hp=>?_) (hd D)⟩
 . obtain ⟨e,hy⟩:=hy
   exact ⟨e,by rw [hy,Int.zero_add]⟩
 . subst hit
   exact hs D i ys σ' H' hi hp
end
structure zjg (u' u : TS) : Prop where
 e : u' = u
theorem zqu {t u : TS} {D : zcc} {σ : St} {H : Hp} (h : ∀ u',zjg u' u -> t { D with nx:=u' D } σ H) : zo5 t u D σ H:=h u ⟨rfl⟩
theorem zjg.go {u' u : TS} {D : zcc} {σ : St} {H : Hp} (e : zjg u' u) (h : u D σ H) : u' D σ H:=by rw [e.e]; exact h
theorem zsM {P : Program} {w : World} {X : Cx} : zi9 (CX1 P w) X E0:=λ _ _ _ _ _ _ _ h=>by
 obtain ⟨_,_,_,_,_,_,_,_,_,_,_,q⟩:=h;exact q.elim
theorem Fun.ok1 {P : Program} {w : World} {K : wa} {mg : Str -> Option Value} {base : Heap} {x qual : Str} {st : Stmt} {f : Addr} {fd : FuncData} {N ps : List Str} {k : Nat} {sp : Sp} (F : Fun K x qual st f fd) (S : zaB N ps (zae st)) (len : ∀ vs H Q E,sp vs H Q E -> vs.length = ps.length)
   (hbody : ∀ (cdv : Value) (A : Around) (outer : List Env) (s : Shared) (H : Hp) (vs : List V) (Q : VK) (E : XK),zej k (A.deeper (envOfC qual (zae st) s.heap.objs.size f cdv)) -> sp vs H Q E ->
     ∃ t,PSs (zbz (CX1 P w) P w K mg base N qual (zae st) f cdv A outer s H E) (zav st) t /\ t { nx:=λ _ H'=>Q .non H',rt:=Q } (start N vs) H) : zbB P w K mg base (CX1 P w) (k + 1) f fd ps sp:=by
 obtain ⟨oc,od,kV,doc,pm,an,cdv,ct,osl,rfl,lk,hcd⟩:=F.ex;exact zq7 lk hcd S len λ A outer s H vs Q E hr hsp=>hbody cdv A outer s H vs Q E hr hsp
theorem zql {X : Cx} {i j v : Int} {k1 k2 : Nat} {p1 p2 pos : Pos} (hc : zsZ i j) (hv : i ^ j.toNat = v) : PE X (.BinOp (.Constant (.int i) k1 p1) .Pow (.Constant (.int j) k2 p2) pos) (tC (.int v)):=by
 subst hv;exact λ pins s σ H Q I h=>(zaw zrN zad zad : PE X _ _) pins s σ H Q I ⟨i,j,rfl,rfl,hc,h⟩
theorem zml {α : Type} [DecidableEq α] {x : α} {A B : Prop} (h : B) : if (!decide (x = x)) = true then A else B:=by simpa using h
theorem zmA {α : Type} [DecidableEq α] {x : α} {A B : Prop} (h : A) : if decide (x = x) = true then A else B:=by simpa using h
section
variable {K : wa} {σ : St} {H H' : Hp} {Q : VK} {QB : Bool -> Hp -> Prop} {D : zcc} {t : TA} {v w : V} {xs ys : List V} {m n : Int} {r : Rat} {p : Addr}
theorem ztg {A B : Prop} (h : B) : if (!true) = true then A else B:=by simpa using h
theorem zts {A B : Prop} (h : A) : if (!false) = true then A else B:=by simpa using h
theorem zmw {b : Bool} (q : Q (.bl true) H) : zgu K [.bl b,.ty "bool"] H Q:=zkt (zc6.mpr rfl) q
theorem zpD {a b : V} (h : H p = some (.lst [a,b])) (h0 : 0 <= m) (h1 : m < 2) (q : ∀ z,z = a \/ z = b -> Q z H) : rIx K (.ref p) (.int m) H Q :=
 zd3 (λ z=>z = a \/ z = b) (SqL.of h) h0 (by simpa using h1) (by simp) q
theorem zqq {a b : Int} (h : H p = some (.lst [.int a,.int b])) (h0 : 0 <= m) (h1 : m < 2) (q : ∀ z,z = a \/ z = b -> Q (.int z) H) : rIx K (.ref p) (.int m) H Q :=
 zpD h h0 h1 λ z hz=>by rcases hz with rfl | rfl; exact q _ (.inl rfl); exact q _ (.inr rfl)
theorem zqI {a b c d : Int} (h : H p = some (.lst [.int a,.int b,.int c,.int d])) (h0 : 0 <= m) (h1 : m < 4) (q : ∀ z,z = a \/ z = b \/ z = c \/ z = d -> Q (.int z) H) : rIx K (.ref p) (.int m) H Q:=by
 refine zd3 (λ v=>∃ z,v = .int z /\ (z = a \/ z = b \/ z = c \/ z = d)) (SqL.of h) h0 (by simpa using h1) (λ x hx=>?_) λ x hx=>?_
 . simp only [wm,vI,or_false] at hx
   rcases hx with rfl | rfl | rfl | rfl
   . exact ⟨_,rfl,by simp⟩
   . exact ⟨_,rfl,by simp⟩
   . exact ⟨_,rfl,by simp⟩
   . exact ⟨_,rfl,by simp⟩
 . obtain ⟨z,rfl,hz⟩:=hx
   exact q z hz
theorem zp2 {a b c d e f : Int} (h : H p = some (.lst [.int a,.int b,.int c,.int d,.int e,.int f])) (h0 : 0 <= m) (h1 : m < 6) (q : ∀ z,z = a \/ z = b \/ z = c \/ z = d \/ z = e \/ z = f -> Q (.int z) H) : rIx K (.ref p) (.int m) H Q:=by
 refine zd3 (λ v=>∃ z,v = .int z /\ (z = a \/ z = b \/ z = c \/ z = d \/ z = e \/ z = f)) (SqL.of h) h0 (by simpa using h1) (λ x hx=>?_) λ x hx=>?_
 . simp only [wm,vI,or_false] at hx
   rcases hx with rfl | rfl | rfl | rfl | rfl | rfl
   all_goals exact ⟨_,rfl,by simp⟩
 . obtain ⟨z,rfl,hz⟩:=hx
   exact q z hz
theorem zlM (a b : Int) : wQ (.int a) (.int b) = decide (a = b):=by rw [wQ,VP]
end
theorem zjp {X : Cx} : OpR X (compareOp .In) (rIn X.K false):=zmZ
theorem zd1 {X : Cx} : OpR X (compareOp .NotIn) (rIn X.K true):=zjf
def R (a b : Rat) : PyData:=.tuple [N a,N b]
structure ztK (a b : Rat) : Prop where
 a0 : 0 < a
 a4 : a <= 4
 ad : a.den <= 8
 b0 : 0 <= b
 b1 : b <= 1
 bd : b.den <= 12
 ab : 1 <= a + b
section
variable {K : wa} {H : Hp} {Q : VK} {v : V} {a b : Rat} {σ : St} {gs : TGs} {QS : St -> Hp -> Prop}
end
section
variable {K : wa} {H H' H2 : Hp} {Q : VK} {v w : V} {a b c d : Rat} {D : Addr}
theorem zag.grow (s : zag H H') (n : H D = none) (e : Exc D H' H2) : zag H H2:=λ b o h=>e b o (zay h n) (s b o h)
end
theorem zjW {σ : St} {H : Hp} {Q : Bool -> Hp -> Prop} (q : Q true H) : zj9 σ H Q:=q
theorem zeo {Pv : Addr -> Nat -> List V -> St -> Hp -> Prop} {g : TG} {tt : TT} {te : TE} {D : Addr} {i : Nat} {x : V} {σ' : St} {H' : Hp} (h : g x σ' H' λ σ3 H3=>tt σ3 H3 λ ok H4=>if ok = true then te σ3 H4 λ y H5=>zkl Pv D i σ3 y H5 else ∃ ys',Pv D (i + 1) ys' σ3 H4) :
   zeh Pv g tt te D i x σ' H':=h
section
variable {K : wa} {σ : St} {H : Hp} {Q : VK} {E : XK} {D : zcc} {t : TA} {C G : Value} {i : Nat} {tb : (St -> XK) -> TS} {th : Addr -> Value -> TS} {sp : Sp} {W : St -> XK} {ex C' : Addr} {b : Bool}
end
inductive zg6 (K : wa) (H : Hp) : List V -> List (Str × Bool) -> Prop
 | nil : zg6 K H [] []
 | cons {x : V} {xs : List V} {w : Str} {b : Bool} {ws : List (Str × Bool)} : Is K H x (.tuple [.str w,.bool b]) -> zg6 K H xs ws -> zg6 K H (x :: xs) ((w,b) :: ws)
theorem zd4 {xs : List Expr} {k : Nat} {p : Pos} {es : List Expr} {env : Env} : starEach ((.Tuple xs k p) :: es) env = (false,eval (.Tuple xs k p) env) :: starEach es env:=rfl
inductive zg7 (X : Cx) : List Expr -> List TE -> Prop
 | nil : zg7 X [] []
 | cons {e : Expr} {es : List Expr} {te : TE} {ts : List TE} : (∀ env,starEach (e :: es) env = (false,eval e env) :: starEach es env) -> PE X e te -> zg7 X es ts -> zg7 X (e :: es) (te :: ts)
def zk1 : List TE -> TA
 | []=>zmL
 | te :: ts=>ziu te (zk1 ts)
theorem zg7.pa {X : Cx} {es : List Expr} {ts : List TE} (h : zg7 X es ts) : PA X es (zk1 ts):=by
 induction h with
 | nil=>exact zab
 | cons hs ha _ ih=>exact zaa ha ih (hs _)
theorem zpQ {X : Cx} {es : List Expr} {ts : List TE} {pos : Pos} (h : zg7 X es ts) : PE X (.List es pos) (zks X.K (zk1 ts)):=zaP h.pa
theorem zgC {te : TE} {ts : List TE} {σ : L2.St} {H : Hp} {QA : List V -> Hp -> Prop} (h : te σ H λ x H1=>zk1 ts σ H1 λ xs H2=>QA (x :: xs) H2) : zk1 (te :: ts) σ H QA:=h
theorem zov {σ : L2.St} {H : Hp} {QA : List V -> Hp -> Prop} (q : QA [] H) : zk1 [] σ H QA:=q
theorem zmi : bootBuiltins "sorted" = some (.builtin "sorted"):=by decide +kernel
section
variable {K : wa} {H H' H2 : Hp} {Q : VK} {R : Prop} {v w y : V} {p l : Addr} {xs ys zs : List V} {ns : List Int} {m : Int} {σ : St}
end
section
variable {K : wa} {H H' H2 : Hp} {Q : VK} {R : Prop} {v w y : V} {p l : Addr} {xs ys zs : List V} {ns : List Int} {m : Int} {σ : St} {to : TE} {t : TA} {T : String} {r : V -> List V -> Hp -> VK -> Prop}
theorem zsC (h : to σ H λ x H1=>tyV K T x H1 /\ t σ H1 λ xs H2=>r x xs H2 Q) : tBM K T r to t σ H Q:=h
theorem zec (h : SqL K H p xs) (q : R) : tyV K "list" (.ref p) H /\ R:=⟨.inl ⟨rfl,xs,h⟩,q⟩
theorem zcC (h : H l = some (.lst xs)) (z : xs.length <= 1000) (q : ∀ H',Exc l H H' -> H' l = some (.lst (xs ++ [y])) -> Q .non H') : zju (.ref l) [y] H Q:=⟨l,xs,y,rfl,rfl,h,zb4 z,q _ (Exc.upd l H _) zar⟩
end
def zaz (K : wa) : List V -> Hp -> VK -> Prop:=λ xs H Q=>∃ p ys,xs = [.ref p] /\ ((SqL K H p ys /\ ∀ l,H l = none -> Q (.ref l) (upd H l (.tup ys))) \/ (SqT K H p ys /\ Q (.ref p) H))
def zcN (K : wa) : List V -> Hp -> VK -> Prop:=λ xs H Q=>∃ p ys,xs = [.ref p] /\ (SqL K H p ys \/ SqT K H p ys) /\ ∀ l,H l = none -> Q (.ref l) (upd H l (.lst ys))
theorem zap {X : Cx} : zal X (.type "tuple") (zaz X.K):=zhQ
theorem zcj {X : Cx} : zal X (.type "list") (zcN X.K):=zi6
def zpk (K : wa) : V -> Option Int -> Option Int -> Hp -> VK -> Prop:=λ x lo hi H Q=>zsE K x lo hi H Q \/ zsU K x lo hi H Q
theorem zbq {X : Cx} : SlR X (zpk X.K):=zpX.or zrj
section
variable {K : wa} {H H' H2 : Hp} {Q : VK} {QO : Option Int -> Hp -> Prop} {R : Prop} {v w y : V} {p l : Addr} {xs ys zs : List V} {ds es : List PyData} {m : Int} {σ : St} {te : TE} {tl th : TO} {r : V -> Option Int -> Option Int -> Hp -> VK -> Prop} {lo hi : Option Int}
theorem zbr (h : SqL K H p ys) (q : ∀ l H',H l = none -> zag H H' -> H' l = some (.tup ys) -> Q (.ref l) H') : zaz K [.ref p] H Q:=⟨p,ys,rfl,.inl ⟨h,λ l hl=>q l _ hl (zag.upd hl) zar⟩⟩
theorem zbn (h : Is K H v (.list ds)) (q : ∀ w H',zag H H' -> Is K H' w (.tuple ds) -> Q w H') : zaz K [v] H Q:=by
 obtain ⟨a,xs,rfl,hs,t⟩:=zaF.mp h;exact zbr hs λ l H' _ s e=>q _ H' s (zaI.mpr ⟨l,xs,rfl,.of e,IsAll.same s ds xs t⟩)
theorem zhg (h : Is K H v (.tuple ds)) (q : Q v H) : zaz K [v] H Q:=by
 obtain ⟨a,xs,rfl,hs,t⟩:=zaI.mp h;exact ⟨a,xs,rfl,.inr ⟨hs,q⟩⟩
theorem ziC (h : Is K H v (.tuple ds)) (q : ∀ l H' ys,H l = none -> zag H H' -> H' l = some (.lst ys) -> IsAll K H' ys ds -> Q (.ref l) H') : zcN K [v] H Q:=by
 obtain ⟨a,xs,rfl,hs,t⟩:=zaI.mp h;exact ⟨a,xs,rfl,.inr hs,λ l hl=>q l _ xs hl (zag.upd hl) zar (IsAll.same (zag.upd hl) ds xs t)⟩
theorem zdT (h : Is K H v (.list ds)) (q : ∀ l H' ys,H l = none -> zag H H' -> H' l = some (.lst ys) -> IsAll K H' ys ds -> Q (.ref l) H') : zcN K [v] H Q:=by
 obtain ⟨a,xs,rfl,hs,t⟩:=zaF.mp h;exact ⟨a,xs,rfl,.inl hs,λ l hl=>q l _ xs hl (zag.upd hl) zar (IsAll.same (zag.upd hl) ds xs t)⟩
theorem znB (h : te σ H λ x H1=>tl σ H1 λ l H2=>th σ H2 λ u H3=>r x l u H3 Q) : tSl r te tl th σ H Q:=h
theorem zm7 (q : QO none H) : zlI σ H QO:=q
theorem zqB (h : te σ H λ x H1=>∃ i,x = .int i /\ QO (some i) H1) : zrh te σ H QO:=h
theorem zoq {RI : Int -> Prop} (q : RI m) : ∃ i,V.int m = V.int i /\ RI i:=⟨m,rfl,q⟩
def zfi {α : Type} (xs : List α) (lo hi : Option Int) : List α:=(xs.drop (HT.sIx xs.length 0 lo)).take (HT.sIx xs.length xs.length hi - HT.sIx xs.length 0 lo)
theorem IsAll.take : ∀ {ds : List PyData} {xs : List V} (n : Nat),IsAll K H xs ds -> IsAll K H (xs.take n) (ds.take n)
 | _,_,0,h=>by simp [IsAll.nil]
 | [],_,n + 1,h=>by rw [za3.mp h]; simp [IsAll.nil]
 | d :: ds,_,n + 1,h=>by
   obtain ⟨x,r,rfl,q,t⟩:=zaE.mp h;rw [Qb,Qb];exact .cons q (IsAll.take n t)
theorem IsAll.drop : ∀ {ds : List PyData} {xs : List V} (n : Nat),IsAll K H xs ds -> IsAll K H (xs.drop n) (ds.drop n)
 | _,_,0,h=>by simpa using h
 | [],_,n + 1,h=>by rw [za3.mp h]; simp [IsAll.nil]
 | d :: ds,_,n + 1,h=>by
   obtain ⟨x,r,rfl,q,t⟩:=zaE.mp h;rw [V0,V0];exact IsAll.drop n t
theorem IsAll.cut (h : IsAll K H xs ds) : IsAll K H (zf3 xs lo hi) (zfi ds lo hi):=by
 unfold zf3 zfi;rw [h.length];exact (h.drop _).take _
theorem zbd (h : SqL K H p xs) (q : ∀ l H',H l = none -> zag H H' -> H' l = some (.lst (zf3 xs lo hi)) -> Q (.ref l) H') : zpk K (.ref p) lo hi H Q:=.inl ⟨p,xs,rfl,h,λ l hl=>q l _ hl (zag.upd hl) zar⟩
theorem zlF (h : Is K H v (.list ds)) (q : ∀ l H' ys,H l = none -> zag H H' -> H' l = some (.lst ys) -> IsAll K H' ys (zfi ds lo hi) -> Q (.ref l) H') : zpk K v lo hi H Q:=by
 obtain ⟨a,xs,rfl,hs,t⟩:=zaF.mp h;exact zbd hs λ l H' hl s e=>q l H' _ hl s e (IsAll.same s _ _ t.cut)
theorem zjd (h : Is K H v (.tuple ds)) (hw : ¬ (HT.sIx ds.length 0 lo = 0 /\ HT.sIx ds.length ds.length hi = ds.length)) (q : ∀ w H',zag H H' -> Is K H' w (.tuple (zfi ds lo hi)) -> Q w H') : zpk K v lo hi H Q:=by
 obtain ⟨a,xs,rfl,hs,t⟩:=zaI.mp h;refine .inr ⟨a,xs,rfl,hs,by rw [t.length]; exact hw,λ l hl=>q _ _ (zag.upd hl) (zaI.mpr ⟨l,_,rfl,.of zar,IsAll.same (zag.upd hl) _ _ t.cut⟩)⟩
theorem zoo {α : Type} (xs : List α) : zfi xs none (some (-1)) = xs.dropLast:=by
 unfold zfi
 show (xs.drop 0).take (((-1 : Int) + (xs.length : Int)).toNat - 0) = _
 rw [qL,List.dropLast_eq_take]
 congr 1
 omega
theorem zio {α : Type} (xs : List α) : zfi xs (some 1) none = xs.tail:=by
 unfold zfi
 show (xs.drop (min 1 xs.length)).take (xs.length - min 1 xs.length) = _
 cases xs with
 | nil=>rfl
 | cons x xs =>
   have e : min 1 (x :: xs).length = 1:=by rw [wU]; omega
   rw [e,V0,qL,wU,Qm,Wd,xz]
end
section
variable {K : wa} {H H' H2 : Hp} {Q : VK} {v w y : V} {p l : Addr} {vs : List V} {xs ys : List Rat} {m : Int} {σ : St}
end
section
variable {K : wa} {g : TG} {tt : TT} {te : TE} {src : List (Option Nat)} {σ : St} {H : Hp} {Q : VK} {a : Addr} {vs : List V} {n : Int} {tl : St} {o0 : Option V}
def zbZ (H : Hp) (tl : St) (Rel : Nat -> V -> Hp -> Prop) (D : Addr) (i : Nat) (ys : List V) (σ' : St) (H' : Hp) : Prop :=
 (∃ o,σ' = o :: tl) /\ H D = none /\ zag H H' /\ H' D = some (.lst ys) /\ ys.length = i /\ ∀ j y,ys[j]? = some y -> Rel j y H'
theorem zbZ.same {Rel : Nat -> V -> Hp -> Prop} {D : Addr} {i : Nat} {ys : List V} {σ' : St} {H' : Hp} (h : zbZ H tl Rel D i ys σ' H') : zag H H':=h.2.2.1
theorem zbG {Rel : Nat -> V -> Hp -> Prop} {D : Addr} {i : Nat} {ys : List V} {σ' σ3 : St} {H1 H5 : Hp} {y : V} (inv : zbZ H tl Rel D i ys σ' H1) (hi : i <= 1000) (hk : ∀ i v H1 H2,zaM H1 H2 -> Rel i v H1 -> Rel i v H2) (hσ : ∃ o,σ3 = o :: tl) (s : zag H1 H5) (r : Rel i y H5) : zkl (zbZ H tl Rel) D i σ3 y H5:=by
 obtain ⟨_,hn,s1,hD,hl,hr⟩:=inv;have hD5:=s _ _ hD;refine zbS hD5 (by omega) λ H6 E6 e6=>⟨hσ,hn,(s1.trans s).grow hn E6,e6,by simp [hl],λ j z hz=>?_⟩
 have k6 : zaM H5 H6:=E6.keep hD5;rcases wK j ys.length with hj | hj
 . rw [vv hj] at hz
   exact hk _ _ _ _ (s.keep.trans k6) (hr j z hz)
 . have hj' : j = ys.length:=by
     rcases wK ys.length j with q | q
     . rw [wW (by simp; omega)] at hz; cases hz
     . omega
   subst hj';rw [vp (wg _),VR] at hz;cases hz;rw [hl];exact hk _ _ _ _ k6 r
theorem zgE (hx : SqL K H a vs) (hsrc : za0 src σ = o0 :: tl) (Rel : Nat -> V -> Hp -> Prop) (hs : ∀ D i x ys o H1,vs[i]? = some x -> zbZ H tl Rel D i ys (o :: tl) H1 -> zeh (zbZ H tl Rel) g tt te D i x (o :: tl) H1)
   (hd : ∀ D ys H',H D = none -> zag H H' -> H' D = some (.lst ys) -> ys.length = vs.length -> (∀ j y,ys[j]? = some y -> Rel j y H') -> Q (.ref D) H') : zha K g tt te src σ (.ref a) H Q:=by
 refine zeg hx (zbZ H tl Rel) (λ D H' n s e=>⟨⟨o0,hsrc⟩,n,s,e,rfl,λ j y z=>by simp at z⟩) (λ D i ys σ' H' h=>h.same.seq hx) ?_ λ D ys σ' H' ⟨_,n,s,e,hl,r⟩=>hd D ys H' n s e hl r
 rintro D i x ys σ' H' hx' h;obtain ⟨⟨o,rfl⟩,_⟩:=id h;exact hs D i x ys o H' hx' h
theorem zeM (hx : SqT K H a vs) (hsrc : za0 src σ = o0 :: tl) (Rel : Nat -> V -> Hp -> Prop) (hs : ∀ D i x ys o H1,vs[i]? = some x -> zbZ H tl Rel D i ys (o :: tl) H1 -> zeh (zbZ H tl Rel) g tt te D i x (o :: tl) H1)
   (hd : ∀ D ys H',H D = none -> zag H H' -> H' D = some (.lst ys) -> ys.length = vs.length -> (∀ j y,ys[j]? = some y -> Rel j y H') -> Q (.ref D) H') : ziy K g tt te src σ (.ref a) H Q:=by
 refine zd7 hx (zbZ H tl Rel) (λ D H' n s e=>⟨⟨o0,hsrc⟩,n,s,e,rfl,λ j y z=>by simp at z⟩) (λ D i ys σ' H' h=>h.same.sqT hx) ?_ λ D ys σ' H' ⟨_,n,s,e,hl,r⟩=>hd D ys H' n s e hl r
 rintro D i x ys σ' H' hx' h;obtain ⟨⟨o,rfl⟩,_⟩:=id h;exact hs D i x ys o H' hx' h
theorem zmd (h0 : 0 <= n) (h1 : n < 1000000000) (hsrc : za0 src σ = o0 :: tl) (Rel : Nat -> V -> Hp -> Prop) (hs : ∀ D (i : Nat) ys o H1,i < n.toNat -> zbZ H tl Rel D i ys (o :: tl) H1 -> zeh (zbZ H tl Rel) g tt te D i (.int (i : Int)) (o :: tl) H1)
   (hd : ∀ D ys H',H D = none -> zag H H' -> H' D = some (.lst ys) -> ys.length = n.toNat -> (∀ j y,ys[j]? = some y -> Rel j y H') -> Q (.ref D) H') : znY g tt te src σ [.int n] H Q:=by
 refine zcz (by omega) h1 (zbZ H tl Rel) (λ D H' n s e=>⟨⟨o0,hsrc⟩,n,s,e,rfl,λ j y z=>by simp at z⟩) ?_ λ D ys σ' H' ⟨_,n,s,e,hl,r⟩=>hd D ys H' n s e hl r
 rintro D i ys σ' H' hi h;obtain ⟨⟨o,rfl⟩,_⟩:=id h;exact hs D i ys o H' hi h
end
theorem zb3 {H H' : Hp} {l : Addr} (s : zag H H') (h : H' l = none) : H l = none:=by
 cases e : H l with
 | none=>rfl
 | some o=>rw [s _ _ e] at h; cases h
def TZ (ns : List Int) : PyData:=.tuple (ns.map PyData.int)
theorem zjH : ∀ ns : List Int,ImmAll (ns.map PyData.int) = true
 | []=>by simp [ImmAll]
 | n :: ns=>by rw [wv,ImmAll,zjH ns]; rfl
theorem zgX (ns : List Int) : Imm (TZ ns) = true:=by rw [TZ,Imm]; exact zjH ns
section
variable {K : wa} {H H' H2 : Hp} {Q : VK} {v w y : V} {p l : Addr} {vs : List V} {ns : List Int} {rss : List (List Rat)} {m : Int} {σ : St}
theorem zbA : ∀ {ns : List Int} {vs : List V},IsAll K H vs (ns.map PyData.int) ↔ vs = ns.map V.int
 | [],vs=>by rw [WE,za3]; rfl
 | n :: ns,vs=>by
   rw [wv,zaE,wv]
   constructor
   . rintro ⟨x,r,rfl,h,t⟩
     rw [zbf.mp h,zbA.mp t]
   . rintro rfl
     exact ⟨_,_,rfl,zbf.mpr rfl,zbA.mpr rfl⟩
theorem zct : Is K H v (TZ ns) ↔ ∃ a,v = .ref a /\ SqT K H a (ns.map V.int):=by
 unfold TZ;rw [zaI]
 constructor
 . rintro ⟨a,xs,e,h,t⟩
   rw [zbA.mp t] at h;exact ⟨a,e,h⟩
 . rintro ⟨a,e,h⟩
   exact ⟨a,_,e,h,zbA.mpr rfl⟩
theorem Is.thruI (h : Is K H v (TZ ns)) (s : zaM H H') : Is K H' v (TZ ns):=Is.keep s _ v (zgX ns) h
theorem zpr (h : Is K H v (TZ ns)) (q : Q (.int ns.length) H) : zb7 K [v] H Q:=zlN h (by rw [wd]; exact q)
theorem zb6 (h : Is K H v (TZ ns)) (h0 : 0 <= m) (h1 : m < ns.length) (q : Q (.int (ns.getD m.toNat 0)) H) : rIx K v (.int m) H Q:=by
 obtain ⟨a,rfl,hs⟩:=zct.mp h;obtain ⟨n,rfl⟩ : ∃ n : Nat,m = (n : Int):=⟨m.toNat,by omega⟩;refine zdI hs (zbP (j:=n) (v:=.int (ns.getD n 0)) ?_) q;rw [wE,wc,we (by omega)]
 rfl
end
def zoc (K : wa) : R2:=λ x y H Q=>zqR K x y H Q \/ ∃ a b ys,x = .ref a /\ y = .ref b /\ SqT K H a [] /\ SqT K H b ys /\ Q (.ref b) H
theorem zqz {X : Cx} : OpR X (binaryOp .Add) (zoc X.K):=by
 intro pins s σ H x y v u Q I rx ry h;rcases h with h | ⟨a,b,ys,rfl,rfl,ha,hb,q⟩
 . exact zpN pins s σ H x y v u Q I rx ry h
 . cases rx
   cases ry;obtain ⟨its,r1,p1,_⟩:=I.tuple ha;cases r1;obtain ⟨its2,r2,p2,_⟩:=I.tuple hb;obtain ⟨⟨cls,dd,data,sl⟩,ho,hc,n,hd⟩:=id p1;obtain ⟨⟨cls2,dd2,data2,sl2⟩,ho2,hc2,n2,hd2⟩:=id p2;simp only at hc hd hc2 hd2;subst hc hd hc2 hd2;exact concat_meets ⟨_,ho,rfl⟩ ⟨_,ho2,rfl⟩ noFill_tuple_add seq_tuple_add VC Vu (Vp _ _) (tuple_addW0 a b _ its2.toArray n n2 dd dd2 sl sl2 rfl) ⟨ho,ho2,⟨.ref b,H,I,rfl,q⟩⟩
theorem zob {K : wa} {H : Hp} {Q : VK} {v w : V} {ds es : List PyData} (h1 : Is K H v (.tuple ds)) (h2 : Is K H w (.tuple es)) (z : ds.length + es.length <= 1000) (q : ∀ u H',zag H H' -> Is K H' u (.tuple (ds ++ es)) -> Q u H') : zoc K v w H Q:=by
 obtain ⟨a,xs,rfl,ha,ta⟩:=zaI.mp h1;obtain ⟨b,ys,rfl,hb,tb⟩:=zaI.mp h2;have la:=ta.length;have lb:=tb.length;cases xs with
 | nil =>
   obtain rfl : ds = []:=Wy (by simpa using la.symm);exact .inr ⟨a,b,ys,rfl,rfl,ha,hb,q _ H (zag.refl _) h2⟩
 | cons x xs =>
   refine .inl ⟨a,b,x :: xs,ys,rfl,rfl,ha,hb,by simp,WD (zb4 (by omega)),λ hy=>?_,λ hy p hp=>?_⟩
   . obtain rfl : es = []:=Wy (by rw [hy] at lb; simpa using lb.symm)
     exact q _ H (zag.refl _) (by rw [vS]; exact h1)
   . exact q _ _ (zag.upd hp) (zaI.mpr ⟨p,_,rfl,.of zar,(IsAll.same (zag.upd hp) _ _ ta).append (IsAll.same (zag.upd hp) _ _ tb)⟩)
theorem Inv.turnedL {X : Cx} {pins : List (Addr × Obj)} {σ : St} {H : Hp} {s : Shared} {h' : Heap} {t' : Nat} {ch : List Addr} (I : Inv X pins σ H s) (k : ∀ b o,b ∉ ch -> s.heap.get? b = some o -> h'.get? b = some o) (hf : ∀ b ∈ ch,zdR X pins H b) : Inv X pins σ H { s with heap:=h',toks:=t' }:=by
 have nit : ∀ b u,H b = some u -> b ∉ ch:=λ b u e z=>by rw [(hf b z).1] at e; cases e
 refine I.step (g':=s.gens) (d':=s.drawn) (ch:=ch) (λ b hb=>⟨(hf b hb).2.2.2.1,(hf b hb).2.1,(hf b hb).2.2.2.2.1,(hf b hb).2.2.2.2.2⟩) (λ b o _ _ hc e _=>k b o hc e)
   (λ b o _ _ hc e _=>⟨o.slots,k b o hc e⟩) (λ _ _ _ _ n=>n) (λ b o hc e=>⟨o,k b o hc e⟩) (λ _ _ e=>e) (λ _ _ _ e=>e) (λ b ps e=>⟨#[],by rw [e]; simp⟩) (λ m hm=>?_) (λ b u e=>?_) I.bare
 . obtain ⟨o,es,ep,ho,r⟩:=hm
   exact ⟨o,es,ep,k _ o (λ z=>(hf _ z).2.1 rfl) ho,r⟩
 . refine (I.hok b u e).stay (λ c v hc q=>k c v ?_ q) (λ _ q=>q) λ _ _ q=>q
   rcases hc with z | z
   . rw [z]; exact nit b u e
   . exact nit c _ z
section
variable {prog : Program} {w : World} {A : Around} {E : Value -> Shared -> Prop} {s : Shared}
theorem zgn {it tu : Addr} {i : Nat} {its : Array Value} {x : Value} {Q : Value -> Shared -> Prop} (ei : s.heap.IsTupleIter it tu i) (et : s.heap.IsTuple tu its) (ex : its[i]? = some x)
   (fin : ∀ h',h'.IsTupleIter it tu (i + 1) -> vg it s.heap h' -> Q x { s with heap:=h' }) : wpAny (model prog w) A (vG (.ref it)) Q E s:=by
 obtain ⟨ob,eo,ec,ed⟩:=id ei;obtain ⟨ot,eot,_,nt,edt⟩:=et;unfold vG;refine wpAny_bind (wpAny_callSpecial?_slot (name:=Ww "__next__") ei.typeIs WK (wpAny_call_entry WK ei.typeIs V3 ?_ (V2 _)))
 show wpAny _ _ (field (.ref it) 0 >>= _) _ _ s; refine wpAny_bind (wpAny_field eo ed (x:=.ref tu) rfl ?_)
 show wpAny _ _ (if (Value.ref tu == Value.none) = true then _ else _) _ _ s; rw [if_neg (show ¬ ((Value.ref tu == Value.none) = true) from vo)]
 show wpAny _ _ (field (.ref it) 1 >>= _) _ _ s; refine wpAny_bind (wpAny_field eo ed (x:=.int i 0) rfl ?_)
 show wpAny _ _ (seqItems? (.ref tu) >>= _) _ _ s; refine wpAny_bind (wpAny_seqItems eot edt ?_)
 simp only [wG,ex];refine wpAny_bind (wpAny_setField eo ed (by simp) (wpAny_pure ⟨x,rfl,wpAny_pure (fin _ ?_ (vX ..))⟩));exact ⟨_,WG _ eo (Ve (W1 ed _)),(QK ..).trans ec,by rw [W1 ed]; simp [rawInt]⟩
theorem zdu {it tu : Addr} {i : Nat} {its : Array Value} {Q : Value -> Shared -> Prop} (hh : A.handled = none) (ei : s.heap.IsTupleIter it tu i) (et : s.heap.IsTuple tu its) (ex : its[i]? = none)
   (fin : ∀ h' e,Heap.ExtBut it s.heap h' -> (∃ o,h'.get? e = some o /\ o.cls = .type "StopIteration") -> E (.ref e) { s with heap:=h' }) : wpAny (model prog w) A (vG (.ref it)) Q E s:=by
 obtain ⟨ob,eo,ec,ed⟩:=id ei;obtain ⟨ot,eot,_,nt,edt⟩:=et;unfold vG;refine wpAny_bind (wpAny_callSpecial?_slot (name:=Ww "__next__") ei.typeIs WK (wpAny_call_entry WK ei.typeIs V3 ?_ (V2 _)))
 show wpAny _ _ (field (.ref it) 0 >>= _) _ _ s; refine wpAny_bind (wpAny_field eo ed (x:=.ref tu) rfl ?_)
 show wpAny _ _ (if (Value.ref tu == Value.none) = true then _ else _) _ _ s; rw [if_neg (show ¬ ((Value.ref tu == Value.none) = true) from vo)]
 show wpAny _ _ (field (.ref it) 1 >>= _) _ _ s; refine wpAny_bind (wpAny_field eo ed (x:=.int i 0) rfl ?_)
 show wpAny _ _ (seqItems? (.ref tu) >>= _) _ _ s; refine wpAny_bind (wpAny_seqItems eot edt ?_)
 simp only [wG,ex];refine wpAny_bind (wpAny_rule (wpAny_bind (wpAny_setField eo ed (by simp) ?_)))
 show wpAny _ _ (newExc (.type "StopIteration") [] >>= _) _ _ _; refine wpAny_bind ?_; simp only [newExc,newTuple]
 refine wpAny_bind (wpAny_newObj_type ?_ (by size_fits)); refine wpAny_bind (m:=firstArgMember _ _) (wpAny_of_eq (a:=Value.none) (by first | rfl | (simp only [firstArgMember]; rfl)) ?_);refine wpAny_newObj_type ?_ (by size_fits); simp only [raiseNew]; refine wpAny_bind (wpAny_handled ?_)
 first | rw [hh] | rw [show A.in1.handled = none from hh]
 exact wpAny_bind (wpAny_pure (wpAny_throw (fin _ _ (((vX ..).extBut.push _).push _) ⟨_,wj _ rfl,rfl⟩)))
theorem znt (hh : A.handled = none) (it tu : Addr) (hne : tu ≠ it) (its : Array Value) : Draws prog w A it [it,tu] its.size (λ i v=>its[i]? = some v) (λ i h=>h.IsTupleIter it tu i /\ h.IsTuple tu its) where
 live:=λ _ _ st=>let ⟨o,ho,_⟩:=st.1; ⟨o,ho⟩
 frame:=λ _ _ _ st hk=>⟨st.1.at λ o e=>hk it (by simp) o e,st.2.at λ o e=>hk tu (by simp) o e⟩
 item:=λ i s Q E hi st hQ=>zgn st.1 st.2 (x:=its[i]) (by simp [hi]) λ h' hit' hs'=>hQ _ h' s.toks (by simp [hi]) ⟨hit',st.2.extBut hs'.extBut hne⟩ hs'
 done:=λ s Q E st hE=>zdu hh st.1 st.2 (by simp) hE
open AutoSeq1 (wpAny_loadPart') in
theorem zjO (tu : Addr) (its : Array Value) (n : Nat) (dct : Option Addr) (sl : Array (Option Value)) : Meets (Builtin.«enumerate.__new__» ⟨[.type "enumerate",.ref tu],[]⟩) (λ _ R s=>s.heap.get? tu = some { cls:=.type "tuple",dict:=dct,data:=.seq its n,slots:=sl } /\
   R (.ok (.ret (.ref (s.heap.push { cls:=.type "tuple_iterator",data:=.fields #[.ref tu,.int 0 0] }).objs.size))) { s with heap:=(s.heap.push { cls:=.type "tuple_iterator",data:=.fields #[.ref tu,.int 0 0] }).push { cls:=.type "enumerate",data:=.fields #[.none,.bool false,.ref s.heap.objs.size,rawInt 0,.none,.none] } }) :=
 .of_wp λ prog w A R s h=>by
   obtain ⟨hp,g,d,tk,os⟩:=s;obtain ⟨et,h⟩:=h;have hsub:=sub_enumerate;have hT : Vf (W7 ⟨hp,g,d,tk,os⟩) tu its:=⟨_,et,rfl,n,rfl⟩
   wp_walk using wpAny_loadPart' et
   refine wpAny_stack_any λ st=>wpAny_pure ?_
   split
   . rename_i c _ _ _ _ _
     cases (c == Value.type "enumerate") <;> (wp_walk using wpAny_loadPart' et,wpAny_pyIter_tuple hT; exact ⟨_,rfl,h⟩)
   . wp_walk using wpAny_loadPart' et,wpAny_pyIter_tuple hT
     exact ⟨_,rfl,h⟩
theorem zlg {tu : Addr} {its : Array Value} {Q : Value -> Shared -> Prop} (hT : s.heap.IsTuple tu its) (fin : ∀ h',IsEnum h' (s.heap.objs.size + 1) s.heap.objs.size 0 .none -> h'.IsTupleIter s.heap.objs.size tu 0 -> (∀ b o,s.heap.get? b = some o -> h'.get? b = some o) -> Q (.ref (s.heap.objs.size + 1)) { s with heap:=h' }) :
   wpAny (model prog w) A (call (.type "enumerate") [.ref tu]) Q E s:=by
 obtain ⟨⟨c,dct,dt,sl⟩,et,hc,n,hd⟩:=hT;obtain rfl : c = .type "tuple":=hc;obtain rfl : dt = .seq its n:=hd;refine callType_new Vq (by decide) (F.typeCall_enumerate_1 _) (F.newCall_enumerate_1 _) (λ obj=>F.args_object_init_2 obj _) qM (zjO tu its n dct sl) ⟨et,?_⟩;have hz : (s.heap.push { cls:=.type "tuple_iterator",data:=.fields #[.ref tu,.int 0 0] }).objs.size = s.heap.objs.size + 1:=vn ..
 show _ /\ _
 rw [hz]
 have he : IsEnum ((s.heap.push { cls:=.type "tuple_iterator",data:=.fields #[.ref tu,.int 0 0] }).push { cls:=.type "enumerate",data:=.fields #[.none,.bool false,.ref s.heap.objs.size,rawInt 0,.none,.none] }) (s.heap.objs.size + 1) s.heap.objs.size 0 .none:=by
   rw [<- hz]; exact wj _ rfl
 exact ⟨⟨_,he,rfl⟩,fin _ he ⟨_,wb _ (wj _ rfl),rfl,rfl⟩ λ b o x=>wb _ (wb _ x)⟩
end
def Ite (K : wa) (a : Addr) : It :=
 ⟨λ i H=>∃ xs x,SqT K H a xs /\ xs[i]? = some x,λ i H y H'=>∃ t x,y = .ref t /\ H t = none /\ (∀ xs,SqT K H a xs -> xs[i]? = some x) /\ H' = upd H t (.tup [.int (i : Int),x]),λ i H=>∃ xs,SqT K H a xs /\ xs.length <= i⟩
theorem zlp {P : Program} {w : World} {K : wa} {elts : List Expr} {k1} {tpos : Pos} (a e it : Addr) (hne : e ≠ it) : zhu P w K (.Tuple elts k1 tpos) (Ite K a) [e,it] e (λ i h=>(∃ old,IsEnum h e it (i : Int) old) /\ h.IsTupleIter it a i) where
 mem:=by simp
 obj:=λ i h st b hb=>by
   obtain ⟨⟨old,he⟩,o,eo,c,d⟩:=st;rcases wm.mp hb with rfl | hb
   . exact ⟨_,he,λ v z=>by cases (show Data.fields _ = Data.cell v from z)⟩
   . rw [wz.mp hb]
     exact ⟨o,eo,λ v z=>by rw [d] at z; cases z⟩
 keep:=λ i h h' st k=>⟨let ⟨old,he⟩:=st.1; ⟨old,k e (by simp) _ he⟩,st.2.at λ o eo=>k it (by simp) o eo⟩
 item:=by
   intro X hP hw hK hc i pins s σ H E I hf st hg;subst hP hw hK;obtain ⟨⟨old,he⟩,st⟩:=st;obtain ⟨xs,x,hq,hx⟩:=hg;obtain ⟨its,rv,p,hz⟩:=I.tuple hq;obtain ⟨u,hu,ru⟩:=rv.get hx;have p' : s.heap.IsTuple a its.toArray:=p
   have hai : a ≠ it:=λ z=>by
     subst z;obtain ⟨o,e1,c1,_⟩:=st;obtain ⟨o',e2,c2,_⟩:=p';rw [e1] at e2; cases e2;rw [c1] at c2; exact absurd c2 (by decide)
   have hae : e ≠ a:=λ z=>by
     subst z;obtain ⟨o',e2,c2,_⟩:=p';rw [he] at e2; cases e2;exact absurd (show Value.type "enumerate" = Value.type "tuple" from c2) (by decide)
   have hlt : i < its.toArray.size:=by
     rcases wK i its.length with z | z
     . simpa using z
     . rw [wW z] at hu; cases hu
   refine wpAny_pyNext_enum_itemD (znt (A:=X.A.in1) (I.ok.hd hc) it a hai its.toArray) he ⟨st,p'⟩ hlt hne (by simp [hne,hae]) λ v h1 tk hv ho hs1 hT hsz hk=>?_
   have hvu : v = u:=by
     have hv' : its[i]? = some v:=by simpa using hv
     rw [hu] at hv'; exact (wH hv').symm
   subst hvu
   have I1 : Inv X pins σ (upd H s.heap.objs.size (.tup [.int (i : Int),x])) { s with heap:=s.heap.push { cls:=.type "tuple",data:=.seq ([.int (i : Int) tk,v] : List Value).toArray },toks:=tk + 1 } :=
     I.laid (λ b o q=>wb _ q) (wg _) (show za9 X.prog X.w _ _ _ (.tup [.int (i : Int),x]) from ⟨zdp (by simp),_,.cons ⟨_,rfl⟩ (.cons ru .nil),Vg _ _⟩)
   have lt1 : ∀ b ∈ [e,it],b < s.heap.objs.size:=λ b hb=>by
     rcases wm.mp hb with rfl | hb
     . exact wk he
     . rw [wz.mp hb]
       obtain ⟨o,eo,_⟩:=st;exact wk eo
   have hf1 : ∀ b ∈ [e,it],zdR X pins (upd H s.heap.objs.size (.tup [.int (i : Int),x])) b:=λ b hb=>⟨by rw [zbj (wF (lt1 b hb))]; exact (hf b hb).1,(hf b hb).2⟩
   refine ⟨_,rfl,wpAny_letOwnedTupleGo_enum ho λ h2 he2 hs2=>?_⟩;refine ⟨.ref s.heap.objs.size,_,Inv.turnedL (s:={ s with heap:=s.heap.push { cls:=.type "tuple",data:=.seq ([.int (i : Int) tk,v] : List Value).toArray },toks:=tk + 1 }) (ch:=[e,it]) I1 (λ b o hb q=>?_) hf1,rfl,⟨_,x,rfl,I.hok.fresh (wg _),λ ys hy=>by rw [I.tuple_inj hy hq]; exact hx,rfl⟩,⟨⟨_,by simpa using he2⟩,hs1.1.at λ o eo=>(hs2.2 it (vH hne)).trans eo⟩,λ b hb=>(hf1 b hb).1⟩;have hbe : b ≠ e:=λ z=>hb (by simp [z])
   have hbi : b ≠ it:=λ z=>hb (by simp [z])
   refine (hs2.2 b hbe).trans ?_
   by_cases hb2 : b = s.heap.objs.size
   . subst hb2
     rw [wj _ rfl] at q;cases q;exact hT
   . exact hk b o hbe hbi (by rw [Vz _ _ _ hb2] at q; exact q)
 done:=by
   intro X hP hw hK hc i pins s σ H E I hf st hg;subst hP hw hK;obtain ⟨⟨old,he⟩,st⟩:=st;obtain ⟨xs,hq,hx⟩:=hg;obtain ⟨its,rv,p,hz⟩:=I.tuple hq;have p' : s.heap.IsTuple a its.toArray:=p
   have hai : a ≠ it:=λ z=>by
     subst z;obtain ⟨o,e1,c1,_⟩:=st;obtain ⟨o',e2,c2,_⟩:=p';rw [e1] at e2; cases e2;rw [c1] at c2; exact absurd c2 (by decide)
   have hl:=rv.length;have hT : s.TypeIs (.ref e) "enumerate":=⟨_,he,rfl⟩;unfold pyNext;refine wpAny_bind (wpAny_attempt (wpAny_callSpecial?_slot (name:=Ww "__next__") hT Wt (wpAny_call_entry Wt hT VE ?_ (Vv _))))
   show wpAny _ _ (field (.ref e) 2 >>= _) _ _ _; refine wpAny_bind (wpAny_field he rfl (x:=.ref it) rfl ?_)
   refine wpAny_bind (zdu (A:=X.A.in1) (I.ok.hd hc) st p' (by simp; omega) λ h' y he' hx'=>?_);obtain ⟨o,ho,hcl⟩:=hx';refine wpAny_bind (wpAny_isInstance (T:="StopIteration") (b:=true) ⟨o,ho,hcl⟩ isSubtype_stop (wpAny_pure ⟨rfl,?_⟩));obtain ⟨f0,f1,f2,f3,f4,f5⟩:=hf it (by simp);exact I.turned (t':=s.toks) (λ b o hb e=>he' b o hb e) f0 f1 f3 f4 f5
 self:=λ _ _ _ _ _ st h=>let ⟨_,he⟩:=st.1; wpAny_pyIter_enum he h
def zln (K : wa) (ta : TA) : TI:=λ σ H R=>ta σ H λ vs H1=>∃ a,vs = [.ref a] /\ (∃ xs,SqT K H1 a xs) /\ R (Ite K a) H1
theorem zea : bootBuiltins "enumerate" = some (.type "enumerate"):=by decide +kernel
theorem zj1 {X : Cx} {elts : List Expr} {k1} {tpos p pos : Pos} {l : Expr} {ta : TA} (hg : Gl X "enumerate") (hm : X.mg "enumerate" = none) (ha : PA X [l] ta) (hs : starEach [l] X.env = [(false,eval l X.env)]:=by rfl) :
   PI X (.Tuple elts k1 tpos) (.Call (.Name "enumerate" p) [l] [] pos) (zln X.K ta):=by
 intro pins s σ H R I h;refine Call_ (zdi I hg hm zea (vC (thn (ha pos pins s σ H _ I h) λ us s1 ⟨vs,H1,I1,r1,q1⟩=>?_) hs rfl));obtain ⟨a,rfl,⟨xs,hq⟩,q⟩:=q1;obtain ⟨u,rfl,ru⟩:=zdE r1;cases ru;obtain ⟨its,rv,p,hz⟩:=I1.tuple hq;refine zlg (show s1.heap.IsTuple a its.toArray from p) λ h' he hit kp=>?_
 refine wpAny_pyIter_enum he ?_;refine ⟨s1.heap.objs.size + 1,[s1.heap.objs.size + 1,s1.heap.objs.size],_,_,H1,rfl,I1.kept (t':=s1.toks) kp,zlp a (s1.heap.objs.size + 1) s1.heap.objs.size (qm _),⟨⟨_,he⟩,hit⟩,λ b hb=>?_,q⟩
 have hb' : s1.heap.objs.size <= b:=by
   rcases wm.mp hb with rfl | hb
   . omega
   . rw [wz.mp hb]; exact wg _
 exact I1.fpOk hb' (I1.hok.fresh hb')
def ztc (K : wa) (g : TG) (tb : TS) (D : zcc) (σ : St) (vs : List V) (H1 : Hp) : Prop:=∃ a,vs = [.ref a] /\ (∃ xs,SqT K H1 a xs) /\
 ∃ W : Nat -> Nat -> St -> Hp -> Prop,(∃ m,W 0 m σ H1) /\ ∀ i m σ H,W i m σ H ->
   ((Ite K a).stop i H /\ D.nx σ H) \/ ((Ite K a).go i H /\ ∃ M : St -> Hp -> Prop,(∀ σ' H',M σ' H' -> ∃ m',m' < m /\ W (i + 1) m' σ' H') /\ ∀ x H',(Ite K a).yld i H x H' -> g x σ H' λ σ2 H2=>tb { D with nx:=M,ct:=M,bk:=D.nx } σ2 H2)
section
variable {K : wa} {ta : TA} {g : TG} {tb : TS} {D : zcc} {σ : St} {H : Hp} {a : Addr} {xs : List V}
theorem zp7 (h : ta σ H λ vs H1=>ztc K g tb D σ vs H1) : zjQ (zln K ta) g tb D σ H:=h
theorem zm6 (hx : SqT K H a xs) (Pv : Nat -> St -> Hp -> Prop) (h0 : Pv 0 σ H) (hl : ∀ i σ H,i <= xs.length -> Pv i σ H -> SqT K H a xs)
   (hs : ∀ i x σ H t H',xs[i]? = some x -> Pv i σ H -> H t = none -> zag H H' -> H' t = some (.tup [.int (i : Int),x]) -> g (.ref t) σ H' λ σ2 H2=>tb { D with nx:=Pv (i + 1),ct:=Pv (i + 1),bk:=D.nx } σ2 H2) (hd : ∀ σ H,Pv xs.length σ H -> D.nx σ H) : ztc K g tb D σ [.ref a] H:=by
 refine ⟨a,rfl,⟨xs,hx⟩,λ i m σ H=>i + m = xs.length /\ Pv i σ H,⟨xs.length,by omega,h0⟩,?_⟩;rintro i m σ H ⟨him,hp⟩;have hq:=hl i σ H (by omega) hp
 by_cases hm : m = 0
 . have e : i = xs.length:=by omega
   subst e;exact .inl ⟨⟨xs,hq,wg _⟩,hd _ _ hp⟩
 . have hi : i < xs.length:=by omega
   refine .inr ⟨⟨xs,xs[i],hq,by simp [hi]⟩,λ σ' H'=>Pv (i + 1) σ' H',λ σ' H' h=>⟨m - 1,by omega,by omega,h⟩,?_⟩;rintro y H' ⟨t,x,rfl,hn,hx',rfl⟩;exact hs i x σ H t _ (hx' xs hq) hp hn (zag.upd hn) zar
end
structure ZA (z TI TO i1 i2 : Addr) (f1 f2 : List Addr) : Prop where
 a1 : TI ≠ z
 a2 : TO ≠ z
 a3 : i1 ≠ z
 a4 : i2 ≠ z
 a5 : TI ≠ TO
 a6 : TI ≠ i1
 a7 : TI ≠ i2
 a8 : TO ≠ i1
 a9 : TO ≠ i2
 b0 : i1 ≠ i2
 b1 : z ∉ f1
 b2 : z ∉ f2
 b3 : TO ∉ f1
 b4 : TO ∉ f2
 b5 : i1 ∉ f2
 b6 : i2 ∉ f1
section
variable {prog : Program} {w : World} {A : Around} {E : Value -> Shared -> Prop} {s : Shared} {z TI TO i1 i2 : Addr} {f1 f2 : List Addr} {n1 n2 k : Nat} {P1 P2 : Nat -> Value -> Prop} {S1 S2 : Nat -> Heap -> Prop} {a b : Value}
theorem ztL {Q : Value -> Shared -> Prop} (D1 : Draws prog w A i1 f1 n1 P1 S1) (D2 : Draws prog w A i2 f2 n2 P2 S2) (ap : ZA z TI TO i1 i2 f1 f2) (hz : IsZip s.heap z TI TO .none) (hi : IsPair s.heap TI (.ref i1) (.ref i2)) (ho : IsPair s.heap TO a b)
   (h1 : S1 k s.heap) (h2 : S2 k s.heap) (l1 : k < n1) (l2 : k < n2)
   (fin : ∀ x y h' tk,P1 k x -> P2 k y -> IsZip h' z TI TO (rawInt s.heap.objs.size) -> IsPair h' TO x y -> S1 (k + 1) h' -> S2 (k + 1) h' -> IsPair h' s.heap.objs.size x y ->
     (∀ c o,c ≠ z -> c ≠ TO -> c ≠ i1 -> c ≠ i2 -> s.heap.get? c = some o -> h'.get? c = some o) -> Q (.ref s.heap.objs.size) { s with heap:=h',toks:=tk }) :
   wpAny (model prog w) A (Builtin.«zip.__next__» ⟨[.ref z],[]⟩) (λ r s'=>∃ v,r = .done (.ret v) /\ Q v s') E s:=by
 show wpAny _ _ (field (.ref z) 2 >>= _) _ _ _; refine wpAny_bind (wpAny_field hz rfl (x:=.bool false) rfl ?_)
 show wpAny _ _ (field (.ref z) 3 >>= _) _ _ _; refine wpAny_bind (wpAny_field hz rfl (x:=.ref TI) rfl ?_)
 refine wpAny_bind (wpAny_seqItems hi rfl ?_); show wpAny _ _ (Wh (.ref z) >>= _) _ _ _
 refine wpAny_bind ?_; unfold Wh;refine wpAny_bind (wpAny_field hz rfl (x:=.none) rfl (wpAny_pure ?_)); simp only [if_true];refine wpAny_bind (wpAny_rule ?_); refine wpAny_bind (wpAny_field hz rfl (x:=.ref TO) rfl ?_);refine wpAny_bind (wpAny_setField_rec hz (by simp) λ g1 zz1 sb1=>?_);have zz1 : IsZip g1 z TI TO .ellipsis:=zz1;refine wpAny_bind ?_; simp only [Q5,xn,qz,xA];refine wpAny_bind (wpAny_bind (wpAny_onRaise ?_)); show wpAny _ _ (vG (.ref i1) >>= _) _ _ _
 have h1a : S1 k g1:=D1.frame _ _ _ h1 λ c hc o e=>sb1.extBut c o (λ q=>ap.b1 (q ▸ hc)) e
 have h2a : S2 k g1:=D2.frame _ _ _ h2 λ c hc o e=>sb1.extBut c o (λ q=>ap.b2 (q ▸ hc)) e
 refine wpAny_bind (D1.item k _ _ _ l1 h1a λ x g2 t2 px h1b sb2=>wpAny_pure ?_);have ho2 : IsPair g2 TO a b:=sb2.extBut _ _ ap.a8 (sb1.extBut _ _ ap.a2 ho);have h2b : S2 k g2:=D2.frame _ _ _ h2a λ c hc o e=>sb2.extBut c o (λ q=>ap.b5 (q ▸ hc)) e
 refine wpAny_bind (wpAny_seqItems ho2 rfl ?_); refine wpAny_bind (wpAny_updateSeq_pair ho2 λ g3 ho3 sb3=>?_);have ho3 : IsPair g3 TO x b:=ho3;have sb3 : vg TO g2 g3:=sb3;have h1c : S1 (k + 1) g3:=D1.frame _ _ _ h1b λ c hc o e=>sb3.extBut c o (λ q=>ap.b3 (q ▸ hc)) e
 have h2c : S2 k g3:=D2.frame _ _ _ h2b λ c hc o e=>sb3.extBut c o (λ q=>ap.b4 (q ▸ hc)) e
 refine wpAny_bind (wpAny_letGo (wpAny_pure ?_)); refine wpAny_bind (wpAny_bind (wpAny_onRaise ?_))
 show wpAny _ _ (vG (.ref i2) >>= _) _ _ _; refine wpAny_bind (D2.item k _ _ _ l2 h2c λ y g4 t4 py h2d sb4=>wpAny_pure ?_)
 have sb4 : vg i2 g3 g4:=sb4;have ho4 : IsPair g4 TO x b:=sb4.extBut _ _ ap.a9 ho3;have h1d : S1 (k + 1) g4:=D1.frame _ _ _ h1c λ c hc o e=>sb4.extBut c o (λ q=>ap.b6 (q ▸ hc)) e
 refine wpAny_bind (wpAny_seqItems ho4 rfl ?_); refine wpAny_bind (wpAny_updateSeq_pair ho4 λ g5 ho5 sb5=>?_);have ho5 : IsPair g5 TO x y:=ho5;have sb5 : vg TO g4 g5:=sb5;have h1e : S1 (k + 1) g5:=D1.frame _ _ _ h1d λ c hc o e=>sb5.extBut c o (λ q=>ap.b3 (q ▸ hc)) e
 have h2e : S2 (k + 1) g5:=D2.frame _ _ _ h2d λ c hc o e=>sb5.extBut c o (λ q=>ap.b4 (q ▸ hc)) e
 refine wpAny_bind (wpAny_letGo (wpAny_pure (wpAny_pure ?_))); refine wpAny_bind (wpAny_seqItems ho5 rfl ?_); refine wpAny_bind (wpAny_newTuple ?_);have sb2 : vg i1 g1 g2:=sb2;have sb1 : vg z s.heap g1:=sb1;have hsz : g5.objs.size = s.heap.objs.size:=by rw [sb5.1,sb4.1,sb3.1,sb2.1,sb1.1]
 have zz5 : IsZip g5 z TI TO .ellipsis:=sb5.extBut _ _ ap.a2.symm (sb4.extBut _ _ ap.a4.symm (sb3.extBut _ _ ap.a2.symm (sb2.extBut _ _ ap.a3.symm zz1)));have kept : ∀ c o,c ≠ z -> c ≠ TO -> c ≠ i1 -> c ≠ i2 -> s.heap.get? c = some o -> g5.get? c = some o:=λ c o c1 c2 c3 c4 e=>sb5.extBut _ _ c2 (sb4.extBut _ _ c4 (sb3.extBut _ _ c2 (sb2.extBut _ _ c3 (sb1.extBut _ _ c1 e))))
 have zlt : z < g5.objs.size:=wk zz5
 show wpAny _ _ (Vr (.ref z) (.ref g5.objs.size) >>= _) _ _ _; refine wpAny_bind ?_; unfold Vr
 have zz6 : IsZip (g5.push { cls:=.type "tuple",data:=.seq #[x,y] }) z TI TO .ellipsis:=wb _ zz5;refine wpAny_bind (wpAny_setField_rec zz6 (by simp) λ g7 zz7 sb7=>?_);have zz7 : IsZip g7 z TI TO (rawInt g5.objs.size):=zz7;refine wpAny_setField_rec zz7 (by simp) λ g8 zz8 sb8=>?_
 have zz8 : IsZip g8 z TI TO (rawInt g5.objs.size):=zz8;have sb7 : vg z (g5.push { cls:=.type "tuple",data:=.seq #[x,y] }) g7:=sb7;have sb8 : vg z g7 g8:=sb8;have up : ∀ c o,c ≠ z -> g5.get? c = some o -> g8.get? c = some o:=λ c o c1 e=>sb8.extBut _ _ c1 (sb7.extBut _ _ c1 (wb _ e))
 have new8 : IsPair g8 g5.objs.size x y:=sb8.extBut _ _ (vi zlt) (sb7.extBut _ _ (vi zlt) (wj _ rfl));rw [hsz] at zz8 new8;refine wpAny_pure ⟨_,rfl,?_⟩
 show Q (.ref g5.objs.size) _
 rw [hsz];exact fin x y g8 _ px py zz8 (up _ _ ap.a2 ho5) (D1.frame _ _ _ h1e λ c hc o e=>up c o (λ q=>ap.b1 (q ▸ hc)) e) (D2.frame _ _ _ h2e λ c hc o e=>up c o (λ q=>ap.b2 (q ▸ hc)) e) new8 λ c o c1 c2 c3 c4 e=>up c o c1 (kept c o c1 c2 c3 c4 e)
theorem ztI {Q : Fin -> Shared -> Prop} (D1 : Draws prog w A i1 f1 n1 P1 S1) (D2 : Draws prog w A i2 f2 n2 P2 S2) (ap : ZA z TI TO i1 i2 f1 f2) (hz : IsZip s.heap z TI TO .none) (hi : IsPair s.heap TI (.ref i1) (.ref i2)) (ho : IsPair s.heap TO a b)
   (h1 : S1 k s.heap) (h2 : S2 k s.heap) (hk : k = n1 \/ (k < n1 /\ k = n2))
   (fin : ∀ h' e tk,(∀ c o,c ≠ z -> c ≠ TO -> c ≠ i1 -> c ≠ i2 -> s.heap.get? c = some o -> h'.get? c = some o) -> (∃ o,h'.get? e = some o /\ o.cls = .type "StopIteration") -> E (.ref e) { s with heap:=h',toks:=tk }) :
   wpAny (model prog w) A (Builtin.«zip.__next__» ⟨[.ref z],[]⟩) Q E s:=by
 show wpAny _ _ (field (.ref z) 2 >>= _) _ _ _; refine wpAny_bind (wpAny_field hz rfl (x:=.bool false) rfl ?_)
 show wpAny _ _ (field (.ref z) 3 >>= _) _ _ _; refine wpAny_bind (wpAny_field hz rfl (x:=.ref TI) rfl ?_)
 refine wpAny_bind (wpAny_seqItems hi rfl ?_); show wpAny _ _ (Wh (.ref z) >>= _) _ _ _
 refine wpAny_bind ?_; unfold Wh;refine wpAny_bind (wpAny_field hz rfl (x:=.none) rfl (wpAny_pure ?_)); simp only [if_true];refine wpAny_bind (wpAny_rule ?_); refine wpAny_bind (wpAny_field hz rfl (x:=.ref TO) rfl ?_);refine wpAny_bind (wpAny_setField_rec hz (by simp) λ g1 zz1 sb1=>?_);have zz1 : IsZip g1 z TI TO .ellipsis:=zz1;have sb1 : vg z s.heap g1:=sb1;refine wpAny_bind ?_; simp only [Q5,xn,qz,xA];refine wpAny_bind (wpAny_bind (wpAny_onRaise ?_)); show wpAny _ _ (vG (.ref i1) >>= _) _ _ _
 have h1a : S1 k g1:=D1.frame _ _ _ h1 λ c hc o e=>sb1.extBut c o (λ q=>ap.b1 (q ▸ hc)) e
 have h2a : S2 k g1:=D2.frame _ _ _ h2 λ c hc o e=>sb1.extBut c o (λ q=>ap.b2 (q ▸ hc)) e
 rcases hk with rfl | ⟨l1,rfl⟩
 . refine wpAny_bind (D1.done _ _ _ h1a λ g2 e sb2 he=>?_)
   obtain ⟨oe,hoe,hce⟩:=he;have zz2 : IsZip g2 z TI TO .ellipsis:=sb2 _ _ ap.a3.symm zz1;have hez : e ≠ z:=λ q=>by subst q; rw [zz2] at hoe; cases hoe; simp at hce
   exact wpAny_setField_rec zz2 (by simp) λ g3 _ sb3=>fin g3 e _ (λ c o c1 _ c3 _ q=>sb3.extBut _ _ c1 (sb2 _ _ c3 (sb1.extBut _ _ c1 q))) ⟨oe,sb3.extBut _ _ hez hoe,hce⟩
 . refine wpAny_bind (D1.item k _ _ _ l1 h1a λ x g2 t2 px h1b sb2=>wpAny_pure ?_)
   have sb2 : vg i1 g1 g2:=sb2;have ho2 : IsPair g2 TO a b:=sb2.extBut _ _ ap.a8 (sb1.extBut _ _ ap.a2 ho);have h2b : S2 k g2:=D2.frame _ _ _ h2a λ c hc o e=>sb2.extBut c o (λ q=>ap.b5 (q ▸ hc)) e
   refine wpAny_bind (wpAny_seqItems ho2 rfl ?_); refine wpAny_bind (wpAny_updateSeq_pair ho2 λ g3 ho3 sb3=>?_);have sb3 : vg TO g2 g3:=sb3;have h2c : S2 k g3:=D2.frame _ _ _ h2b λ c hc o e=>sb3.extBut c o (λ q=>ap.b4 (q ▸ hc)) e
   refine wpAny_bind (wpAny_letGo (wpAny_pure ?_)); refine wpAny_bind (wpAny_bind (wpAny_onRaise ?_))
   show wpAny _ _ (vG (.ref i2) >>= _) _ _ _; refine wpAny_bind (D2.done _ _ _ h2c λ g4 e sb4 he=>?_)
   obtain ⟨oe,hoe,hce⟩:=he;have zz4 : IsZip g4 z TI TO .ellipsis:=sb4 _ _ ap.a4.symm (sb3.extBut _ _ ap.a2.symm (sb2.extBut _ _ ap.a3.symm zz1));have hez : e ≠ z:=λ q=>by subst q; rw [zz4] at hoe; cases hoe; simp at hce
   exact wpAny_setField_rec zz4 (by simp) λ g5 _ sb5=>fin g5 e _ (λ c o c1 c2 c3 c4 q=>sb5.extBut _ _ c1 (sb4 _ _ c4 (sb3.extBut _ _ c2 (sb2.extBut _ _ c3 (sb1.extBut _ _ c1 q))))) ⟨oe,sb5.extBut _ _ hez hoe,hce⟩
end
def SqK (t : Bool) (K : wa) (H : Hp) (a : Addr) (xs : List V) : Prop:=match t with
 | true=>SqT K H a xs
 | false=>SqL K H a xs
def ze1 (t : Bool) (h : Heap) (it a : Addr) (i : Nat) : Prop:=match t with
 | true=>h.IsTupleIter it a i
 | false=>h.IsListIter it a i
def zs8 (t : Bool) (h : Heap) (a : Addr) (its : Array Value) : Prop:=match t with
 | true=>h.IsTuple a its
 | false=>h.IsList a its
theorem ziJ {prog : Program} {w : World} {A : Around} (t : Bool) (hh : A.handled = none) (it a : Addr) (hne : a ≠ it) (its : Array Value) : Draws prog w A it [it,a] its.size (λ i v=>its[i]? = some v) (λ i h=>ze1 t h it a i /\ zs8 t h a its):=by
 cases t
 . exact Draws.list hh it a hne its
 . exact znt hh it a hne its
theorem Inv.seqK {X : Cx} {pins : List (Addr × Obj)} {σ : L2.St} {H : Hp} {s : Shared} {t : Bool} {a : Addr} {xs : List V} (I : Inv X pins σ H s) (h : SqK t X.K H a xs) : ∃ its : List Value,zaG xs its /\ zs8 t s.heap a its.toArray:=by
 cases t
 . obtain ⟨its,r,p,_⟩:=I.list h
   exact ⟨its,r,p.isList⟩
 . obtain ⟨its,r,p,_⟩:=I.tuple h
   exact ⟨its,r,p⟩
theorem Inv.seqK_inj {X : Cx} {pins : List (Addr × Obj)} {σ : L2.St} {H : Hp} {s : Shared} {t : Bool} {a : Addr} {xs ys : List V} (I : Inv X pins σ H s) (h : SqK t X.K H a xs) (k : SqK t X.K H a ys) : xs = ys:=by
 cases t
 . exact I.list_inj h k
 . exact I.tuple_inj h k
theorem ze1.obj {t : Bool} {h : Heap} {it a : Addr} {i : Nat} (st : ze1 t h it a i) : ∃ o,h.get? it = some o /\ ∀ v,o.data ≠ .cell v:=by
 cases t
 . obtain ⟨o,e,_,d⟩:=st
   exact ⟨o,e,λ v z=>by rw [d] at z; cases z⟩
 . obtain ⟨o,e,_,d⟩:=st
   exact ⟨o,e,λ v z=>by rw [d] at z; cases z⟩
theorem ze1.at {t : Bool} {h h' : Heap} {it a : Addr} {i : Nat} (st : ze1 t h it a i) (k : ∀ o,h.get? it = some o -> h'.get? it = some o) : ze1 t h' it a i:=by
 cases t
 . exact Heap.IsListIter.at st k
 . exact Heap.IsTupleIter.at st k
def Itz (t u : Bool) (K : wa) (a b : Addr) : It :=
 ⟨λ i H=>∃ xs x ys y,SqK t K H a xs /\ xs[i]? = some x /\ SqK u K H b ys /\ ys[i]? = some y,
  λ i H v H'=>∃ (c : Addr) (x y : V),v = .ref c /\ H c = none /\ (∀ xs,SqK t K H a xs -> xs[i]? = some x) /\ (∀ ys,SqK u K H b ys -> ys[i]? = some y) /\ H' = upd H c (.tup [x,y]),
  λ i H=>∃ xs ys,SqK t K H a xs /\ SqK u K H b ys /\ (xs.length = i \/ (i < xs.length /\ ys.length = i))⟩
theorem zo8 {P : Program} {w : World} {K : wa} {elts : List Expr} {k1} {tpos : Pos} {t u : Bool} (a b z TI TO i1 i2 : Addr) (ap : ZA z TI TO i1 i2 [i1,a] [i2,b]) (na : a ≠ i1) (nb : b ≠ i2) :
   zhu P w K (.Tuple elts k1 tpos) (Itz t u K a b) [z,TI,TO,i1,i2] z (λ i h=>IsZip h z TI TO .none /\ IsPair h TI (.ref i1) (.ref i2) /\ (∃ p q,IsPair h TO p q) /\ ze1 t h i1 a i /\ ze1 u h i2 b i) where
 mem:=by simp
 obj:=λ i h st c hc=>by
   obtain ⟨hz,hi,⟨p,q,ho⟩,s1,s2⟩:=st;simp only [wm,vI,or_false] at hc;rcases hc with rfl | rfl | rfl | rfl | rfl
   . exact ⟨_,hz,λ v z=>by cases (show Data.fields _ = Data.cell v from z)⟩
   . exact ⟨_,hi,λ v z=>by cases (show Data.seq _ _ = Data.cell v from z)⟩
   . exact ⟨_,ho,λ v z=>by cases (show Data.seq _ _ = Data.cell v from z)⟩
   . exact s1.obj
   . exact s2.obj
 keep:=λ i h h' st k=>by
   obtain ⟨hz,hi,⟨p,q,ho⟩,s1,s2⟩:=st;exact ⟨k z (by simp) _ hz,k TI (by simp) _ hi,⟨p,q,k TO (by simp) _ ho⟩,s1.at λ o e=>k i1 (by simp) o e,s2.at λ o e=>k i2 (by simp) o e⟩
 item:=by
   intro X hP hw hK hc i pins s σ H E I hf st hg;subst hP hw hK;obtain ⟨hz,hi,⟨p,q,ho⟩,s1,s2⟩:=st;obtain ⟨xs,x,ys,y,hq1,hx,hq2,hy⟩:=hg;obtain ⟨its,r1,p1⟩:=I.seqK hq1;obtain ⟨jts,r2,p2⟩:=I.seqK hq2;obtain ⟨ux,hux,rux⟩:=r1.get hx;obtain ⟨uy,huy,ruy⟩:=r2.get hy
   have lt1 : i < its.toArray.size:=by
     rcases wK i its.length with q | q
     . simpa using q
     . rw [wW q] at hux; cases hux
   have lt2 : i < jts.toArray.size:=by
     rcases wK i jts.length with q | q
     . simpa using q
     . rw [wW q] at huy; cases huy
   have hT : s.TypeIs (.ref z) "zip":=⟨_,hz,rfl⟩;unfold pyNext
   refine wpAny_bind (wpAny_attempt (wpAny_callSpecial?_slot (name:=Ww "__next__") hT VS (wpAny_call_entry VS hT Q6
     (ztL (ziJ (A:=X.A.in1) t (I.ok.hd hc) i1 a na its.toArray) (ziJ (A:=X.A.in1) u (I.ok.hd hc) i2 b nb jts.toArray) ap hz hi ho ⟨s1,p1⟩ ⟨s2,p2⟩ lt1 lt2 λ v1 v2 h1 tk e1 e2 hz1 ho1 st1 st2 hT1 hk=>wpAny_pure ?_) (QL _))))
   have ev1 : v1 = ux:=by
     have e1' : its[i]? = some v1:=by simpa using e1
     rw [hux] at e1'; exact (wH e1').symm
   have ev2 : v2 = uy:=by
     have e2' : jts[i]? = some v2:=by simpa using e2
     rw [huy] at e2'; exact (wH e2').symm
   subst ev1 ev2
   have I1 : Inv X pins σ (upd H s.heap.objs.size (.tup [x,y])) { s with heap:=s.heap.push { cls:=.type "tuple",data:=.seq ([v1,v2] : List Value).toArray },toks:=tk } :=
     I.laid (λ c o q=>wb _ q) (wg _) (show za9 X.prog X.w _ _ _ (.tup [x,y]) from ⟨zdp (by simp),_,.cons rux (.cons ruy .nil),Vg _ _⟩)
   have ltf : ∀ c ∈ [z,TI,TO,i1,i2],c < s.heap.objs.size:=λ c hc=>by
     simp only [wm,vI,or_false] at hc;rcases hc with rfl | rfl | rfl | rfl | rfl
     . exact wk hz
     . exact wk hi
     . exact wk ho
     . obtain ⟨o,e,_⟩:=s1.obj; exact wk e
     . obtain ⟨o,e,_⟩:=s2.obj; exact wk e
   have hf1 : ∀ c ∈ [z,TI,TO,i1,i2],zdR X pins (upd H s.heap.objs.size (.tup [x,y])) c:=λ c hc=>⟨by rw [zbj (wF (ltf c hc))]; exact (hf c hc).1,(hf c hc).2⟩
   refine ⟨_,rfl,wpAny_letOwnedTupleGo_zip hz1 λ h2 hz2 hs2=>?_⟩;have hs2 : vg z h1 h2:=hs2
   refine ⟨.ref s.heap.objs.size,_,Inv.turnedL (s:={ s with heap:=s.heap.push { cls:=.type "tuple",data:=.seq ([v1,v2] : List Value).toArray },toks:=tk }) (ch:=[z,TI,TO,i1,i2]) I1 (λ c o hc q=>?_) hf1,rfl,
     ⟨_,x,y,rfl,I.hok.fresh (wg _),λ zs hzs=>by rw [I.seqK_inj hzs hq1]; exact hx,λ zs hzs=>by rw [I.seqK_inj hzs hq2]; exact hy,rfl⟩,
     ⟨hz2,hs2.extBut _ _ ap.a1 (hk _ _ ap.a1 ap.a5 ap.a6 ap.a7 hi),⟨_,_,hs2.extBut _ _ ap.a2 ho1⟩,st1.1.at λ o e=>hs2.extBut _ _ ap.a3 e,st2.1.at λ o e=>hs2.extBut _ _ ap.a4 e⟩,λ c hc=>(hf1 c hc).1⟩
   have c1 : c ≠ z:=λ q=>hc (by simp [q])
   have c2 : c ≠ TO:=λ q=>hc (by simp [q])
   have c3 : c ≠ i1:=λ q=>hc (by simp [q])
   have c4 : c ≠ i2:=λ q=>hc (by simp [q])
   refine hs2.extBut _ _ c1 ?_
   by_cases hcs : c = s.heap.objs.size
   . subst hcs
     rw [wj _ rfl] at q;cases q;exact hT1
   . exact hk c o c1 c2 c3 c4 (by rw [Vz _ _ _ hcs] at q; exact q)
 done:=by
   intro X hP hw hK hc i pins s σ H E I hf st hg;subst hP hw hK;obtain ⟨hz,hi,⟨p,q,ho⟩,s1,s2⟩:=st;obtain ⟨xs,ys,hq1,hq2,hend⟩:=hg;obtain ⟨its,r1,p1⟩:=I.seqK hq1;obtain ⟨jts,r2,p2⟩:=I.seqK hq2;have e1:=r1.length;have e2:=r2.length;have hT : s.TypeIs (.ref z) "zip":=⟨_,hz,rfl⟩;unfold pyNext
   refine wpAny_bind (wpAny_attempt (wpAny_callSpecial?_slot (name:=Ww "__next__") hT VS (wpAny_call_entry VS hT Q6
     (ztI (k:=i) (ziJ (A:=X.A.in1) t (I.ok.hd hc) i1 a na its.toArray) (ziJ (A:=X.A.in1) u (I.ok.hd hc) i2 b nb jts.toArray) ap hz hi ho ⟨s1,p1⟩ ⟨s2,p2⟩ (by simp only [wq]; omega) λ h' y tk hk hx'=>?_) (QL _))))
   obtain ⟨o,ho',hcl⟩:=hx';refine wpAny_bind (wpAny_isInstance (T:="StopIteration") (b:=true) ⟨o,ho',hcl⟩ isSubtype_stop (wpAny_pure ⟨rfl,?_⟩));exact Inv.turnedL (ch:=[z,TI,TO,i1,i2]) I (λ c o hc e=>hk c o (λ q=>hc (by simp [q])) (λ q=>hc (by simp [q])) (λ q=>hc (by simp [q])) (λ q=>hc (by simp [q])) e) hf
 self:=λ _ _ _ _ _ st h=>wpAny_pyIter_zip st.1 h
abbrev zT1 (h : Heap) (a : Addr) : Heap:=h.push { cls:=.type "tuple_iterator",data:=.fields #[.ref a,.int 0 0] }
abbrev zT2 (h : Heap) (a b : Addr) : Heap:=(zT1 h a).push { cls:=.type "tuple_iterator",data:=.fields #[.ref b,.int 0 0] }
abbrev zT3 (h : Heap) (a b : Addr) : Heap:=(zT2 h a b).push { cls:=.type "tuple",data:=.seq #[.ref h.objs.size,.ref (zT1 h a).objs.size] }
abbrev zT4 (h : Heap) (a b : Addr) : Heap:=(zT3 h a b).push { cls:=.type "tuple",data:=.seq #[.none,.none] }
abbrev zT5 (h : Heap) (a b : Addr) : Heap:=(zT4 h a b).push { cls:=.type "zip",data:=.fields #[.none,.bool false,.bool false,.ref (zT2 h a b).objs.size,.ref (zT3 h a b).objs.size] }
theorem zkE (a b : Addr) (xs ys : Array Value) : Meets (Builtin.«zip.__new__» ⟨[.type "zip",.ref a,.ref b],[]⟩) (λ _ R s=>s.heap.IsTuple a xs /\ s.heap.IsTuple b ys /\ R (.ok (.ret (.ref (zT4 s.heap a b).objs.size))) { s with heap:=zT5 s.heap a b }) :=
 .of_wp λ prog w A R s h=>by
   obtain ⟨hp,g,d,tk,os⟩:=s;obtain ⟨ha,hb,h⟩:=h;have hsub:=sub_zip;have hA : Vf (W7 ⟨hp,g,d,tk,os⟩) a xs:=ha;have hB : Vf (W7 ⟨hp.push { cls:=.type "tuple_iterator",data:=.fields #[.ref a,.int 0 0] },g,d,tk,os⟩) b ys:=hb.at λ o e=>wb _ e
   wp_walk using wpAny_pyIter_tuple hA,wpAny_pyIter_tuple hB
   exact ⟨_,rfl,h⟩
section
variable {prog : Program} {w : World} {A : Around} {E : Value -> Shared -> Prop} {s : Shared}
theorem zm2 {a b : Addr} {xs ys : Array Value} {Q : Value -> Shared -> Prop} (ha : s.heap.IsTuple a xs) (hb : s.heap.IsTuple b ys)
   (fin : ∀ h',IsZip h' (s.heap.objs.size + 4) (s.heap.objs.size + 2) (s.heap.objs.size + 3) .none -> IsPair h' (s.heap.objs.size + 2) (.ref s.heap.objs.size) (.ref (s.heap.objs.size + 1)) -> IsPair h' (s.heap.objs.size + 3) .none .none ->
     h'.IsTupleIter s.heap.objs.size a 0 -> h'.IsTupleIter (s.heap.objs.size + 1) b 0 -> (∀ c o,s.heap.get? c = some o -> h'.get? c = some o) -> Q (.ref (s.heap.objs.size + 4)) { s with heap:=h' }) : wpAny (model prog w) A (call (.type "zip") [.ref a,.ref b]) Q E s:=by
 refine callType_new Qn (by decide) (qo _ _) (qA _ _) (λ obj=>VT obj _ _) qB (zkE a b xs ys) ⟨ha,hb,?_⟩;have z1 : (zT1 s.heap a).objs.size = s.heap.objs.size + 1:=vn ..;have z2 : (zT2 s.heap a b).objs.size = s.heap.objs.size + 2:=by rw [vn,z1]
 have z3 : (zT3 s.heap a b).objs.size = s.heap.objs.size + 3:=by rw [vn,z2]
 have z4 : (zT4 s.heap a b).objs.size = s.heap.objs.size + 4:=by rw [vn,z3]
 have g5 : (zT5 s.heap a b).get? (zT4 s.heap a b).objs.size = some _:=wj _ rfl;have g4 : (zT5 s.heap a b).get? (zT3 s.heap a b).objs.size = some _:=wb _ (wj _ rfl);have g3 : (zT5 s.heap a b).get? (zT2 s.heap a b).objs.size = some _:=wb _ (wb _ (wj _ rfl));have g2 : (zT5 s.heap a b).get? (zT1 s.heap a).objs.size = some _:=wb _ (wb _ (wb _ (wj _ rfl)));have g1 : (zT5 s.heap a b).get? s.heap.objs.size = some _:=wb _ (wb _ (wb _ (wb _ (wj _ rfl))))
 show _ /\ _
 rw [z2,z3,z4] at g5; rw [z1,z2] at g3; rw [z3] at g4; rw [z1] at g2; rw [z4];exact ⟨⟨_,g5,rfl⟩,fin _ g5 g3 g4 ⟨_,g1,rfl,rfl⟩ ⟨_,g2,rfl,rfl⟩ λ c o x=>wb _ (wb _ (wb _ (wb _ (wb _ x))))⟩
end
def zrR (t u : Bool) (K : wa) (ta : TA) : TI:=λ σ H R=>ta σ H λ vs H1=>∃ a b,vs = [.ref a,.ref b] /\ (∃ xs,SqK t K H1 a xs) /\ (∃ ys,SqK u K H1 b ys) /\ R (Itz t u K a b) H1
theorem znp : bootBuiltins "zip" = some (.type "zip"):=by decide +kernel
theorem zeO {x a b : Addr} (h : x ≠ a) (k : x ≠ b) : x ∉ [a,b]:=by simp [h,k]
theorem ztj {n a b : Nat} (la : a < n) (lb : b < n) : ZA (n + 4) (n + 2) (n + 3) n (n + 1) [n,a] [n + 1,b] where
 a1:=wF (by omega)
 a2:=wF (by omega)
 a3:=wF (by omega)
 a4:=wF (by omega)
 a5:=wF (by omega)
 a6:=vi (by omega)
 a7:=vi (by omega)
 a8:=vi (by omega)
 a9:=vi (by omega)
 b0:=wF (by omega)
 b1:=zeO (vi (by omega)) (vi (by omega))
 b2:=zeO (vi (by omega)) (vi (by omega))
 b3:=zeO (vi (by omega)) (vi (by omega))
 b4:=zeO (vi (by omega)) (vi (by omega))
 b5:=zeO (wF (by omega)) (vi (by omega))
 b6:=zeO (vi (by omega)) (vi (by omega))
theorem zg8 {X : Cx} {elts : List Expr} {k1} {tpos : Pos} {pins : List (Addr × Obj)} {σ : L2.St} {H : Hp} {s : Shared} {R : It -> Hp -> Prop} {h' : Heap} {E : Value -> Shared -> Prop} {t u : Bool} {a b : Addr} (I : Inv X pins σ H s) (la : a < s.heap.objs.size) (lb : b < s.heap.objs.size)
   (hz : IsZip h' (s.heap.objs.size + 4) (s.heap.objs.size + 2) (s.heap.objs.size + 3) .none) (hi : IsPair h' (s.heap.objs.size + 2) (.ref s.heap.objs.size) (.ref (s.heap.objs.size + 1))) (ho : IsPair h' (s.heap.objs.size + 3) .none .none)
   (s1 : ze1 t h' s.heap.objs.size a 0) (s2 : ze1 u h' (s.heap.objs.size + 1) b 0) (kp : ∀ c o,s.heap.get? c = some o -> h'.get? c = some o) (q : R (Itz t u X.K a b) H) : wpAny (model X.prog X.w) X.A (pyIter (.ref (s.heap.objs.size + 4))) (PIE X pins σ (.Tuple elts k1 tpos) R) E { s with heap:=h' }:=by
 refine wpAny_pyIter_zip hz ?_;refine ⟨s.heap.objs.size + 4,[s.heap.objs.size + 4,s.heap.objs.size + 2,s.heap.objs.size + 3,s.heap.objs.size,s.heap.objs.size + 1],_,_,H,rfl,I.kept (t':=s.toks) kp,zo8 a b _ (s.heap.objs.size + 2) (s.heap.objs.size + 3) s.heap.objs.size (s.heap.objs.size + 1) (ztj la lb) (wF la) (wF (Vb lb)),⟨hz,hi,⟨_,_,ho⟩,s1,s2⟩,λ c hc=>?_,q⟩
 . have hb' : s.heap.objs.size <= c:=by
     simp only [wm,vI,or_false] at hc;rcases hc with rfl | rfl | rfl | rfl | rfl
     . exact WU _ 4
     . exact WU _ 2
     . exact WU _ 3
     . exact wg _
     . exact WU _ 1
   exact I.fpOk hb' (I.hok.fresh hb')
theorem zlx {X : Cx} {elts : List Expr} {k1} {tpos p pos : Pos} {l m : Expr} {ta : TA} (hg : Gl X "zip") (hm : X.mg "zip" = none) (ha : PA X [l,m] ta) (hs : starEach [l,m] X.env = [(false,eval l X.env),(false,eval m X.env)]:=by rfl) (hs2 : starEach [m] X.env = [(false,eval m X.env)]:=by rfl) :
   PI X (.Tuple elts k1 tpos) (.Call (.Name "zip" p) [l,m] [] pos) (zrR false false X.K ta):=by
 intro pins s σ H R I h;refine Call_ (zdi I hg hm znp (vC (thn (ha pos pins s σ H _ I h) λ us s1 ⟨vs,H1,I1,r1,q1⟩=>?_) (by rw [hs,hs2]) (by rw [hs2]; rfl)));obtain ⟨a,b,rfl,⟨xs,hq1⟩,⟨ys,hq2⟩,q⟩:=q1;obtain ⟨u,v,rfl,ru,rv⟩:=zh3 r1;cases ru;cases rv;obtain ⟨its,_,p1⟩:=I1.seqK hq1;obtain ⟨jts,_,p2⟩:=I1.seqK hq2;have la : a < s1.heap.objs.size:=by obtain ⟨o,e,_⟩:=(show s1.heap.IsList a its.toArray from p1); exact wk e
 have lb : b < s1.heap.objs.size:=by obtain ⟨o,e,_⟩:=(show s1.heap.IsList b jts.toArray from p2); exact wk e
 exact call_zip_2 p1 p2 λ h' hz hi ho t1 t2 _ kp=>zg8 (t:=false) (u:=false) I1 la lb hz hi ho t1 t2 kp q
theorem SqK.same {t : Bool} {K : wa} {H H' : Hp} {a : Addr} {xs : List V} (s : zag H H') (h : SqK t K H a xs) : SqK t K H' a xs:=by
 cases t
 . exact s.seq h
 . exact s.sqT h
def zsR (t u : Bool) (K : wa) (g : TG) (tb : TS) (D : zcc) (σ : L2.St) (vs : List V) (H1 : Hp) : Prop:=∃ a b,vs = [.ref a,.ref b] /\ (∃ xs,SqK t K H1 a xs) /\ (∃ ys,SqK u K H1 b ys) /\
 ∃ W : Nat -> Nat -> L2.St -> Hp -> Prop,(∃ m,W 0 m σ H1) /\ ∀ i m σ H,W i m σ H ->
   ((Itz t u K a b).stop i H /\ D.nx σ H) \/ ((Itz t u K a b).go i H /\ ∃ M : L2.St -> Hp -> Prop,(∀ σ' H',M σ' H' -> ∃ m',m' < m /\ W (i + 1) m' σ' H') /\ ∀ x H',(Itz t u K a b).yld i H x H' -> g x σ H' λ σ2 H2=>tb { D with nx:=M,ct:=M,bk:=D.nx } σ2 H2)
def zme (t u : Bool) (K : wa) (g : TG) (tt : TT) (te : TE) (src : List (Option Nat)) (σ : L2.St) (vs : List V) (H1 : Hp) (Q : VK) : Prop:=∃ a b,vs = [.ref a,.ref b] /\ (∃ xs,SqK t K H1 a xs) /\ (∃ ys,SqK u K H1 b ys) /\
 ∀ D,H1 D = none -> zee g tt te (Itz t u K a b) D (za0 src σ) (upd H1 D (.lst [])) (λ H'=>Q (.ref D) H')
section
variable {t u : Bool} {K : wa} {ta : TA} {g : TG} {tb : TS} {tt : TT} {te : TE} {D : zcc} {σ : L2.St} {H : Hp} {Q : VK} {a b : Addr} {xs ys : List V} {src : List (Option Nat)} {o0 o0' : Option V} {tl : L2.St}
theorem zpx (h : ta σ H λ vs H1=>zsR t u K g tb D σ vs H1) : zjQ (zrR t u K ta) g tb D σ H:=h
theorem zpn (h : ta σ H λ vs H1=>zme t u K g tt te src σ vs H1 Q) : ze2 src (zrR t u K ta) g tt te σ H Q:=h
theorem zmj (hx : SqK t K H a xs) (hy : SqK u K H b ys) (hxy : xs.length = ys.length) (Pv : Nat -> L2.St -> Hp -> Prop) (h0 : Pv 0 σ H) (hl : ∀ i σ H,i <= xs.length -> Pv i σ H -> SqK t K H a xs /\ SqK u K H b ys)
   (hs : ∀ i x y σ H c H',xs[i]? = some x -> ys[i]? = some y -> Pv i σ H -> H c = none -> zag H H' -> H' c = some (.tup [x,y]) -> g (.ref c) σ H' λ σ2 H2=>tb { D with nx:=Pv (i + 1),ct:=Pv (i + 1),bk:=D.nx } σ2 H2) (hd : ∀ σ H,Pv xs.length σ H -> D.nx σ H) : zsR t u K g tb D σ [.ref a,.ref b] H:=by
 refine ⟨a,b,rfl,⟨xs,hx⟩,⟨ys,hy⟩,λ i m σ H=>i + m = xs.length /\ Pv i σ H,⟨xs.length,by omega,h0⟩,?_⟩;rintro i m σ H ⟨him,hp⟩;obtain ⟨hq1,hq2⟩:=hl i σ H (by omega) hp
 by_cases hm : m = 0
 . have e : i = xs.length:=by omega
   subst e;exact .inl ⟨⟨xs,ys,hq1,hq2,.inl rfl⟩,hd _ _ hp⟩
 . have hi : i < xs.length:=by omega
   have hj : i < ys.length:=by omega
   refine .inr ⟨⟨xs,xs[i],ys,ys[i],hq1,by simp [hi],hq2,by simp [hj]⟩,λ σ' H'=>Pv (i + 1) σ' H',λ σ' H' h=>⟨m - 1,by omega,by omega,h⟩,?_⟩;rintro v H' ⟨c,x,y,rfl,hn,hx',hy',rfl⟩;exact hs i x y σ H c _ (hx' xs hq1) (hy' ys hq2) hp hn (zag.upd hn) zar
def zeS (H : Hp) (tl : L2.St) (Rel : Nat -> V -> Hp -> Prop) (D : Addr) (i : Nat) (zs : List V) (σ' : L2.St) (H' : Hp) : Prop :=
 (∃ o1 o2,σ' = o1 :: o2 :: tl) /\ H D = none /\ zag H H' /\ H' D = some (.lst zs) /\ zs.length = i /\ ∀ j y,zs[j]? = some y -> Rel j y H'
theorem ziz {Rel : Nat -> V -> Hp -> Prop} {D : Addr} {i : Nat} {zs : List V} {σ' σ3 : L2.St} {H1 H5 : Hp} {y : V} (inv : zeS H tl Rel D i zs σ' H1) (hi : i <= 1000) (hk : ∀ i v H1 H2,zaM H1 H2 -> Rel i v H1 -> Rel i v H2) (hσ : ∃ o1 o2,σ3 = o1 :: o2 :: tl) (s : zag H1 H5) (r : Rel i y H5) : zkl (zeS H tl Rel) D i σ3 y H5:=by
 obtain ⟨_,hn,s1,hD,hl,hr⟩:=inv;have hD5:=s _ _ hD;refine zbS hD5 (by omega) λ H6 E6 e6=>⟨hσ,hn,(s1.trans s).grow hn E6,e6,by simp [hl],λ j z hz=>?_⟩
 have k6 : zaM H5 H6:=E6.keep hD5;rcases wK j zs.length with hj | hj
 . rw [vv hj] at hz
   exact hk _ _ _ _ (s.keep.trans k6) (hr j z hz)
 . have hj' : j = zs.length:=by
     rcases wK zs.length j with q | q
     . rw [wW (by simp; omega)] at hz; cases hz
     . omega
   subst hj';rw [vp (wg _),VR] at hz;cases hz;rw [hl];exact hk _ _ _ _ k6 r
theorem zlQ (hx : SqK t K H a xs) (hy : SqK u K H b ys) (hxy : xs.length = ys.length) (hsrc : za0 src σ = o0 :: o0' :: tl) (Rel : Nat -> V -> Hp -> Prop) (hk : ∀ i v H1 H2,zaM H1 H2 -> Rel i v H1 -> Rel i v H2)
   (hs : ∀ D i x y zs o1 o2 H1 c,xs[i]? = some x -> ys[i]? = some y -> zeS H tl Rel D i zs (o1 :: o2 :: tl) H1 -> H1 c = some (.tup [x,y]) -> zeh (zeS H tl Rel) g tt te D i (.ref c) (o1 :: o2 :: tl) H1)
   (hd : ∀ D zs H',H D = none -> zag H H' -> H' D = some (.lst zs) -> zs.length = xs.length -> (∀ j y,zs[j]? = some y -> Rel j y H') -> Q (.ref D) H') : zme t u K g tt te src σ [.ref a,.ref b] H Q:=by
 refine ⟨a,b,rfl,⟨xs,hx⟩,⟨ys,hy⟩,λ D hD=>⟨λ i m σ' H'=>i + m = xs.length /\ ∃ zs,zeS H tl Rel D i zs σ' H',⟨xs.length,by omega,[],⟨o0,o0',hsrc⟩,hD,zag.upd hD,zar,rfl,λ j y z=>by simp at z⟩,?_⟩⟩;rintro i m σ' H' ⟨him,zs,inv⟩;have hq1:=SqK.same inv.2.2.1 hx;have hq2:=SqK.same inv.2.2.1 hy
 by_cases hm : m = 0
 . have e : i = xs.length:=by omega
   subst e;obtain ⟨_,n,s,e,hl,r⟩:=inv;exact .inl ⟨⟨xs,ys,hq1,hq2,.inl rfl⟩,hd D zs H' n s e hl r⟩
 . have hi : i < xs.length:=by omega
   have hj : i < ys.length:=by omega
   refine .inr ⟨⟨xs,xs[i],ys,ys[i],hq1,by simp [hi],hq2,by simp [hj]⟩,λ σ2 H2=>∃ zs,zeS H tl Rel D (i + 1) zs σ2 H2,λ σ2 H2 h=>⟨m - 1,by omega,by omega,h⟩,?_⟩;rintro v H2 ⟨c,x,y,rfl,hn,hx',hy',rfl⟩;obtain ⟨⟨o1,o2,rfl⟩,n,s,e,hl,r⟩:=inv;have su:=zag.upd (o:=.tup [x,y]) hn;exact hs D i x y zs o1 o2 _ c (hx' xs hq1) (hy' ys hq2) ⟨⟨o1,o2,rfl⟩,n,s.trans su,su _ _ e,hl,λ j y hy=>hk _ _ _ _ su.keep (r j y hy)⟩ zar
end
theorem zrV {α : Type} (xs : List α) (k : Nat) : zfi xs none (some (k : Int)) = xs.take k:=by
 unfold zfi;rw [HT.sIx_none,HT.sIx_nat,qL,Nat.sub_zero];rcases Nat.le_total k xs.length with h | h
 . rw [xo h]
 . rw [Nat.min_eq_right h,Wd,W8 h]
theorem znS {α : Type} (xs : List α) (k : Nat) (h : k <= xs.length) : zfi xs (some (k : Int)) none = xs.drop k:=by
 unfold zfi;rw [HT.sIx_none,HT.sIx_nat,xo h];exact W8 (by rw [wP]; omega)
def zh6 (K : wa) : List V -> Hp -> VK -> Prop:=λ xs H Q=>∃ (p : Addr) (bs : List Bool),xs = [.ref p] /\ SqL K H p (bs.map V.bl) /\ Q (.bl (bs.all id)) H
theorem ziP : bootBuiltins "all" = some (.builtin "all"):=by decide +kernel
theorem znz {bs : List Bool} : ∀ {us : List Value},zaG (bs.map V.bl) us -> us = bs.map Value.bool:=by
 induction bs with
 | nil=>intro us r; rw [WE] at r; cases r; rfl
 | cons b bs ih =>
   intro us r;rw [wv] at r;cases r with
   | cons r1 r2 =>
     cases r1;rw [wv,ih r2]
theorem zk8 (bs : List Bool) : ((wo bs.length).all λ i=>(bs[i]?).getD true) = bs.all id:=by
 rw [VU,Wc,Wc]
 constructor
 . intro h b hb
   obtain ⟨i,hi,rfl⟩:=Wo hb;have:=h i (wS.mpr hi);rw [we hi] at this;exact this
 . intro h i hi
   rw [wS] at hi;rw [we hi];exact h _ (vb hi)
open PyProof.V PySem.Calls in
theorem zeP {X : Cx} (hc : X.calm = true) : zal X (.builtin "all") (zh6 X.K):=by
 intro pins s σ H xs us Q I r h;obtain ⟨p,bs,rfl,hq,q⟩:=h;obtain ⟨u,rfl,rx⟩:=zdE r;cases rx;obtain ⟨its,r',pl,hz⟩:=I.list hq;have hi : its = bs.map Value.bool:=znz r';have hl : s.heap.IsList p its.toArray:=pl.isList;have hlt : p < s.heap.objs.size:=by obtain ⟨_,e,_⟩:=hl; exact wk e
 refine call_all_walk (wpAny_pyIter_list hl ?_)
 refine ⟨s.heap.objs.size,[s.heap.objs.size,p],[s.heap.objs.size],its.toArray.size,_,_,λ i=>(bs[i]?).getD true,rfl,Walks.list (A:=X.A.in1) (I.ok.hd hc) _ p (wF hlt) its.toArray,
   ⟨⟨_,wj _ rfl,rfl,rfl⟩,hl.push _⟩,λ i v s' Q' E' hP hQ=>?_,λ h' tk hk=>?_⟩
 . have hP : its.toArray[i]? = some v:=hP
   rw [hi] at hP;simp only [List.getElem?_toArray,wE,W6] at hP;obtain ⟨b,e,rfl⟩:=hP;simp only [e,Q4] at hQ;exact wpAny_truthy_bool hQ
 . have e : ((wo its.toArray.size).all λ i=>(bs[i]?).getD true) = bs.all id:=by
     rw [wq,hi,wd]; exact zk8 bs
   rw [e];exact ⟨.bl (bs.all id),H,I.kept (t':=tk) (λ b x e=>hk b x (λ hm=>by rw [wz.mp hm] at e; exact W0 _ (wk e)) (wb _ e)),rfl,q⟩
theorem zgJ {K : wa} {H : Hp} {Q : VK} {p : Addr} {bs : List Bool} (h : SqL K H p (bs.map V.bl)) (q : Q (.bl (bs.all id)) H) : zh6 K [.ref p] H Q:=⟨p,bs,rfl,h,q⟩
section
variable {t u : Bool} {K : wa} {g : TG} {tt : TT} {te : TE} {σ : L2.St} {H : Hp} {Q : VK} {a b : Addr} {xs ys : List V} {src : List (Option Nat)} {o0 o0' : Option V} {tl : L2.St}
end
def zkB (K : wa) : List V -> Hp -> VK -> Prop:=λ xs H Q=>∃ x tp S T d b,xs = [x,.ref tp] /\ SqT K H tp [.ty S,.ty T] /\ Is K H x d /\ xB K (.type (kindOf d)) [.type S,.type T] = some b /\ Q (.bl b) H
theorem zkK {X : Cx} : zal X (.builtin "isinstance") (zkB X.K):=by
 intro pins s σ H xs us Q I r h;obtain ⟨x,tp,S,T,d,b,rfl,ht,hd,e,q⟩:=h;obtain ⟨u,w',rfl,rx,rt⟩:=zh3 r;cases (show w' = Value.ref tp from rt);obtain ⟨tts,rv,⟨ot,ht1,ht2,n,ht3⟩,_⟩:=I.tuple ht;obtain ⟨t1,t2,rfl,r1,r2⟩:=zh3 rv;cases (show t1 = Value.type S from r1);cases (show t2 = Value.type T from r2);obtain ⟨c,dd,da,sl⟩:=ot;cases ht2;cases ht3;have fin : ∀ tk,EP X pins σ Q (.bool b) { s with toks:=tk }:=λ tk=>⟨.bl b,H,I.tok _,rfl,q⟩
 cases d with
 | none =>
   cases zd8.mp hd;cases (show u = Value.none from rx);exact WI QF I.kIn True.intro ht1 e (λ z=>nomatch z) fin
 | bool y =>
   cases zc6.mp hd;cases (show u = Value.bool y from rx);exact WI QG I.kIn True.intro ht1 e (λ z=>nomatch z) fin
 | int i =>
   cases zbf.mp hd;obtain ⟨t,q⟩:=(show ∃ t,u = Value.int i t from rx);cases q;exact WI Q2 I.kIn True.intro ht1 e (λ z=>nomatch z) fin
 | str y =>
   cases zf0.mp hd;obtain ⟨t,q⟩:=(show ∃ t,u = Value.str y t from rx);cases q;exact WI Q3 I.kIn True.intro ht1 e (λ z=>nomatch z) fin
 | tuple ds =>
   obtain ⟨a,xs,e1,hq,_⟩:=zaI.mp hd;subst e1;cases (show u = Value.ref a from rx);obtain ⟨its,_,⟨o,h1,h2,_⟩,_⟩:=I.tuple hq;exact WI Ql I.kIn ⟨o,h1,h2⟩ ht1 e (λ z=>nomatch z) fin
 | list ds =>
   obtain ⟨a,xs,e1,hq,_⟩:=zaF.mp hd;subst e1;cases (show u = Value.ref a from rx);obtain ⟨its,_,⟨o,n,h1,h2,_⟩,_⟩:=I.list hq;exact WI QI I.kIn ⟨o,h1,h2⟩ ht1 e (λ z=>nomatch z) fin
 | dict kv =>
   obtain ⟨a,kvs,e1,hq⟩:=zi1.mp hd;subst e1;cases (show u = Value.ref a from rx);obtain ⟨_,_,vs,_,o,es,ep,h1,h2,_⟩:=(show za9 X.prog X.w H s.heap a (.dK kvs) from I.hok a _ hq);exact WI QJ I.kIn ⟨o,h1,h2.1⟩ ht1 e (λ z=>nomatch z) fin
theorem zpV {K : wa} (d : PyData) : xB K (.type (kindOf d)) [.type "list",.type "tuple"] = some (znv d || zow d):=by cases d <;> rfl
theorem zmI {K : wa} {H : Hp} {Q : VK} {v : V} {tp : Addr} {d : PyData} (h : Is K H v d) (t : H tp = some (.tup [.ty "list",.ty "tuple"])) (q : Q (.bl (znv d || zow d)) H) : zkB K [v,.ref tp] H Q :=
 ⟨v,tp,"list","tuple",d,_,rfl,.of t,h,zpV d,q⟩
section
variable {X : Cx} {tg : Expr}
def ztf (K : wa) (tl : TE) : TI:=λ σ H R=>tl σ H λ x H1=>(∃ a,x = .ref a /\ (∃ xs,SqL K H1 a xs) /\ R (Itl K a) H1) \/ (∃ a,x = .ref a /\ (∃ xs,SqT K H1 a xs) /\ R (Itt K a) H1)
theorem zgR {l : Expr} {tl : TE} (hl : PE X l tl) : PI X tg l (ztf X.K tl):=by
 intro pins s σ H R I h;refine thn (hl pins s σ H _ I h) λ v s1 ⟨x,H1,I1,r1,q1⟩=>?_
 rcases q1 with ⟨a,e,⟨xs,hq⟩,q⟩ | ⟨a,e,⟨xs,hq⟩,q⟩
 . subst e
   cases r1;obtain ⟨its,rv,p,hz⟩:=I1.list hq;refine wpAny_pyIter_list p.isList ?_;refine ⟨s1.heap.objs.size,[s1.heap.objs.size],_,_,H1,rfl,I1.kept (t':=s1.toks) λ b o e=>wb _ e,zin a _,⟨_,wj _ rfl,rfl,rfl⟩,λ b hb=>?_,q⟩;have e : b = s1.heap.objs.size:=by simpa using hb
   subst e;exact I1.fpOk (wg _) (I1.hok.fresh (wg _))
 . subst e
   cases r1;obtain ⟨its,rv,p,hz⟩:=I1.tuple hq;refine wpAny_pyIter_tuple (show s1.heap.IsTuple a its.toArray from p) ?_;refine ⟨s1.heap.objs.size,[s1.heap.objs.size],_,_,H1,rfl,I1.kept (t':=s1.toks) λ b o e=>wb _ e,zht a _,⟨_,wj _ rfl,rfl,rfl⟩,λ b hb=>?_,q⟩;have e : b = s1.heap.objs.size:=by simpa using hb
   subst e;exact I1.fpOk (wg _) (I1.hok.fresh (wg _))
end
section
variable {K : wa} {g : TG} {tt : TT} {te ta tb' tc : TE} {tb : TS} {D : zcc} {src : List (Option Nat)} {σ : St} {H : Hp} {Q : VK} {r r' : R2}
theorem zoj (h : ta σ H λ x H1=>zha K g tt te src σ x H1 Q \/ ziy K g tt te src σ x H1 Q) : ze2 src (ztf K ta) g tt te σ H Q:=h
theorem znA (h : ta σ H λ x H1=>tb' σ H1 λ y H2=>r x y H2 λ z H3=>∃ k,z = .bl k /\ (if k = true then tc σ H3 λ w' H4=>r' y w' H4 Q else Q (.bl false) H3)) : zop r r' ta tb' tc σ H Q:=h
theorem zru {b : Bool} {P : Bool -> Prop} (h : P b) : ∃ k,V.bl b = .bl k /\ P k:=⟨b,rfl,h⟩
end
theorem zd0 {K : wa} {H : Hp} {us : List V} {ds : List PyData} {i : Nat} {x : V} (t : IsAll K H us ds) (h : us[i]? = some x) : i < ds.length /\ Is K H x (ds.getD i .none):=by
 have hl:=t.length
 have hi : i < ds.length:=by
   rcases wK i ds.length with z | z
   . exact z
   . rw [wW (by omega)] at h; cases h
 obtain ⟨y,e,k⟩:=t.get (i:=i) (d:=ds.getD i .none) (by rw [wc,we hi]; rfl);rw [e] at h;cases h;exact ⟨hi,k⟩
def zmf : List V -> Hp -> VK -> Prop:=λ xs H Q=>∃ i j,xs = [.int i,.int j] /\ Q (.int (if j < i then j else i)) H
theorem zig {X : Cx} (hc : X.calm = true) : zal X (.builtin "min") zmf:=zmW hc
theorem zoS : bootBuiltins "min" = some (.builtin "min"):=by decide +kernel
theorem zp5 {i j : Int} {H : Hp} {Q : VK} (q : ∀ m : Int,m <= i -> m <= j -> (m = i \/ m = j) -> Q (.int m) H) : zmf [.int i,.int j] H Q:=⟨i,j,rfl,by
 split
 . exact q j (by omega) (by omega) (.inr rfl)
 . exact q i (by omega) (by omega) (.inl rfl)⟩
def zn8 (K : wa) (a : Addr) : It :=
 ⟨λ i H=>∃ xs x,SqL K H a xs /\ xs[i]? = some x,λ i H y H'=>∃ t x,y = .ref t /\ H t = none /\ (∀ xs,SqL K H a xs -> xs[i]? = some x) /\ H' = upd H t (.tup [.int (i : Int),x]),λ i H=>∃ xs,SqL K H a xs /\ xs.length <= i⟩
theorem zkO {P : Program} {w : World} {K : wa} {elts : List Expr} {k1} {tpos : Pos} (a e it : Addr) (hne : e ≠ it) : zhu P w K (.Tuple elts k1 tpos) (zn8 K a) [e,it] e (λ i h=>(∃ old,IsEnum h e it (i : Int) old) /\ h.IsListIter it a i) where
 mem:=by simp
 obj:=λ i h st b hb=>by
   obtain ⟨⟨old,he⟩,o,eo,c,d⟩:=st;rcases wm.mp hb with rfl | hb
   . exact ⟨_,he,λ v z=>by cases (show Data.fields _ = Data.cell v from z)⟩
   . rw [wz.mp hb]
     exact ⟨o,eo,λ v z=>by rw [d] at z; cases z⟩
 keep:=λ i h h' st k=>⟨let ⟨old,he⟩:=st.1; ⟨old,k e (by simp) _ he⟩,st.2.at λ o eo=>k it (by simp) o eo⟩
 item:=by
   intro X hP hw hK hc i pins s σ H E I hf st hg;subst hP hw hK;obtain ⟨⟨old,he⟩,st⟩:=st;obtain ⟨xs,x,hq,hx⟩:=hg;obtain ⟨its,rv,p,hz⟩:=I.list hq;obtain ⟨u,hu,ru⟩:=rv.get hx;have p' : s.heap.IsList a its.toArray:=p.isList
   have hai : a ≠ it:=λ z=>by
     subst z;obtain ⟨o,e1,c1,_⟩:=st;obtain ⟨o',e2,c2,_⟩:=p';rw [e1] at e2; cases e2;rw [c1] at c2; exact absurd c2 (by decide)
   have hae : e ≠ a:=λ z=>by
     subst z;obtain ⟨o',e2,c2,_⟩:=p';rw [he] at e2; cases e2;exact absurd (show Value.type "enumerate" = Value.type "list" from c2) (by decide)
   have hlt : i < its.toArray.size:=by
     rcases wK i its.length with z | z
     . simpa using z
     . rw [wW z] at hu; cases hu
   refine wpAny_pyNext_enum_itemD (Draws.list (A:=X.A.in1) (I.ok.hd hc) it a hai its.toArray) he ⟨st,p'⟩ hlt hne (by simp [hne,hae]) λ v h1 tk hv ho hs1 hT hsz hk=>?_
   have hvu : v = u:=by
     have hv' : its[i]? = some v:=by simpa using hv
     rw [hu] at hv'; exact (wH hv').symm
   subst hvu
   have I1 : Inv X pins σ (upd H s.heap.objs.size (.tup [.int (i : Int),x])) { s with heap:=s.heap.push { cls:=.type "tuple",data:=.seq ([.int (i : Int) tk,v] : List Value).toArray },toks:=tk + 1 } :=
     I.laid (λ b o q=>wb _ q) (wg _) (show za9 X.prog X.w _ _ _ (.tup [.int (i : Int),x]) from ⟨zdp (by simp),_,.cons ⟨_,rfl⟩ (.cons ru .nil),Vg _ _⟩)
   have lt1 : ∀ b ∈ [e,it],b < s.heap.objs.size:=λ b hb=>by
     rcases wm.mp hb with rfl | hb
     . exact wk he
     . rw [wz.mp hb]
       obtain ⟨o,eo,_⟩:=st;exact wk eo
   have hf1 : ∀ b ∈ [e,it],zdR X pins (upd H s.heap.objs.size (.tup [.int (i : Int),x])) b:=λ b hb=>⟨by rw [zbj (wF (lt1 b hb))]; exact (hf b hb).1,(hf b hb).2⟩
   refine ⟨_,rfl,wpAny_letOwnedTupleGo_enum ho λ h2 he2 hs2=>?_⟩;refine ⟨.ref s.heap.objs.size,_,Inv.turnedL (s:={ s with heap:=s.heap.push { cls:=.type "tuple",data:=.seq ([.int (i : Int) tk,v] : List Value).toArray },toks:=tk + 1 }) (ch:=[e,it]) I1 (λ b o hb q=>?_) hf1,rfl,⟨_,x,rfl,I.hok.fresh (wg _),λ ys hy=>by rw [I.list_inj hy hq]; exact hx,rfl⟩,⟨⟨_,by simpa using he2⟩,hs1.1.at λ o eo=>(hs2.2 it (vH hne)).trans eo⟩,λ b hb=>(hf1 b hb).1⟩;have hbe : b ≠ e:=λ z=>hb (by simp [z])
   have hbi : b ≠ it:=λ z=>hb (by simp [z])
   refine (hs2.2 b hbe).trans ?_
   by_cases hb2 : b = s.heap.objs.size
   . subst hb2
     rw [wj _ rfl] at q;cases q;exact hT
   . exact hk b o hbe hbi (by rw [Vz _ _ _ hb2] at q; exact q)
 done:=by
   intro X hP hw hK hc i pins s σ H E I hf st hg;subst hP hw hK;obtain ⟨⟨old,he⟩,st⟩:=st;obtain ⟨xs,hq,hx⟩:=hg;obtain ⟨its,rv,p,hz⟩:=I.list hq;have p' : s.heap.IsList a its.toArray:=p.isList;have hl:=rv.length;have hT : s.TypeIs (.ref e) "enumerate":=⟨_,he,rfl⟩;unfold pyNext;refine wpAny_bind (wpAny_attempt (wpAny_callSpecial?_slot (name:=Ww "__next__") hT Wt (wpAny_call_entry Wt hT VE ?_ (Vv _))))
   show wpAny _ _ (field (.ref e) 2 >>= _) _ _ _; refine wpAny_bind (wpAny_field he rfl (x:=.ref it) rfl ?_)
   refine wpAny_bind (wpAny_nextOf_list_end (A:=X.A.in1) (I.ok.hd hc) st p' (by simp; omega) λ h' y he' hx'=>?_);obtain ⟨o,ho,hcl⟩:=hx';refine wpAny_bind (wpAny_isInstance (T:="StopIteration") (b:=true) ⟨o,ho,hcl⟩ isSubtype_stop (wpAny_pure ⟨rfl,?_⟩));obtain ⟨f0,f1,f2,f3,f4,f5⟩:=hf it (by simp);exact I.turned (t':=s.toks) (λ b o hb e=>he' b o hb e) f0 f1 f3 f4 f5
 self:=λ _ _ _ _ _ st h=>let ⟨_,he⟩:=st.1; wpAny_pyIter_enum he h
def zoG (K : wa) (ta : TA) : TI:=λ σ H R=>ta σ H λ vs H1=>∃ a,vs = [.ref a] /\ (∃ xs,SqL K H1 a xs) /\ R (zn8 K a) H1
theorem zoJ {X : Cx} {elts : List Expr} {k1} {tpos p pos : Pos} {l : Expr} {ta : TA} (hg : Gl X "enumerate") (hm : X.mg "enumerate" = none) (ha : PA X [l] ta) (hs : starEach [l] X.env = [(false,eval l X.env)]:=by rfl) :
   PI X (.Tuple elts k1 tpos) (.Call (.Name "enumerate" p) [l] [] pos) (zoG X.K ta):=by
 intro pins s σ H R I h;refine Call_ (zdi I hg hm zea (vC (thn (ha pos pins s σ H _ I h) λ us s1 ⟨vs,H1,I1,r1,q1⟩=>?_) hs rfl));obtain ⟨a,rfl,⟨xs,hq⟩,q⟩:=q1;obtain ⟨u,rfl,ru⟩:=zdE r1;cases ru;obtain ⟨its,rv,p,hz⟩:=I1.list hq;refine call_enumerate_list p.isList λ h' he hit _ kp=>?_
 refine wpAny_pyIter_enum he ?_;refine ⟨s1.heap.objs.size + 1,[s1.heap.objs.size + 1,s1.heap.objs.size],_,_,H1,rfl,I1.kept (t':=s1.toks) kp,zkO a (s1.heap.objs.size + 1) s1.heap.objs.size (qm _),⟨⟨_,he⟩,hit⟩,λ b hb=>?_,q⟩
 have hb' : s1.heap.objs.size <= b:=by
   rcases wm.mp hb with rfl | hb
   . omega
   . rw [wz.mp hb]; exact wg _
 exact I1.fpOk hb' (I1.hok.fresh hb')
section
variable {K : wa} {ta : TA} {g : TG} {tb : TS} {tt c : TT} {te : TE} {D : zcc} {σ : St} {H : Hp} {Q : VK} {a : Addr} {xs : List V} {src : List (Option Nat)} {o0 o0' : Option V} {tl : St}
def zl2 (Pv : Nat -> St -> Hp -> Prop) (m : Nat) (tb : TS) (D : zcc) (σ' : St) (H1 : Hp) : Prop :=
 ∃ M : St -> Hp -> Prop,(∀ σ2 H2,M σ2 H2 -> ∃ m',m' < m /\ Pv m' σ2 H2) /\ tb { D with nx:=M,ct:=M,bk:=D.nx } σ' H1
theorem zeR (Pv : Nat -> St -> Hp -> Prop) (m0 : Nat) (h0 : Pv m0 σ H) (hs : ∀ m σ' H',Pv m σ' H' -> c σ' H' λ b H1=>if b = true then zl2 Pv m tb D σ' H1 else D.nx σ' H1) : znh c tb D σ H:=⟨Pv,⟨m0,h0⟩,hs⟩
theorem zfM {Pv : Nat -> St -> Hp -> Prop} {m : Nat} {σ' : St} {H1 : Hp} (h : tb { D with nx:=λ σ2 H2=>∃ m',m' < m /\ Pv m' σ2 H2,ct:=λ σ2 H2=>∃ m',m' < m /\ Pv m' σ2 H2,bk:=D.nx } σ' H1) : zl2 Pv m tb D σ' H1:=⟨_,λ _ _ q=>q,h⟩
def zp8 (K : wa) (x : V) (H : Hp) (Q : Bool -> Hp -> Prop) : Prop:=∃ k,zrU K x H k /\ Q k H
def zs2 (K : wa) (te : TE) : TT:=λ σ H Q=>te σ H λ x H'=>zp8 K x H' Q
theorem zoM {X : Cx} {e : Expr} {t : TE} (h : PE X e t) (he : ∀ whole,isTrue e X.env whole = (do let v <- whole; standAt e.pos; holding [v] (truthy v)):=by intro _; rfl) : PT X e (zs2 X.K t):=zpc h he
theorem zrC {QB : Bool -> Hp -> Prop} (h : te σ H λ x H'=>zp8 K x H' QB) : zs2 K te σ H QB:=h
theorem zpy {QB : Bool -> Hp -> Prop} {v : V} {ds : List PyData} (h : Is K H v (.tuple ds)) (q : QB (!ds.isEmpty) H) : zp8 K v H QB:=by
 obtain ⟨p,us,rfl,hs,t⟩:=zaI.mp h;have hl:=t.length;refine ⟨_,.inr (.inl ⟨us,hs,rfl⟩),?_⟩
 have e : us.isEmpty = ds.isEmpty:=by
   cases us <;> cases ds <;> simp_all
 rw [e]; exact q
theorem zqK {QB : Bool -> Hp -> Prop} {v : V} {ds : List PyData} (h : Is K H v (.list ds)) (q : QB (!ds.isEmpty) H) : zp8 K v H QB:=by
 obtain ⟨p,us,rfl,hs,t⟩:=zaF.mp h;have hl:=t.length;refine ⟨_,.inl ⟨us,hs,rfl⟩,?_⟩
 have e : us.isEmpty = ds.isEmpty:=by
   cases us <;> cases ds <;> simp_all
 rw [e]; exact q
end
theorem zl9 : ∀ (ys : List V) (us : List Value),ys.length = us.length -> (∀ (i : Nat) y u,ys[i]? = some y -> us[i]? = some u -> zaQ y u) -> zaG ys us
 | [],[],_,_=>.nil
 | [],_ :: _,h,_=>by simp at h
 | _ :: _,[],h,_=>by simp at h
 | y :: ys,u :: us,h,r=>.cons (r 0 y u rfl rfl) (zl9 ys us (by simpa using h) λ i y u h1 h2=>r (i + 1) y u h1 h2)
def vz (l : List Nat) : List V:=l.map λ (w : Nat)=>V.int (w : Int)
theorem zcJ (l : List Nat) : (vz l).length = l.length:=wd ..
def rLR (vs : List V) (H1 : Hp) (Q : VK) : Prop:=∃ j : Int,vs = [.int j] /\ 0 <= j /\ j <= 1000 /\ ∀ l,H1 l = none -> Q (.ref l) (upd H1 l (.lst (vz (wo j.toNat))))
def zgW (ta : TA) : TE:=λ σ H Q=>ta σ H λ vs H1=>rLR vs H1 Q
theorem zjj {X : Cx} {a : Expr} {ta : TA} {p p2 pos pos2 : Pos} (hc : X.calm = true) (hg : Gl X "list") (hm : X.mg "list" = none) (hg2 : Gl X "range") (hm2 : X.mg "range" = none) (ha : PA X [a] ta) (hs : starEach [a] X.env = [(false,eval a X.env)]:=by rfl)
   (hs2 : starEach [Expr.Call (.Name "range" p2) [a] [] pos2] X.env = [(false,eval (.Call (.Name "range" p2) [a] [] pos2) X.env)]:=by rfl) : PE X (.Call (.Name "list" p) [.Call (.Name "range" p2) [a] [] pos2] [] pos) (zgW ta):=by
 intro pins s σ H Q I h;refine Call_ (zdi I hg hm zc9 ?_);refine vC ?_ hs2 rfl;rw [hs2]
 show wpAny _ _ (spliced ((false,eval _ X.env) :: backTo pos [])) _ _ s
 refine Qj ?_;refine Call_ (zdi I hg2 hm2 boot_range (vC (thn (ha pos2 pins s σ H _ I h) λ us s1 ⟨vs,H1,I1,r1,q1⟩=>?_) hs rfl));obtain ⟨j,e,j0,j1,q⟩:=q1;subst e;obtain ⟨u,rfl,ru⟩:=zdE r1;obtain ⟨t,rfl⟩:=ru;refine call_range_1 ?_;refine QD ?_;have I2 : Inv X pins σ H1 { s1 with heap:=s1.heap.push { cls:=.type "range",data:=.fields #[.int 0 s1.toks,.int j t,.int 1 (s1.toks + 1)] },toks:=s1.toks + 1 + 1 }:=I1.kept λ b o e=>wb _ e
 refine call_list_range (n:=j.toNat) (I1.ok.hd hc) (Xf ..) (small_one (by omega) (by omega) (by omega) (by omega)) (by rw [rangeSize_one]; split <;> omega) (by omega) λ h' tk acc c hk hD hI=>?_
 refine ⟨.ref _,_,I2.laid (t':=tk) hk (wg _) ?_,rfl,q _ (I2.hok.fresh (wg _))⟩;refine ⟨zdp (by rw [zcJ,vc]; omega),acc.toList,c,zl9 _ _ (by rw [zcJ,vc,wu,hI.1]) λ i y u hy hu=>?_,by simpa using hD⟩;have hu' : acc[i]? = some u:=by simpa using hu
 obtain ⟨t',e'⟩:=hI.2 i u hu'
 have hi : i < j.toNat:=by
   have:=(Vj.mp hu').1;rw [hI.1] at this; exact this
 have hy' : y = V.int (i : Int):=by
   unfold vz at hy;rw [wE,Qc hi] at hy;exact (wH hy).symm
 subst hy';exact ⟨t',by rw [e']; congr 1; omega⟩
theorem ziH {ta : TA} {σ : St} {H : Hp} {Q : VK} (h : ta σ H λ vs H1=>rLR vs H1 Q) : zgW ta σ H Q:=h
theorem zmC {n : Nat} {H : Hp} {Q : VK} (hn : n <= 1000) (q : ∀ l H',H l = none -> zag H H' -> H' l = some (.lst (vz (wo n))) -> Q (.ref l) H') : rLR [V.int (n : Int)] H Q :=
 ⟨_,rfl,by omega,by omega,λ l hl=>q l _ hl (zag.upd hl) (by rw [wG]; exact zar)⟩
theorem zjm (w : Nat) (l : List Nat) : inV (.int (w : Int)) (vz l) = decide (w ∈ l):=by
 unfold inV vz
 induction l with
 | nil=>rfl
 | cons x l ih =>
   rw [wv,Vi,ih]
   show ((x : Int) == (w : Int) || _) = _
   by_cases h : w = x
   . subst h; simp
   . have h' : ¬ (x : Int) = (w : Int):=λ z=>h (by omega)
     simp [h,h']
theorem zgF (l : List Nat) : (vz l).all zfy = true:=by
 unfold vz;rw [Wc];intro y hy;obtain ⟨w,_,rfl⟩:=wT.mp hy
 rfl
section
variable {K : wa} {H H' : Hp} {Q : VK} {v : V} {p : Addr} {l : List Nat} {w : Nat}
theorem zpC (h : SqT K H p (vz l)) (q : Q (.bl (decide (w ∈ l))) H) : rIn K false (.int (w : Int)) (.ref p) H Q:=⟨p,vz l,rfl,.inr h,rfl,zgF l,by rw [zjm]; exact q⟩
theorem zk3 (h : SqT K H p (vz l)) (q : Q (.bl (!decide (w ∈ l))) H) : rIn K true (.int (w : Int)) (.ref p) H Q:=⟨p,vz l,rfl,.inr h,rfl,zgF l,by rw [zjm]; exact q⟩
theorem zpB (h : SqL K H p (vz l)) (q : Q (.bl (decide (w ∈ l))) H) : rIn K false (.int (w : Int)) (.ref p) H Q:=⟨p,vz l,rfl,.inl h,rfl,zgF l,by rw [zjm]; exact q⟩
theorem zkS (h : SqL K H p (vz l)) (q : Q (.bl (!decide (w ∈ l))) H) : rIn K true (.int (w : Int)) (.ref p) H Q:=⟨p,vz l,rfl,.inl h,rfl,zgF l,by rw [zjm]; exact q⟩
def TW (l : List Nat) : PyData:=TZ (l.map λ (w : Nat)=>(w : Int))
theorem znx : Is K H v (TW l) ↔ ∃ a,v = .ref a /\ SqT K H a (vz l):=by
 unfold TW vz;rw [zct,VW];exact Iff.rfl
theorem zk5 (l : List Nat) : Imm (TW l) = true:=zgX _
def TWs (ws : List (List Nat)) : PyData:=.tuple (ws.map TW)
theorem zdO : ∀ ws : List (List Nat),ImmAll (ws.map TW) = true
 | []=>rfl
 | w :: ws=>by rw [wv,ImmAll,zk5,zdO ws]; rfl
theorem zjo {i : Nat} {x : V} (h : (vz l)[i]? = some x) : ∃ hi : i < l.length,x = .int ((l[i] : Nat) : Int):=by
 have hi : i < l.length:=by
   rcases wK i l.length with z | z
   . exact z
   . rw [wW (by rw [zcJ]; exact z)] at h; cases h
 refine ⟨hi,?_⟩;unfold vz at h;rw [wE,we hi] at h;exact (wH h).symm
theorem zhe {α : Type} (f : α -> PyData) (hf : ∀ x,Imm (f x) = true) : ∀ l : List α,ImmAll (l.map f) = true
 | []=>rfl
 | x :: l=>by rw [wv,ImmAll,hf,zhe f hf l]; rfl
theorem zjz {l : List Nat} {i : Nat} (h : i < l.length) : l.take (i + 1) = l.take i ++ [l[i]]:=by
 rw [qf,we h]; rfl
end
theorem zeX : ∀ ns : List Int,Wk (ns.map PyData.int) = true
 | []=>by simp [Wk]
 | n :: ns=>by rw [wv,Wk,zeX ns]; simp [WB]
theorem zfD : ∀ ns : List Int,W2 (ns.map PyData.int) <= 1
 | []=>by simp [W2]
 | n :: ns=>by
   have:=zfD ns;rw [wv,W2];simp [VX];omega
theorem zeu : ∀ ds : List PyData,(∀ d ∈ ds,wQ d d = true) -> vR ds ds = true
 | [],_=>by simp [vR]
 | d :: ds,h=>by rw [vR,h d (wO ..),zeu ds λ e he=>h e (wI _ he)]; rfl
theorem zi7 {ds : List PyData} (h : ∀ d ∈ ds,wQ d d = true) : wQ (.tuple ds) (.tuple ds) = true:=by rw [wQ]; exact zeu ds h
theorem zrO {ds : List PyData} (h : ∀ d ∈ ds,wQ d d = true) : wQ (.list ds) (.list ds) = true:=by rw [wQ]; exact zeu ds h
theorem ztd {P : PyData -> Prop} {a b : PyData} (ha : P a) (hb : P b) : ∀ d ∈ [a,b],P d:=λ d hd=>by
 simp only [wm,vI,or_false] at hd;rcases hd with rfl | rfl
 . exact ha
 . exact hb
def Sh (n : Nat) (d : PyData) : Prop:=d.canLay0 = true /\ d.depth <= n
theorem zlj {n : Nat} : ∀ ds : List PyData,(∀ d ∈ ds,Sh n d) -> Wk ds = true /\ W2 ds <= n
 | [],_=>by simp [Wk,W2]
 | d :: ds,h=>by
   have h1:=h d (wO ..);have h2:=zlj ds λ e he=>h e (wI _ he)
   rw [Wk,W2,h1.1,h2.1];exact ⟨rfl,by have:=h1.2; have:=h2.2; omega⟩
theorem zoa {n : Nat} {ds : List PyData} (h : ∀ d ∈ ds,Sh n d) : Sh (n + 1) (.tuple ds):=by
 have:=zlj ds h;unfold Sh;rw [WB,VX];exact ⟨this.1,by have:=this.2; omega⟩
theorem zk7 {n : Nat} {ds : List PyData} (h : ∀ d ∈ ds,Sh n d) : Sh (n + 1) (.list ds):=by
 have:=zlj ds h;unfold Sh;rw [WB,VX];exact ⟨this.1,by have:=this.2; omega⟩
theorem Sh.mono {m n : Nat} {d : PyData} (h : Sh m d) (e : m <= n) : Sh n d:=⟨h.1,wV h.2 e⟩
theorem Sh.shaped {n : Nat} {d : PyData} (h : Sh n d) (e : n <= 64) : Ws d = true:=by
 unfold Ws;rw [h.1,Wx];exact decide_eq_true (wV h.2 e)
theorem zse (i : Int) : Sh 1 (.int i):=⟨by simp [WB],by simp [VX]⟩
theorem zp6 {K : wa} {H : Hp} {Q : VK} {v w : V} {d : PyData} {n : Nat} (h : Is K H v d) (k : Is K H w d) (s : Sh n d) (e : n <= 64) (r : wQ d d = true) (q : Q (.bl false) H) : zek K v w H Q:=ziO h k (s.shaped e) (s.shaped e) (by rw [r]; exact q)
theorem zfZ {K : wa} {H : Hp} : ∀ {ds : List PyData} {vs : List V},vs.length = ds.length -> (∀ i x,vs[i]? = some x -> Is K H x (ds.getD i .none)) -> IsAll K H vs ds
 | [],[],_,_=>.nil
 | [],_ :: _,h,_=>by simp at h
 | _ :: _,[],h,_=>by simp at h
 | d :: ds,v :: vs,h,e=>.cons (e 0 v rfl) (zfZ (by simpa using h) λ i x hx=>e (i + 1) x hx)
section
variable {K : wa} {H H' : Hp} {Q : VK} {D : zcc} {σ : St} {td ty tv : TE} {a : Addr} {kvs : List (Key × V)} {k : Int} {v : V}
theorem zpE (h : tv σ H λ v H1=>td σ H1 λ x H2=>ty σ H2 λ y H3=>∃ a H4,x = .ref a /\ zlh H3 a y v H4 /\ D.nx σ H4) : zq3 td ty tv D σ H:=h
theorem zr9 (h : ty σ H λ y H1=>td σ H1 λ x H2=>∃ a o,x = .ref a /\ zf2 H2 a y o /\ Q (.bl o.isSome) H2) : zs4 ty td σ H Q:=h
theorem Exc.keepD (e : Exc a H H') (h : H a = some (.dK kvs)) : zaM H H' :=
 ⟨λ b ys hb=>e b _ (λ z=>by subst z; rw [h] at hb; cases hb) hb,λ b o u hb=>e b _ (λ z=>by subst z; rw [h] at hb; cases hb) hb⟩
theorem znI {p r : Addr} {l : List Nat} (h : H p = some (.lst (vz l))) (e : H r = some (.lst [])) (q : Q (.bl (decide (l ≠ []))) H) : zek K (.ref p) (.ref r) H Q:=by
 have i1 : Is K H (.ref p) (.list ((l.map λ (w : Nat)=>(w : Int)).map PyData.int)):=zaF.mpr ⟨p,vz l,rfl,.of h,by
   have e1 : vz l = (l.map λ (w : Nat)=>(w : Int)).map V.int:=by unfold vz; rw [VW]; rfl
   rw [e1];exact zbA.mpr rfl⟩
 have i2 : Is K H (.ref r) (.list []):=zaF.mpr ⟨r,[],rfl,.of e,.nil⟩;refine ziO i1 i2 ?_ rfl ?_
 . unfold Ws
   rw [WB,zeX,VX,Wx];have:=zfD (l.map λ (w : Nat)=>(w : Int));exact decide_eq_true (by omega)
 . cases l with
   | nil=>simpa [wQ,vR] using q
   | cons x l=>simpa [wQ,vR] using q
end
theorem zfw : ∀ {ts : List Int} {ys : List V},ys.length = ts.length -> (∀ (j : Nat) (y : V),ys[j]? = some y -> y = V.int (ts.getD j 0)) -> ys = ts.map V.int
 | [],[],_,_=>rfl
 | [],_ :: _,h,_=>by simp at h
 | _ :: _,[],h,_=>by simp at h
 | t :: ts,y :: ys,h,e=>by
   rw [wv,e 0 y rfl,zfw (ts:=ts) (ys:=ys) (by simpa using h) λ j z hz=>e (j + 1) z hz]
   rfl
theorem zes {α : Type} {ys : List α} {j : Nat} {y : α} (h : ys[j]? = some y) : j < ys.length:=by
 rcases wK j ys.length with z | z
 . exact z
 . rw [wW z] at h; cases h
theorem zfR {ts : List Int} {i : Nat} {x : V} (h : (ts.map V.int)[i]? = some x) : i < ts.length /\ x = .int (ts.getD i 0):=by
 have hi:=zes h;rw [wd] at hi;rw [wE,we hi] at h;refine ⟨hi,?_⟩;rw [wc,we hi];exact (wH h).symm
theorem zpv {X : Cx} {K : wa} {es : List Expr} {t : TA} {pos : Pos} (hK : X.K = K) (h : PA X es t) : PE X (.List es pos) (zks K t):=by
 subst hK;exact zaP h
def znE (K : wa) (g : TG) (tt : TT) (te : TE) (src : List (Option Nat)) (σ : St) (vs : List V) (H1 : Hp) (Q : VK) : Prop:=∃ a,vs = [.ref a] /\ (∃ xs,SqT K H1 a xs) /\
 ∀ D,H1 D = none -> zee g tt te (Ite K a) D (za0 src σ) (upd H1 D (.lst [])) (λ H'=>Q (.ref D) H')
section
variable {K : wa} {ta : TA} {g : TG} {tt : TT} {te : TE} {σ : St} {H : Hp} {Q : VK} {a : Addr} {xs : List V} {src : List (Option Nat)}
theorem zmP (h : ta σ H λ vs H1=>znE K g tt te src σ vs H1 Q) : ze2 src (zln K ta) g tt te σ H Q:=h
theorem zjP (hx : SqT K H a xs) (Pv : Addr -> Nat -> List V -> St -> Hp -> Prop) (h0 : ∀ D H',H D = none -> zag H H' -> H' D = some (.lst []) -> Pv D 0 [] (za0 src σ) H') (hl : ∀ D i ys σ' H',Pv D i ys σ' H' -> SqT K H' a xs)
   (hs : ∀ D i x ys σ' H1 c H2,xs[i]? = some x -> Pv D i ys σ' H1 -> H1 c = none -> zag H1 H2 -> H2 c = some (.tup [.int (i : Int),x]) -> zeh Pv g tt te D i (.ref c) σ' H2) (hd : ∀ D ys σ' H',Pv D xs.length ys σ' H' -> Q (.ref D) H') : znE K g tt te src σ [.ref a] H Q:=by
 refine ⟨a,rfl,⟨xs,hx⟩,λ D hD=>⟨λ i m σ' H'=>i + m = xs.length /\ ∃ ys,Pv D i ys σ' H',⟨xs.length,by omega,[],h0 D _ hD (zag.upd hD) zar⟩,?_⟩⟩;rintro i m σ' H' ⟨him,ys,inv⟩;have hq:=hl _ _ _ _ _ inv
 by_cases hm : m = 0
 . have e : i = xs.length:=by omega
   subst e;exact .inl ⟨⟨xs,hq,wg _⟩,hd _ _ _ _ inv⟩
 . have hi : i < xs.length:=by omega
   refine .inr ⟨⟨xs,xs[i],hq,by simp [hi]⟩,λ σ2 H2=>∃ ys,Pv D (i + 1) ys σ2 H2,λ σ2 H2 h=>⟨m - 1,by omega,by omega,h⟩,?_⟩;rintro v H2 ⟨c,x,rfl,hn,hx',rfl⟩;exact hs D i x ys σ' H' c _ (hx' xs hq) inv hn (zag.upd hn) zar
end
theorem zod (ds : List PyData) : wQ (.list ds) (.list []) = ds.isEmpty:=by cases ds <;> simp [wQ,vR]
theorem zqP (ns : List Int) : wQ (TZ ns) (TZ ns) = true:=zi7 λ d hd=>by
 obtain ⟨n,_,rfl⟩:=wT.mp hd;rw [zlM]; exact decide_eq_true rfl
section
variable {K : wa} {H : Hp} {Q : VK} {v w : V} {ds : List PyData} {n : Nat} {l b : Addr} {xs zs : List V}
theorem zpo (a b : Bool) : wQ (.bool a) (.bool b) = (a == b):=by rw [wQ]
theorem zno {i : Int} (h : H l = some (.lst xs)) (h0 : 0 <= i) (h1 : i < xs.length) (hz : xs.length <= 1000) (q : ∀ y H',xs[i.toNat]? = some y -> Exc l H H' -> H' l = some (.lst (xs.eraseIdx i.toNat)) -> Q y H') : zoI (.ref l) [.int i] H Q:=by
 have hi : i.toNat < xs.length:=by omega
 exact ⟨l,xs,i,i.toNat,xs[i.toNat],rfl,rfl,h,by omega,by omega,xw h0 h1,we hi,q _ _ (we hi) (Exc.upd l H _) zar⟩
theorem IsAll.erase : ∀ {ds : List PyData} {vs : List V} (k : Nat),IsAll K H vs ds -> IsAll K H (vs.eraseIdx k) (ds.eraseIdx k)
 | [],_,k,h=>by rw [za3.mp h]; exact .nil
 | d :: ds,_,0,h=>by
   obtain ⟨x,r,rfl,_,t⟩:=zaE.mp h;exact t
 | d :: ds,_,k + 1,h=>by
   obtain ⟨x,r,rfl,q,t⟩:=zaE.mp h;exact .cons q (IsAll.erase k t)
end
theorem zf8 {α β : Type} (f : α -> β) : ∀ (l : List α) (k : Nat),(l.map f).eraseIdx k = (l.eraseIdx k).map f
 | [],_=>rfl
 | _ :: _,0=>rfl
 | x :: l,k + 1=>by
   show f x :: (l.map f).eraseIdx k = f x :: (l.eraseIdx k).map f
   rw [zf8 f l k]
theorem erase_perm {α : Type} : ∀ (l : List α) (k : Nat) (h : k < l.length),(l[k] :: l.eraseIdx k).Perm l
 | x :: l,0,_=>List.Perm.refl _
 | x :: l,k + 1,h=>(xH.swap _ _ _).trans (xH.cons x (erase_perm l k (by simpa using h)))
section
open PyProof.V PySem.Calls PySem.W
variable {prog : Program} {w : World} {A : Around} {E : Value -> Shared -> Prop} {s : Shared}
end
abbrev zM1 (h : Heap) (a : Addr) : Heap:=h.push { cls:=.type "tuple_iterator",data:=.fields #[.ref a,.int 0 0] }
abbrev zM2 (h : Heap) (a b : Addr) : Heap:=(zM1 h a).push { cls:=.type "list_iterator",data:=.fields #[.ref b,.int 0 0] }
abbrev zM3 (h : Heap) (a b : Addr) : Heap:=(zM2 h a b).push { cls:=.type "tuple",data:=.seq #[.ref h.objs.size,.ref (zM1 h a).objs.size] }
abbrev zM4 (h : Heap) (a b : Addr) : Heap:=(zM3 h a b).push { cls:=.type "tuple",data:=.seq #[.none,.none] }
abbrev zM5 (h : Heap) (a b : Addr) : Heap:=(zM4 h a b).push { cls:=.type "zip",data:=.fields #[.none,.bool false,.bool false,.ref (zM2 h a b).objs.size,.ref (zM3 h a b).objs.size] }
theorem zlv (a b : Addr) (xs ys : Array Value) : Meets (Builtin.«zip.__new__» ⟨[.type "zip",.ref a,.ref b],[]⟩) (λ _ R s=>s.heap.IsTuple a xs /\ s.heap.IsList b ys /\ R (.ok (.ret (.ref (zM4 s.heap a b).objs.size))) { s with heap:=zM5 s.heap a b }) :=
 .of_wp λ prog w A R s h=>by
   obtain ⟨hp,g,d,tk,os⟩:=s;obtain ⟨ha,hb,h⟩:=h;have hsub:=sub_zip;have hA : Vf (W7 ⟨hp,g,d,tk,os⟩) a xs:=ha;have hB : Heap.IsList (W7 ⟨hp.push { cls:=.type "tuple_iterator",data:=.fields #[.ref a,.int 0 0] },g,d,tk,os⟩) b ys:=Heap.IsList.push hb _
   wp_walk using wpAny_pyIter_tuple hA,wpAny_pyIter_list hB
   exact ⟨_,rfl,h⟩
section
variable {prog : Program} {w : World} {A : Around} {E : Value -> Shared -> Prop} {s : Shared}
theorem zmX {a b : Addr} {xs ys : Array Value} {Q : Value -> Shared -> Prop} (ha : s.heap.IsTuple a xs) (hb : s.heap.IsList b ys)
   (fin : ∀ h',IsZip h' (s.heap.objs.size + 4) (s.heap.objs.size + 2) (s.heap.objs.size + 3) .none -> IsPair h' (s.heap.objs.size + 2) (.ref s.heap.objs.size) (.ref (s.heap.objs.size + 1)) -> IsPair h' (s.heap.objs.size + 3) .none .none ->
     h'.IsTupleIter s.heap.objs.size a 0 -> h'.IsListIter (s.heap.objs.size + 1) b 0 -> (∀ c o,s.heap.get? c = some o -> h'.get? c = some o) -> Q (.ref (s.heap.objs.size + 4)) { s with heap:=h' }) : wpAny (model prog w) A (call (.type "zip") [.ref a,.ref b]) Q E s:=by
 refine callType_new Qn (by decide) (qo _ _) (qA _ _) (λ obj=>VT obj _ _) qB (zlv a b xs ys) ⟨ha,hb,?_⟩;have z1 : (zM1 s.heap a).objs.size = s.heap.objs.size + 1:=vn ..;have z2 : (zM2 s.heap a b).objs.size = s.heap.objs.size + 2:=by rw [vn,z1]
 have z3 : (zM3 s.heap a b).objs.size = s.heap.objs.size + 3:=by rw [vn,z2]
 have z4 : (zM4 s.heap a b).objs.size = s.heap.objs.size + 4:=by rw [vn,z3]
 have g5 : (zM5 s.heap a b).get? (zM4 s.heap a b).objs.size = some _:=wj _ rfl;have g4 : (zM5 s.heap a b).get? (zM3 s.heap a b).objs.size = some _:=wb _ (wj _ rfl);have g3 : (zM5 s.heap a b).get? (zM2 s.heap a b).objs.size = some _:=wb _ (wb _ (wj _ rfl));have g2 : (zM5 s.heap a b).get? (zM1 s.heap a).objs.size = some _:=wb _ (wb _ (wb _ (wj _ rfl)));have g1 : (zM5 s.heap a b).get? s.heap.objs.size = some _:=wb _ (wb _ (wb _ (wb _ (wj _ rfl))))
 show _ /\ _
 rw [z2,z3,z4] at g5; rw [z1,z2] at g3; rw [z3] at g4; rw [z1] at g2; rw [z4];exact ⟨⟨_,g5,rfl⟩,fin _ g5 g3 g4 ⟨_,g1,rfl,rfl⟩ ⟨_,g2,rfl,rfl⟩ λ c o x=>wb _ (wb _ (wb _ (wb _ (wb _ x))))⟩
end
section
variable {X : Cx} {x : Str} {G : Value} {b₀ : Stmt} {body suite : List Stmt} {np hpos pos : Pos} {tb : (St -> XK) -> TS} {th : TS}
end
theorem zrz : bootBuiltins "set" = some (.type "set"):=by decide +kernel
section
variable {K : wa} {H : Hp} {Q : VK} {p : Addr} {ns : List Int}
end
def zl (l : List Nat) : List Int:=l.map λ (w : Nat)=>(w : Int)
theorem zhh (l m : List Nat) : vz l ++ vz m = vz (l ++ m):=by unfold vz; rw [wB]
abbrev zN1 (h : Heap) (a : Addr) : Heap:=h.push { cls:=.type "list_iterator",data:=.fields #[.ref a,.int 0 0] }
abbrev zN2 (h : Heap) (a b : Addr) : Heap:=(zN1 h a).push { cls:=.type "tuple_iterator",data:=.fields #[.ref b,.int 0 0] }
abbrev zN3 (h : Heap) (a b : Addr) : Heap:=(zN2 h a b).push { cls:=.type "tuple",data:=.seq #[.ref h.objs.size,.ref (zN1 h a).objs.size] }
abbrev zN4 (h : Heap) (a b : Addr) : Heap:=(zN3 h a b).push { cls:=.type "tuple",data:=.seq #[.none,.none] }
abbrev zN5 (h : Heap) (a b : Addr) : Heap:=(zN4 h a b).push { cls:=.type "zip",data:=.fields #[.none,.bool false,.bool false,.ref (zN2 h a b).objs.size,.ref (zN3 h a b).objs.size] }
theorem zk6 (a b : Addr) (xs ys : Array Value) : Meets (Builtin.«zip.__new__» ⟨[.type "zip",.ref a,.ref b],[]⟩) (λ _ R s=>s.heap.IsList a xs /\ s.heap.IsTuple b ys /\ R (.ok (.ret (.ref (zN4 s.heap a b).objs.size))) { s with heap:=zN5 s.heap a b }) :=
 .of_wp λ prog w A R s h=>by
   obtain ⟨hp,g,d,tk,os⟩:=s;obtain ⟨ha,hb,h⟩:=h;have hsub:=sub_zip;have hA : Heap.IsList (W7 ⟨hp,g,d,tk,os⟩) a xs:=ha;have hB : Vf (W7 ⟨hp.push { cls:=.type "list_iterator",data:=.fields #[.ref a,.int 0 0] },g,d,tk,os⟩) b ys:=Heap.IsTuple.push hb _
   wp_walk using wpAny_pyIter_list hA,wpAny_pyIter_tuple hB
   exact ⟨_,rfl,h⟩
section
variable {prog : Program} {w : World} {A : Around} {E : Value -> Shared -> Prop} {s : Shared}
theorem zm0 {a b : Addr} {xs ys : Array Value} {Q : Value -> Shared -> Prop} (ha : s.heap.IsList a xs) (hb : s.heap.IsTuple b ys)
   (fin : ∀ h',IsZip h' (s.heap.objs.size + 4) (s.heap.objs.size + 2) (s.heap.objs.size + 3) .none -> IsPair h' (s.heap.objs.size + 2) (.ref s.heap.objs.size) (.ref (s.heap.objs.size + 1)) -> IsPair h' (s.heap.objs.size + 3) .none .none ->
     h'.IsListIter s.heap.objs.size a 0 -> h'.IsTupleIter (s.heap.objs.size + 1) b 0 -> (∀ c o,s.heap.get? c = some o -> h'.get? c = some o) -> Q (.ref (s.heap.objs.size + 4)) { s with heap:=h' }) : wpAny (model prog w) A (call (.type "zip") [.ref a,.ref b]) Q E s:=by
 refine callType_new Qn (by decide) (qo _ _) (qA _ _) (λ obj=>VT obj _ _) qB (zk6 a b xs ys) ⟨ha,hb,?_⟩;have z1 : (zN1 s.heap a).objs.size = s.heap.objs.size + 1:=vn ..;have z2 : (zN2 s.heap a b).objs.size = s.heap.objs.size + 2:=by rw [vn,z1]
 have z3 : (zN3 s.heap a b).objs.size = s.heap.objs.size + 3:=by rw [vn,z2]
 have z4 : (zN4 s.heap a b).objs.size = s.heap.objs.size + 4:=by rw [vn,z3]
 have g5 : (zN5 s.heap a b).get? (zN4 s.heap a b).objs.size = some _:=wj _ rfl;have g4 : (zN5 s.heap a b).get? (zN3 s.heap a b).objs.size = some _:=wb _ (wj _ rfl);have g3 : (zN5 s.heap a b).get? (zN2 s.heap a b).objs.size = some _:=wb _ (wb _ (wj _ rfl));have g2 : (zN5 s.heap a b).get? (zN1 s.heap a).objs.size = some _:=wb _ (wb _ (wb _ (wj _ rfl)));have g1 : (zN5 s.heap a b).get? s.heap.objs.size = some _:=wb _ (wb _ (wb _ (wb _ (wj _ rfl))))
 show _ /\ _
 rw [z2,z3,z4] at g5; rw [z1,z2] at g3; rw [z3] at g4; rw [z1] at g2; rw [z4];exact ⟨⟨_,g5,rfl⟩,fin _ g5 g3 g4 ⟨_,g1,rfl,rfl⟩ ⟨_,g2,rfl,rfl⟩ λ c o x=>wb _ (wb _ (wb _ (wb _ (wb _ x))))⟩
end
end L2
namespace TB
open PySem
def Ris (xs : Array Nat) : Prop:=∀ i j,i < j -> j < xs.size -> xs.getD i 0 < xs.getD j 0
theorem znb {xs : Array Nat} {i : Nat} (h : i < xs.size) (d e : Nat) : xs.getD i d = xs.getD i e:=by
 simp [xp,h]
theorem ziY (xs : Array Nat) (j : Nat) (R : Ris xs) : ∀ (fuel lo hi : Nat),hi <= xs.size -> lo <= hi -> hi - lo <= fuel -> (∀ k,k < lo -> xs.getD k 0 < j) -> (∀ k,hi <= k -> k < xs.size -> j <= xs.getD k 0) ->
   (VA xs j fuel lo hi <= xs.size /\ (∀ k,k < VA xs j fuel lo hi -> xs.getD k 0 < j) /\ (∀ k,VA xs j fuel lo hi <= k -> k < xs.size -> j <= xs.getD k 0))
 | 0,lo,hi,h1,h2,h3,a,b=>by
   have : lo = hi:=by omega
   subst this;exact ⟨h1,a,b⟩
 | fuel + 1,lo,hi,h1,h2,h3,a,b=>by
   unfold VA
   by_cases c : lo < hi
   . rw [if_pos c]
     have m1 : (lo + hi) / 2 < hi:=by omega
     have m2 : lo <= (lo + hi) / 2:=by omega
     dsimp only;rw [znb (wL m1 h1) j 0]
     by_cases d : xs.getD ((lo + hi) / 2) 0 < j
     . rw [if_pos d]
       refine ziY xs j R fuel _ hi h1 m1 (by omega) (λ k hk=>?_) b;rcases wK k ((lo + hi) / 2) with q | q
       . exact Qk (R k _ q (by omega)) d
       . have : k = (lo + hi) / 2:=by omega
         rw [this]; exact d
     . rw [if_neg d]
       refine ziY xs j R fuel lo _ (by omega) m2 (by omega) a (λ k hk hk'=>?_);rcases Wu hk with q | q
       . rw [<- q]; omega
       . have:=R _ k q hk'; omega
   . rw [if_neg c]
     have : lo = hi:=by omega
     subst this;exact ⟨h1,a,b⟩
theorem zhl {xs : Array Nat} (R : Ris xs) (j : Nat) : vZ xs j <= xs.size /\ (∀ k,k < vZ xs j -> xs.getD k 0 < j) /\ (∀ k,vZ xs j <= k -> k < xs.size -> j <= xs.getD k 0) :=
 ziY xs j R xs.size 0 xs.size (wg _) (vB _) (by omega) (λ k h=>absurd h (vT k)) (λ k h h'=>absurd h' (by omega))
theorem ztD {xs : Array Nat} {i : Nat} (h : i < xs.size) : xs[i]? = some (xs.getD i 0):=by simp [xp,h]
theorem zgM {t : SetTable} (R : Ris t.place) (D : t.dummies = #[]) (j : Nat) :
   (∃ i,i < t.place.size /\ t.place.getD i 0 = j /\ t.slot j = .live i) \/ ((∀ i,i < t.place.size -> t.place.getD i 0 ≠ j) /\ t.slot j = .empty):=by
 obtain ⟨h1,h2,h3⟩:=zhl R j;unfold SetTable.slot;dsimp only;have hd : Qo t.dummies j = false:=by rw [D]; rfl
 rw [hd];rcases wK (vZ t.place j) t.place.size with q | q
 . rw [ztD q]
   by_cases e : t.place.getD (vZ t.place j) 0 = j
   . exact .inl ⟨_,q,e,by simp [e]⟩
   . refine .inr ⟨λ i hi he=>?_,by generalize t.place.getD (vZ t.place j) 0 = z at e; simp [e]⟩
     rcases wK i (vZ t.place j) with a | a
     . have:=h2 i a; omega
     . rcases Wu a with b | b
       . rw [<- b] at he; exact e he
       . have:=R _ i b hi
         have:=h3 _ (wg _) q;omega
 . have : t.place[vZ t.place j]? = none:=VF q
   rw [this];refine .inr ⟨λ i hi he=>?_,by simp⟩;have:=h2 i (by omega); omega
def g (x : Nat) : Nat:=x * 5 + 1
def it (n x : Nat) : Nat:=match n with | 0=>x | n + 1=>g (it n x)
def s : Nat -> Nat | 0=>0 | n + 1=>5 * s n + 1
theorem zq4 (n : Nat) : 5 ^ n = 4 * s n + 1:=by
 induction n with
 | zero=>rfl
 | succ n ih=>rw [WV,ih]; show _ = 4 * (5 * s n + 1) + 1; omega
theorem zta (n x : Nat) : it n x = 5 ^ n * x + s n:=by
 induction n with
 | zero=>show x = 5 ^ 0 * x + 0; simp
 | succ n ih =>
   show g (it n x) = 5 ^ (n + 1) * x + (5 * s n + 1)
   rw [ih,WV]; unfold g;rw [Wr,QM (5 ^ n) 5 x]; omega
theorem zsd (m n x : Nat) : it (m + n) x = it m (it n x):=by
 induction m with
 | zero=>rw [Nat.zero_add]; rfl
 | succ m ih=>rw [Nat.succ_add]; show g (it (m + n) x) = g (it m (it n x)); rw [ih]
theorem zsz (m n : Nat) : s (m + n) = 5 ^ m * s n + s m:=by
 induction m with
 | zero=>simp [s]
 | succ m ih =>
   rw [Nat.succ_add]
   show 5 * s (m + n) + 1 = 5 ^ (m + 1) * s n + (5 * s m + 1)
   rw [ih,WV,Wr,QM (5 ^ m) 5]; omega
theorem zti (k : Nat) : ∃ o,s (2 ^ k) = 2 ^ k * (2 * o + 1):=by
 induction k with
 | zero=>exact ⟨0,rfl⟩
 | succ k ih =>
   obtain ⟨o,ho⟩:=ih
   have e : s (2 ^ (k + 1)) = 2 ^ (k + 1) * ((2 * o + 1) * (2 * s (2 ^ k) + 1)):=by
     have : 2 ^ (k + 1) = 2 ^ k + 2 ^ k:=by rw [WV]; omega
     rw [this,zsz,zq4];generalize hs : s (2 ^ k) = S at *
     have h2 : (2 ^ k + 2 ^ k) * ((2 * o + 1) * (2 * S + 1)) = 2 * (2 ^ k * (2 * o + 1)) * (2 * S + 1):=by
       rw [<- Nat.two_mul,<- Wr,Wr 2]
     rw [h2,<- ho];generalize S * S = z at *;have : (4 * S + 1) * S = 4 * (S * S) + S:=by rw [QX,Wr,QY]
     rw [this]
     have : 2 * S * (2 * S + 1) = 4 * (S * S) + 2 * S:=by
       rw [qF,QZ,Nat.mul_mul_mul_comm]
     rw [this]; omega
   refine ⟨o * (2 * s (2 ^ k) + 1) + s (2 ^ k),?_⟩;rw [e]
   congr 1
   rw [QX,QY,Wr];omega
theorem zsV (M c a : Nat) : (4 * (M * c) + 1) * a + M * c = a + M * (c * (4 * a + 1)):=by
 rw [QX,QY,qF c,QZ,qF M];have : 4 * (M * c) * a = M * (c * (4 * a)):=by rw [VY 4,Wr,Wr]
 omega
theorem zsQ (k : Nat) : ∀ x y : Nat,∃ n,n < 2 ^ k /\ it n x % 2 ^ k = y % 2 ^ k:=by
 induction k with
 | zero=>intro x y; exact ⟨0,by decide,by simp [Nat.mod_one]⟩
 | succ k ih =>
   intro x y;obtain ⟨n,hn,e⟩:=ih x y;have hp : 0 < 2 ^ k:=Nat.pow_pos (by decide);have h2 : 2 ^ (k + 1) = 2 ^ k * 2:=WV ..;obtain ⟨o,ho⟩:=zti k;generalize hM : 2 ^ k = M at *;rw [h2]
   by_cases c : it n x / M % 2 = y / M % 2
   . refine ⟨n,by omega,?_⟩
     rw [qG,qG,e,c]
   . refine ⟨M + n,by omega,?_⟩
     rw [zsd,zta,zq4,ho];generalize it n x = a at *;rw [zsV,qG,qG,Nat.add_mul_mod_self_left,e,Nat.add_mul_div_left _ _ hp]
     have : (2 * o + 1) * (4 * a + 1) % 2 = 1:=by
       rw [Q0];have h1 : (2 * o + 1) % 2 = 1:=by omega
       have h2 : (4 * a + 1) % 2 = 1:=by omega
       rw [h1,h2]
     congr 2
     omega
open SetTable (Probe leap runEnd bits turns)
def adv (mask : Nat) (p : Probe) : Probe :=
 if p.more > 0 then { p with j:=p.j + 1,more:=p.more - 1 } else
 { p with j:=(leap mask p.i p.perturb).1,more:=runEnd mask (leap mask p.i p.perturb).1 - (leap mask p.i p.perturb).1,i:=(leap mask p.i p.perturb).1,perturb:=(leap mask p.i p.perturb).2 }
def way (mask : Nat) (p : Probe) : Nat -> Probe | 0=>p | n + 1=>adv mask (way mask p n)
def zei (mask i b : Nat) : Probe:={ j:=i,more:=runEnd mask i - i,i:=i,perturb:=b,dummy:=none }
def start (mask : Nat) (h : Int) : Probe:=zei mask (bits h % (mask + 1)) (bits h)
def lp (mask i b : Nat) : Nat -> Nat × Nat | 0=>(i,b) | n + 1=>leap mask (lp mask i b n).1 (lp mask i b n).2
theorem zgG (mask : Nat) (p : Probe) (m : Nat) : ∀ n,way mask p (m + n) = way mask (way mask p m) n
 | 0=>rfl
 | n + 1=>by show adv mask (way mask p (m + n)) = adv mask (way mask (way mask p m) n); rw [zgG mask p m n]
theorem zis (mask : Nat) (p : Probe) : ∀ n,(way mask p n).dummy = p.dummy
 | 0=>rfl
 | n + 1=>by
   show (adv mask (way mask p n)).dummy = p.dummy
   rw [<- zis mask p n]; unfold adv; split <;> rfl
theorem zfu (mask i b : Nat) : ∀ n,n <= runEnd mask i - i -> way mask (zei mask i b) n = { j:=i + n,more:=runEnd mask i - i - n,i:=i,perturb:=b,dummy:=none }
 | 0,_=>rfl
 | n + 1,h=>by
   show adv mask (way mask (zei mask i b) n) = _
   rw [zfu mask i b n (by omega)];unfold adv;dsimp only;rw [if_pos (by omega)]
   congr 1
theorem zhp (mask i b : Nat) : way mask (zei mask i b) (runEnd mask i - i + 1) = zei mask (leap mask i b).1 (leap mask i b).2:=by
 show adv mask (way mask (zei mask i b) (runEnd mask i - i)) = _
 rw [zfu mask i b _ (wg _)];unfold adv;dsimp only;rw [if_neg (by omega)]
 rfl
theorem zsl (mask i : Nat) : runEnd mask i - i <= 9:=by unfold runEnd; split <;> omega
theorem znq (mask i b : Nat) : ∀ m,∃ n,n <= 10 * m /\ way mask (zei mask i b) n = zei mask (lp mask i b m).1 (lp mask i b m).2
 | 0=>⟨0,wg _,rfl⟩
 | m + 1=>by
   obtain ⟨n,hn,e⟩:=znq mask i b m;have:=zsl mask (lp mask i b m).1;refine ⟨n + (runEnd mask (lp mask i b m).1 - (lp mask i b m).1 + 1),by omega,?_⟩;rw [zgG,e,zhp]; rfl
theorem znm (mask i b : Nat) : ∀ n,(lp mask i b n).2 = b / 32 ^ n
 | 0=>by simp [lp]
 | n + 1=>by
   show (lp mask i b n).2 / 32 = _
   rw [znm mask i b n,WV,qH]
theorem zrb (mask i b c : Nat) (h : b / 32 ^ c = 0) : ∀ n,(lp mask i b (c + 1 + n)).1 = it n (lp mask i b (c + 1)).1 % (mask + 1)
 | 0=>by
   show (lp mask i b (c + 1)).1 = (lp mask i b (c + 1)).1 % (mask + 1)
   show _ % _ = _ % _ % _
   rw [Nat.mod_mod]
 | n + 1=>by
   show ((lp mask i b (c + 1 + n)).1 * 5 + 1 + (lp mask i b (c + 1 + n)).2 / 32) % (mask + 1) = g (it n _) % _
   have : (lp mask i b (c + 1 + n)).2 / 32 = 0:=by
     rw [znm]
     have : b / 32 ^ (c + 1 + n) = 0:=by
       rw [Vk,Nat.pow_add,<- qH,h,Nat.zero_div]
     rw [this]
   rw [this,zrb mask i b c h n];unfold g;rw [Nat.add_zero,Nat.add_mod,Q0,Nat.mod_mod,<- Q0,<- Nat.add_mod]
theorem zlY (h : Int) : bits h < 2 ^ 64:=by unfold bits; omega
theorem zrd {mask k : Nat} (hm : mask + 1 = 2 ^ k) {i b : Nat} (hb : b < 2 ^ 64) {j : Nat} (hj : j <= mask) : ∃ m,m <= mask + 14 /\ (lp mask i b m).1 = j:=by
 have h0 : b / 32 ^ 13 = 0:=Nat.div_eq_of_lt (wL hb (by decide));obtain ⟨n,hn,e⟩:=zsQ k (lp mask i b 14).1 j;refine ⟨13 + 1 + n,by omega,?_⟩;rw [zrb mask i b 13 h0,hm,e,Nat.mod_eq_of_lt (by omega)]
theorem zmH {mask k : Nat} (hm : mask + 1 = 2 ^ k) {i b : Nat} (hb : b < 2 ^ 64) {j : Nat} (hj : j <= mask) : ∃ n,n < 10 * turns mask /\ (way mask (zei mask i b) n).j = j:=by
 obtain ⟨m,hm',e⟩:=zrd hm (i:=i) hb hj;obtain ⟨n,hn,e'⟩:=znq mask i b m;refine ⟨n,by unfold turns; omega,?_⟩;rw [e']; exact e
theorem zf4 {mask i : Nat} (h : i <= mask) : i <= runEnd mask i /\ runEnd mask i <= mask:=by unfold runEnd; split <;> omega
theorem zph {mask : Nat} {p : Probe} (h : p.j + p.more <= mask) : ∀ n,(way mask p n).j + (way mask p n).more <= mask
 | 0=>h
 | n + 1=>by
   have ih:=zph h n
   show (adv mask (way mask p n)).j + (adv mask (way mask p n)).more <= mask
   unfold adv
   split
   . dsimp only; omega
   . dsimp only
     have : (leap mask (way mask p n).i (way mask p n).perturb).1 <= mask:=by
       unfold leap; dsimp only; exact WL (qU _ (qp _))
     have:=zf4 this;omega
theorem zoN (mask : Nat) (h : Int) (n : Nat) : (way mask (start mask h) n).j <= mask:=by
 have h1 : bits h % (mask + 1) <= mask:=WL (qU _ (qp _));have h2:=zf4 h1;have:=zph (mask:=mask) (p:=start mask h) (by unfold start zei; dsimp only; omega) n;omega
def In (t : SetTable) (j : Nat) : Prop:=∃ i,i < t.place.size /\ t.place.getD i 0 = j
structure Tb (t : SetTable) (hs : List Int) : Prop where
 ris : Ris t.place
 size : t.place.size = hs.length
 dum : t.dummies = #[]
 two : ∃ k,3 <= k /\ t.mask + 1 = 2 ^ k
 le : ∀ i,i < t.place.size -> t.place.getD i 0 <= t.mask
 room : t.place.size <= t.mask
 path : ∀ i,i < t.place.size -> ∃ n,(way t.mask (start t.mask (hs.getD i 0)) n).j = t.place.getD i 0 /\ ∀ m,m < n -> In t (way t.mask (start t.mask (hs.getD i 0)) m).j
theorem ztr {P : Nat -> Prop} {n : Nat} (h : P n) : ∃ m,m <= n /\ P m /\ ∀ k,k < m -> ¬ P k:=by
 induction n using Nat.strongRecOn with
 | _ n ih =>
   by_cases c : ∃ k,k < n /\ P k
   . obtain ⟨k,hk,hp⟩:=c
     obtain ⟨m,h1,h2,h3⟩:=ih k hk hp;exact ⟨m,by omega,h2,h3⟩
   . exact ⟨n,wg _,h,λ k hk hp=>c ⟨k,hk,hp⟩⟩
theorem zjb {xs : Array Nat} (R : Ris xs) {i j : Nat} (hi : i < xs.size) (hj : j < xs.size) (e : xs.getD i 0 = xs.getD j 0) : i = j:=by
 rcases qg i j with q | q | q
 . have:=R i j q hj; omega
 . exact q
 . have:=R j i q hi; omega
theorem znX {t : SetTable} (R : Ris t.place) : ∀ j,(∀ j',j' <= j -> In t j') -> ∃ i,i < t.place.size /\ t.place.getD i 0 = j /\ j <= i
 | 0,h=>by obtain ⟨i,hi,e⟩:=h 0 (wg _); exact ⟨i,hi,e,vB _⟩
 | j + 1,h=>by
   obtain ⟨i,hi,e,hle⟩:=znX R j λ j' hj'=>h j' (by omega)
   obtain ⟨i',hi',e'⟩:=h (j + 1) (wg _);refine ⟨i',hi',e',?_⟩;rcases qg i i' with q | q | q
   . omega
   . subst q; omega
   . have:=R i' i q hi; omega
theorem Tb.gap {t : SetTable} {hs : List Int} (b : Tb t hs) : ∃ j,j <= t.mask /\ ¬ In t j:=by
 refine WP λ c=>?_
 obtain ⟨i,hi,e,hle⟩:=znX b.ris t.place.size λ j' hj'=>WP λ d=>c ⟨j',wV hj' b.room,d⟩
 omega
theorem Tb.free {t : SetTable} {hs : List Int} (b : Tb t hs) (h : Int) : ∃ n,n < 10 * turns t.mask /\ ¬ In t (way t.mask (start t.mask h) n).j /\ ∀ m,m < n -> In t (way t.mask (start t.mask h) m).j:=by
 obtain ⟨j,hj,hn⟩:=b.gap;obtain ⟨k,_,hk⟩:=b.two;obtain ⟨n,hn',e⟩:=zmH hk (i:=bits h % (t.mask + 1)) (zlY h) hj;obtain ⟨m,h1,h2,h3⟩:=ztr (P:=λ n=>¬ In t (way t.mask (start t.mask h) n).j) (n:=n) (by show ¬ In t _; unfold start; rw [e]; exact hn);exact ⟨m,by omega,h2,λ k hk=>WP (h3 k hk)⟩
theorem zjx {t : SetTable} (R : Ris t.place) (D : t.dummies = #[]) (hashAt : Nat -> Int) (h : Int) {p : Probe} (dm : p.dummy = none) {n0 : Nat} (hE : ¬ In t (way t.mask p n0).j) (hF : ∀ m,m < n0 -> In t (way t.mask p m).j) :
   ∀ fuel n,n <= n0 -> n0 - n < fuel ->
     (∃ m i,n <= m /\ m < n0 /\ i < t.place.size /\ t.place.getD i 0 = (way t.mask p m).j /\ hashAt i = h /\ (∀ k,n <= k -> k < m -> ∀ i',i' < t.place.size -> t.place.getD i' 0 = (way t.mask p k).j -> hashAt i' ≠ h) /\
       qh t hashAt h fuel (way t.mask p n) = some (.candidate (way t.mask p m).j i (way t.mask p (m + 1)))) \/
     ((∀ k,n <= k -> k < n0 -> ∀ i',i' < t.place.size -> t.place.getD i' 0 = (way t.mask p k).j -> hashAt i' ≠ h) /\
       qh t hashAt h fuel (way t.mask p n) = some (.empty (way t.mask p n0).j none))
 | 0,n,_,hf=>absurd hf (vT _)
 | fuel + 1,n,hn,hf=>by
   unfold qh;rcases zgM R D (way t.mask p n).j with ⟨i,hi,e,es⟩ | ⟨no,es⟩
   . rw [es]
     dsimp only
     have hlt : n < n0:=by
       rcases wK n n0 with q | q
       . exact q
       . have : n = n0:=by omega
         subst this;exact absurd ⟨i,hi,e⟩ hE
     by_cases c : hashAt i = h
     . rw [if_pos (by simpa using c)]
       exact .inl ⟨n,i,wg _,hlt,hi,e,c,λ k h1 h2=>absurd h1 (by omega),rfl⟩
     . rw [if_neg (by simpa using c)]
       have here : ∀ i',i' < t.place.size -> t.place.getD i' 0 = (way t.mask p n).j -> hashAt i' ≠ h:=λ i' hi' e'=>by
         rw [zjb R hi' hi (e'.trans e.symm)]; exact c
       rcases zjx R D hashAt h dm hE hF fuel (n + 1) hlt (by omega) with ⟨m,i2,a1,a2,a3,a4,a5,a6,a7⟩ | ⟨a1,a2⟩
       . refine .inl ⟨m,i2,by omega,a2,a3,a4,a5,λ k h1 h2 i' hi' e'=>?_,a7⟩
         rcases Wu h1 with q | q
         . subst q; exact here i' hi' e'
         . exact a6 k q h2 i' hi' e'
       . refine .inr ⟨λ k h1 h2 i' hi' e'=>?_,a2⟩
         rcases Wu h1 with q | q
         . subst q; exact here i' hi' e'
         . exact a1 k q h2 i' hi' e'
   . rw [es]
     dsimp only
     have : n = n0:=by
       rcases wK n n0 with q | q
       . obtain ⟨i,hi,e⟩:=hF n q
         exact absurd e (no i hi)
       . omega
     subst this;refine .inr ⟨λ k h1 h2=>absurd h1 (by omega),?_⟩;rw [zis,dm]
def zdU {α : Type} (l : List α) (p : Nat) (x : α) : List α:=l.take p ++ x :: l.drop p
theorem zfn {α : Type} {l : List α} {p : Nat} (x : α) (hp : p <= l.length) (i : Nat) : (zdU l p x)[i]? = if i < p then l[i]? else if i = p then some x else l[i - 1]?:=by
 unfold zdU;have hl : (l.take p).length = p:=by rw [wC]; omega
 by_cases a : i < p
 . rw [if_pos a,vv (by omega),ql a]
 . rw [if_neg a,vp (by omega),hl]
   by_cases b : i = p
   . rw [if_pos b,b,VR]; rfl
   . rw [if_neg b]
     have : i - p = (i - 1 - p) + 1:=by omega
     rw [this,Vw,List.getElem?_drop]
     congr 1; omega
theorem zeA {α : Type} {l : List α} {p : Nat} (x : α) (hp : p <= l.length) : (zdU l p x).length = l.length + 1:=by
 unfold zdU; rw [wf,wC,wU,wP]; omega
theorem zcQ {α : Type} (xs : Array α) (p : Nat) (x : α) : (vP xs p x).toList = zdU xs.toList p x:=by
 unfold vP zdU;simp;exact W8 (by simp)
theorem zde {xs : Array Nat} {p : Nat} (x : Nat) (hp : p <= xs.size) (i : Nat) : (vP xs p x).getD i 0 = if i < p then xs.getD i 0 else if i = p then x else xs.getD (i - 1) 0:=by
 rw [wR,<- vt,zcQ,zfn x (by simpa using hp)]
 split
 . rw [wR,<- vt]
 . split
   . rfl
   . rw [wR,<- vt]
theorem ziq {xs : Array Nat} {p : Nat} (x : Nat) (hp : p <= xs.size) : (vP xs p x).size = xs.size + 1:=by
 rw [<- wu,zcQ,zeA x (by simpa using hp),wu]
theorem zmQ {l : List Int} {p : Nat} (x : Int) (hp : p <= l.length) (i : Nat) : (zdU l p x).getD i 0 = if i < p then l.getD i 0 else if i = p then x else l.getD (i - 1) 0:=by
 rw [wc,zfn x hp]
 split
 . rw [wc]
 . split
   . rfl
   . rw [wc]
theorem Tb.put {t : SetTable} {hs : List Int} (b : Tb t hs) {h : Int} {n : Nat} (hE : ¬ In t (way t.mask (start t.mask h) n).j) (hF : ∀ m,m < n -> In t (way t.mask (start t.mask h) m).j) (hr : t.place.size + 1 <= t.mask) :
   (t.put (way t.mask (start t.mask h) n).j).2 <= hs.length /\ Tb (t.put (way t.mask (start t.mask h) n).j).1 (zdU hs (t.put (way t.mask (start t.mask h) n).j).2 h):=by
 generalize hj : (way t.mask (start t.mask h) n).j = j at *;have hjm : j <= t.mask:=by rw [<- hj]; exact zoN t.mask h n
 obtain ⟨q1,q2,q3⟩:=zhl b.ris j;have hd : Qo t.dummies j = false:=by rw [b.dum]; rfl
 have e2 : (t.put j).2 = vZ t.place j:=rfl;have ep : (t.put j).1.place = vP t.place (vZ t.place j) j:=rfl;have em : (t.put j).1.mask = t.mask:=rfl
 have edm : (t.put j).1.dummies = #[]:=by
   show (if Qo t.dummies j = true then _ else t.dummies) = _
   rw [hd]; exact b.dum
 rw [e2];generalize vZ t.place j = p at *;have hp : p <= hs.length:=by rw [<- b.size]; exact q1
 have inn : ∀ x,In t x -> In (t.put j).1 x:=λ x ⟨i,hi,e⟩=>by
   unfold In;rw [ep,ziq j q1];rcases wK i p with a | a
   . exact ⟨i,by omega,by rw [zde j q1,if_pos a]; exact e⟩
   . exact ⟨i + 1,by omega,by rw [zde j q1,if_neg (by omega),if_neg (by omega)]; exact e⟩
 have ns : (t.put j).1.place.size = t.place.size + 1:=by rw [ep,ziq j q1]
 have gt : ∀ k,p <= k -> k < t.place.size -> j < t.place.getD k 0:=λ k h1 h2=>by
   have:=q3 k h1 h2;have : t.place.getD k 0 ≠ j:=λ e=>hE ⟨k,h2,e⟩
   omega
 refine ⟨hp,⟨?_,?_,edm,em ▸ b.two,?_,?_,?_⟩⟩
 . intro i k hik hk
   rw [ns] at hk;rw [ep,zde j q1,zde j q1]
   by_cases a : k < p
   . rw [if_pos (by omega),if_pos a]; exact b.ris i k hik (by omega)
   . rw [if_neg a]
     by_cases c : k = p
     . rw [if_pos c,if_pos (by omega)]; exact q2 i (by omega)
     . rw [if_neg c]
       by_cases d : i < p
       . rw [if_pos d]; exact Qk (q2 i d) (gt (k - 1) (by omega) (by omega))
       . rw [if_neg d]
         by_cases f : i = p
         . rw [if_pos f]; exact gt (k - 1) (by omega) (by omega)
         . rw [if_neg f]; exact b.ris (i - 1) (k - 1) (by omega) (by omega)
 . rw [ns,zeA h hp,b.size]
 . intro i hi
   rw [ns] at hi;rw [ep,zde j q1,em]
   split
   . exact b.le i (by omega)
   . split
     . exact hjm
     . exact b.le (i - 1) (by omega)
 . rw [ns,em]; exact hr
 . intro i hi
   rw [ns] at hi;rw [ep,zde j q1,em,zmQ h hp]
   split
   . obtain ⟨m,h1,h2⟩:=b.path i (by omega)
     exact ⟨m,h1,λ k hk=>inn _ (h2 k hk)⟩
   . split
     . exact ⟨n,hj,λ k hk=>inn _ (hF k hk)⟩
     . obtain ⟨m,h1,h2⟩:=b.path (i - 1) (by omega)
       exact ⟨m,h1,λ k hk=>inn _ (h2 k hk)⟩
structure Ow (mask : Nat) (ow : Array (Option Nat)) (hs : List Int) : Prop where
 size : ow.size = mask + 1
 cnt : ow.toList.countP xM = hs.length
 inj : ∀ j j' k,ow.getD j none = some k -> ow.getD j' none = some k -> j = j'
 lt : ∀ j k,ow.getD j none = some k -> k < hs.length
 has : ∀ k,k < hs.length -> ∃ j,ow.getD j none = some k
 path : ∀ k j,ow.getD j none = some k -> ∃ n,(way mask (start mask (hs.getD k 0)) n).j = j /\ ∀ m,m < n -> ow.getD (way mask (start mask (hs.getD k 0)) m).j none ≠ none
theorem zma (mask i b : Nat) : ∀ m,lp mask i b (m + 1) = lp mask (leap mask i b).1 (leap mask i b).2 m
 | 0=>rfl
 | m + 1=>by
   show leap mask (lp mask i b (m + 1)).1 (lp mask i b (m + 1)).2 = leap mask (lp mask (leap mask i b).1 (leap mask i b).2 m).1 _
   rw [zma mask i b m]
theorem zhA {ow : Array (Option Nat)} {j : Nat} (h : j < ow.size) (d e : Option Nat) : ow.getD j d = ow.getD j e:=by simp [xp,h]
theorem zic {mask : Nat} {ow : Array (Option Nat)} (hz : ow.size = mask + 1) : ∀ fuel i b,i <= mask -> (∃ m,m < fuel /\ ow.getD (lp mask i b m).1 none = none /\ (lp mask i b m).1 <= mask) ->
   ∃ j n,Wq mask ow fuel i b = some j /\ (way mask (zei mask i b) n).j = j /\ j <= mask /\ ow.getD j none = none /\ ∀ m,m < n -> ow.getD (way mask (zei mask i b) m).j none ≠ none
 | 0,i,b,_,⟨m,h,_⟩=>absurd h (vT _)
 | fuel + 1,i,b,hi,⟨m,hm,hn,hle⟩=>by
   unfold Wq;have hr:=zf4 hi;cases hf : (wo (runEnd mask i + 1 - i)).find? λ k=>(ow.getD (i + k) (some 0)).isNone with
   | some k =>
     rw [List.find?_range_eq_some] at hf;obtain ⟨h1,h2,h3⟩:=hf;have h2 : k < runEnd mask i + 1 - i:=by simpa using h2
     refine ⟨i + k,k,rfl,?_,by omega,?_,λ m hm=>?_⟩
     . rw [zfu mask i b k (by omega)]
     . rw [zhA (by omega) none (some 0)]; simpa using h1
     . rw [zfu mask i b m (by omega)]
       have:=h3 m hm
       show ow.getD (i + m) none ≠ none
       rw [zhA (by omega) none (some 0)];intro e;rw [e] at this;exact absurd this (by decide)
   | none =>
     rw [List.find?_range_eq_none] at hf
     have all : ∀ k,k <= runEnd mask i - i -> ow.getD (i + k) none ≠ none:=λ k hk e=>by
       have:=hf k (by omega);rw [zhA (by omega) (some 0) none,e] at this;exact absurd this (by decide)
     cases m with
     | zero=>exact absurd hn (all 0 (vB _))
     | succ m =>
       rw [zma] at hn hle;have hi' : (leap mask i b).1 <= mask:=by unfold leap; dsimp only; exact WL (qU _ (qp _))
       obtain ⟨j,n,e1,e2,e3,e4,e5⟩:=zic hz fuel (leap mask i b).1 (leap mask i b).2 hi' ⟨m,by omega,hn,hle⟩;refine ⟨j,runEnd mask i - i + 1 + n,e1,by rw [zgG,zhp]; exact e2,e3,e4,λ m' hm'=>?_⟩;rcases wK m' (runEnd mask i - i + 1) with q | q
       . rw [zfu mask i b m' (by omega)]; exact all m' (by omega)
       . have : m' = runEnd mask i - i + 1 + (m' - (runEnd mask i - i + 1)):=by omega
         rw [this,zgG,zhp];exact e5 _ (by omega)
theorem Ow.gap {mask : Nat} {ow : Array (Option Nat)} {hs : List Int} (o : Ow mask ow hs) (h : hs.length <= mask) : ∃ j,j <= mask /\ ow.getD j none = none:=by
 refine WP λ c=>?_
 have : ow.toList.countP xM = ow.toList.length:=List.countP_eq_length.mpr λ a ha=>by
   obtain ⟨j,hj,e⟩:=Wo ha;rw [wu,o.size] at hj;cases a with
   | some _=>rfl
   | none =>
     refine absurd ⟨j,by omega,?_⟩ c;rw [wR,<- vt,we (by rw [wu,o.size]; exact hj),e]
     rfl
 have h2 : ow.toList.length = mask + 1:=by rw [wu,o.size]
 have:=o.cnt;omega
theorem znO {ow : Array (Option Nat)} {j : Nat} (h : j < ow.size) (v : Option Nat) (x : Nat) : (ow.setIfInBounds j v).getD x none = if x = j then v else ow.getD x none:=by
 rw [wR,Array.getElem?_setIfInBounds]
 by_cases e : j = x
 . subst e; rw [if_pos rfl,if_pos rfl,if_pos h]; rfl
 . rw [if_neg e,if_neg (λ q=>e q.symm),wR]
theorem Ow.step {mask k : Nat} (hm : mask + 1 = 2 ^ k) {ow : Array (Option Nat)} {hs : List Int} (o : Ow mask ow hs) (hl : hs.length <= mask) (h : Int) :
   ∃ j,Wq mask ow (turns mask) (bits h % (mask + 1)) (bits h) = some j /\ Ow mask (ow.setIfInBounds j (some hs.length)) (hs ++ [h]):=by
 obtain ⟨j0,hj0,e0⟩:=o.gap hl;obtain ⟨m,hm',em⟩:=zrd hm (i:=bits h % (mask + 1)) (zlY h) hj0;obtain ⟨j,n,e1,e2,e3,e4,e5⟩:=zic o.size (turns mask) (bits h % (mask + 1)) (bits h) (WL (qU _ (qp _))) ⟨m,by unfold turns; omega,by rw [em]; exact e0,by rw [em]; exact hj0⟩;have hjs : j < ow.size:=by rw [o.size]; omega
 have G:=znO hjs (some hs.length);have hlen : (hs ++ [h]).length = hs.length + 1:=by simp
 have old : ∀ k,k < hs.length -> (hs ++ [h]).getD k 0 = hs.getD k 0:=λ k hk=>by
   rw [wc,wc,vv hk]
 refine ⟨j,e1,⟨by simpa using o.size,?_,?_,?_,?_,?_⟩⟩
 . rw [Array.toList_setIfInBounds,List.countP_set (by simpa using hjs),o.cnt,hlen]
   have : ow.toList[j]'(by simpa using hjs) = none:=by
     rw [wR,vy hjs] at e4
     simpa using e4
   simp [this]
 . intro x x' k h1 h2
   rw [G] at h1 h2
   split at h1
   . split at h2
     . rename_i a b; rw [a,b]
     . have:=o.lt _ _ h2; have:=wH h1; omega
   . split at h2
     . have:=o.lt _ _ h1; have:=wH h2; omega
     . exact o.inj _ _ _ h1 h2
 . intro x k h1
   rw [G] at h1;rw [hlen]
   split at h1
   . have:=wH h1; omega
   . have:=o.lt _ _ h1; omega
 . intro k hk
   rw [hlen] at hk;rcases wK k hs.length with q | q
   . obtain ⟨x,hx⟩:=o.has k q
     refine ⟨x,?_⟩;rw [G,if_neg]
     . exact hx
     . intro e; rw [e,e4] at hx; cases hx
   . refine ⟨j,?_⟩
     rw [G,if_pos rfl]; congr 1; omega
 . intro k x h1
   rw [G] at h1
   have keep : ∀ y,ow.getD y none ≠ none -> (ow.setIfInBounds j (some hs.length)).getD y none ≠ none:=λ y hy=>by
     rw [G]; split
     . exact λ z=>nomatch z
     . exact hy
   split at h1
   . rename_i ex
     have ek : k = hs.length:=(wH h1).symm;have : (hs ++ [h]).getD k 0 = h:=by rw [ek,wc,vp (wg _),VR]; rfl
     rw [this,ex];exact ⟨n,e2,λ m hm=>keep _ (e5 m hm)⟩
   . rw [old k (o.lt _ _ h1)]
     obtain ⟨n',a1,a2⟩:=o.path k x h1;exact ⟨n',a1,λ m hm=>keep _ (a2 m hm)⟩
theorem Ow.nil (mask : Nat) : Ow mask (xq (mask + 1) none) []:=by
 have G : ∀ j,(xq (mask + 1) (none : Option Nat)).getD j none = none:=λ j=>by
   rw [wR,Array.getElem?_replicate]; split <;> rfl
 refine ⟨by simp,?_,λ j j' k h=>?_,λ j k h=>?_,λ k h=>absurd h (vT _),λ k j h=>?_⟩
 . rw [Array.toList_replicate,List.countP_replicate]; rfl
 all_goals (rw [G] at h; cases h)
theorem zjE {mask k : Nat} (hm : mask + 1 = 2 ^ k) : ∀ (l : List Int) (ow : Array (Option Nat)) (hs : List Int),Ow mask ow hs -> hs.length + l.length <= mask + 1 ->
   ∃ ow',(l.foldl (init:=some (ow,hs.length)) λ (acc : Option (Array (Option Nat) × Nat)) h=>do
     let (owner,k) <- acc
     let j <- Wq mask owner (turns mask) (bits h % (mask + 1)) (bits h)
     pure (owner.setIfInBounds j (some k),k + 1)) = some (ow',hs.length + l.length) /\ Ow mask ow' (hs ++ l)
 | [],ow,hs,o,_=>⟨ow,rfl,by rw [vS]; exact o⟩
 | h :: l,ow,hs,o,hl=>by
   rw [wU] at hl;obtain ⟨j,e,o'⟩:=o.step hm (by omega) h;have hlen : (hs ++ [h]).length = hs.length + 1:=by simp
   obtain ⟨ow',e',o''⟩:=zjE hm l _ _ o' (by omega);refine ⟨ow',?_,by rw [Vx] at o''; exact o''⟩;rw [xh]
   have : (do
     let (owner,k) <- some (ow,hs.length)
     let j <- Wq mask owner (turns mask) (bits h % (mask + 1)) (bits h)
     pure (owner.setIfInBounds j (some k),k + 1) : Option (Array (Option Nat) × Nat)) = some (ow.setIfInBounds j (some hs.length),hs.length + 1):=by
     show (Wq mask ow (turns mask) (bits h % (mask + 1)) (bits h) >>= _) = _
     rw [e]; rfl
   rw [this,<- hlen,e',hlen,wU]
   congr 2; omega
theorem zst {mask k : Nat} (hm : mask + 1 = 2 ^ k) {hs : Array Int} (hl : hs.size <= mask + 1) : ∃ ow,QN mask hs = some ow /\ Ow mask ow hs.toList:=by
 obtain ⟨ow,e,o⟩:=zjE hm hs.toList _ [] (Ow.nil mask) (by simpa using hl);refine ⟨ow,?_,by simpa using o⟩;unfold QN;rw [<- Array.foldl_toList];have:=congrArg (Xg (·.1)) e;exact this
def live (mask : Nat) (ow : Array (Option Nat)) : List (Nat × Nat):=(wo (mask + 1)).filterMap λ j=>(ow.getD j none).map (j,·)
theorem zeG {mask : Nat} {ow : Array (Option Nat)} (hz : ow.size = mask + 1) {j k : Nat} : (j,k) ∈ live mask ow ↔ ow.getD j none = some k:=by
 unfold live;rw [Vo]
 constructor
 . rintro ⟨x,_,e⟩
   cases h : ow.getD x none with
   | none=>rw [h] at e; cases e
   | some y=>rw [h] at e; cases e; exact h
 . intro h
   refine ⟨j,?_,by rw [h]; rfl⟩;rw [wS];rcases wK j (mask + 1) with q | q
   . exact q
   . rw [wR,VF (by omega)] at h; cases h
theorem zil {mask : Nat} {ow : Array (Option Nat)} {hs : List Int} (o : Ow mask ow hs) : (live mask ow).Pairwise λ x y=>x.1 < y.1 /\ x.2 ≠ y.2:=by
 unfold live;rw [List.pairwise_filterMap];refine Xc ?_ List.pairwise_lt_range;intro a b _ _ hab x hx y hy;cases h1 : ow.getD a none with
 | none=>rw [h1] at hx; cases hx
 | some u =>
   cases h2 : ow.getD b none with
   | none=>rw [h2] at hy; cases hy
   | some v =>
     rw [h1] at hx; rw [h2] at hy;cases hx; cases hy;refine ⟨hab,λ e=>?_⟩;have : u = v:=e;subst this;have:=o.inj _ _ _ h1 h2;omega
theorem zkV {mask : Nat} {ow : Array (Option Nat)} {hs : List Int} (o : Ow mask ow hs) : ((live mask ow).map (·.2)).Perm (wo hs.length):=by
 refine (qa ?_ VL).mpr λ k=>?_
 . show xK _ _
   rw [QP];exact (zil o).imp λ h=>h.2
 . rw [wS,wT]
   constructor
   . rintro ⟨⟨j,k'⟩,h,rfl⟩
     exact o.lt _ _ ((zeG o.size).mp h)
   . intro h
     obtain ⟨j,hj⟩:=o.has k h;exact ⟨(j,k),(zeG o.size).mpr hj,rfl⟩
theorem zpP {mask k : Nat} (k3 : 3 <= k) (hm : mask + 1 = 2 ^ k) (finger moves : Nat) (led plain : Bool) {hs : Array Int} (hl : hs.size <= mask) :
   ∃ (t : SetTable) (ord : Array Nat),xN mask finger moves led plain hs = some (t,ord) /\ t.mask = mask /\ t.led = led /\ t.plain = plain /\ t.moves = moves /\ ord.toList.Perm (wo hs.size) /\ Tb t (ord.toList.map λ k=>hs.toList.getD k 0):=by
 obtain ⟨ow,e,o⟩:=zst hm (hs:=hs) (by omega);have op:=zkV o;rw [wu] at op;have ll : (live mask ow).length = hs.size:=by have:=op.length_eq; simpa using this
 refine ⟨{ mask,place:=((live mask ow).map (·.1)).toArray,dummies:=#[],finger,led,moves,plain },((live mask ow).map (·.2)).toArray,?_,rfl,rfl,rfl,rfl,by simpa using op,?_⟩
 . unfold xN
   rw [e]; rfl
 . have pz : (((live mask ow).map (·.1)).toArray).size = (live mask ow).length:=by simp
   have pg : ∀ i (h : i < (live mask ow).length),(((live mask ow).map (·.1)).toArray).getD i 0 = ((live mask ow)[i]).1:=λ i h=>by
     rw [wR]; simp [h]
   have inn : ∀ x,ow.getD x none ≠ none -> In { mask,place:=((live mask ow).map (·.1)).toArray,dummies:=#[],finger,led,moves,plain } x:=λ x hx=>by
     cases hy : ow.getD x none with
     | none=>exact absurd hy hx
     | some y =>
       obtain ⟨i,hi,ei⟩:=Wo ((zeG o.size).mpr hy);exact ⟨i,by show i < (((live mask ow).map (·.1)).toArray).size; rw [pz]; exact hi,by show (((live mask ow).map (·.1)).toArray).getD i 0 = x; rw [pg i hi,ei]⟩
   refine ⟨?_,?_,rfl,⟨k,k3,hm⟩,?_,?_,?_⟩
   . intro i j hij hj
     have hj : j < (live mask ow).length:=by rw [<- pz]; exact hj
     show (((live mask ow).map (·.1)).toArray).getD i 0 < (((live mask ow).map (·.1)).toArray).getD j 0
     rw [pg i (by omega),pg j hj];exact (List.pairwise_iff_getElem.mp (zil o) i j (by omega) hj hij).1
   . show (((live mask ow).map (·.1)).toArray).size = _
     rw [pz]; simp
   . intro i hi
     have hi : i < (live mask ow).length:=by rw [<- pz]; exact hi
     show (((live mask ow).map (·.1)).toArray).getD i 0 <= mask
     rw [pg i hi];have:=(zeG o.size).mp (show (((live mask ow)[i]).1,((live mask ow)[i]).2) ∈ live mask ow from vb hi);rcases wK ((live mask ow)[i]).1 (mask + 1) with q | q
     . omega
     . rw [wR,VF (by rw [o.size]; omega)] at this; cases this
   . show (((live mask ow).map (·.1)).toArray).size <= mask
     rw [pz,ll]; exact hl
   . intro i hi
     have hi : i < (live mask ow).length:=by rw [<- pz]; exact hi
     have hm':=(zeG o.size).mp (show (((live mask ow)[i]).1,((live mask ow)[i]).2) ∈ live mask ow from vb hi)
     have eh : (((live mask ow).map (·.2)).toArray.toList.map λ k=>hs.toList.getD k 0).getD i 0 = hs.toList.getD ((live mask ow)[i]).2 0:=by
       rw [wc]; simp [hi]
     obtain ⟨n,a1,a2⟩:=o.path _ _ hm'
     show ∃ n,(way mask (start mask (_)) n).j = (((live mask ow).map (·.1)).toArray).getD i 0 /\ _
     rw [pg i hi,eh];exact ⟨n,a1,λ m hm=>inn _ (a2 m hm)⟩
theorem zqN (n : Nat) : ∀ (fuel size : Nat),∃ m,vN n fuel size = size * 2 ^ m /\ (n < size * 2 ^ fuel -> n < vN n fuel size) /\ (vN n fuel size <= size \/ vN n fuel size <= 2 * n)
 | 0,size=>⟨0,by simp [vN],λ h=>by simpa [vN] using h,.inl (by simp [vN])⟩
 | fuel + 1,size=>by
   unfold vN
   by_cases c : size <= n
   . rw [if_pos c]
     obtain ⟨m,h1,h2,h3⟩:=zqN n fuel (size * 2);refine ⟨m + 1,?_,λ h=>h2 ?_,?_⟩
     . rw [h1,WV,VY (2 ^ m) 2,Wr]
     . rw [WV,VY (2 ^ fuel) 2,<- Wr] at h; exact h
     . rcases h3 with h3 | h3 <;> right <;> omega
   . rw [if_neg c]
     exact ⟨0,by simp,λ _=>by omega,.inl (wg _)⟩
theorem zs6 {n : Nat} (h1 : 1 <= n) (h : n <= 4000) : ∃ k,3 <= k /\ W3 (4 * n) - 1 + 1 = 2 ^ k /\ 4 * n <= W3 (4 * n) - 1 /\ W3 (4 * n) <= 8 * n:=by
 obtain ⟨m,e1,e2,e3⟩:=zqN (4 * n) 64 8;have e0 : W3 (4 * n) = vN (4 * n) 64 8:=rfl
 have lt := e2 (by have : (8 * 2 ^ 64 : Nat) = 147573952589676412928 := by decide
                   omega)
 rw [e0];refine ⟨m + 3,by omega,?_,by omega,by omega⟩;rw [Nat.sub_add_cancel (by omega),e1,Nat.pow_add,VY]
section
variable {prog : Program} {w : World} {K : Type} [DecidableEq K] {knd : KeyKind prog w K} {U : Addr -> List K -> Prop} {A : Around} {E : Value -> Shared -> Prop} {s : Shared}
def Ent (knd : KeyKind prog w K) (U : Addr -> List K -> Prop) (h : Heap) (e : Int × Value) (k : List K) : Prop:=∃ a,e.2 = .ref a /\ IsTupleKey knd h k a /\ e.1 = tupleKeyHash knd k /\ U a k
theorem zhT (n : Nat) {v : Value} (h : carriedByValue v = true) : ofAClassStatement n v = pure false:=by
 cases v with
 | ref a=>simp [carriedByValue] at h
 | _=>first | rfl | simp [ofAClassStatement] | (unfold ofAClassStatement; rfl)
theorem zhD {x : Addr} {k : List K} (hx : IsTupleKey knd s.heap k x) {Q : Bool -> Shared -> Prop} (q : Q false s) : wpAny (model prog w) A (ofAClassStatement 8 (.ref x)) Q E s:=by
 have hT:=hx.typeIs;obtain ⟨o,items,n,ho,hc,hd,hi⟩:=hx;unfold ofAClassStatement;refine wpAny_bind (wpAny_typeOf hT ?_);dsimp only;rw [if_pos (by decide)];refine wpAny_bind (wpAny_pure ?_);simp only [Wf,wN,if_false];refine wpAny_bind (wpAny_seqItems ho hd ?_);refine wpAny_bind ?_
 show wpAny _ _ (forIn items _ _) _ _ s
 rw [<- Vs];refine wpAny_forIn_list _ (λ rest r s'=>r.1 = none /\ s' = s /\ ∀ v ∈ rest,carriedByValue v = true) _ ?_ ?_ _ _ ⟨rfl,rfl,hi.byValue⟩
 . rintro v rest r s' ⟨hr,rfl,hall⟩
   rw [zhT _ (hall v wO)];refine wpAny_bind (wpAny_pure ?_);simp only [wN,if_false];exact wpAny_pure ⟨rfl,rfl,λ u hu'=>hall u (wI _ hu')⟩
 . rintro ⟨r1,r2⟩ s' ⟨hr,rfl,_⟩
   simp only at hr;subst hr;exact wpAny_pure q
theorem zmO {x : Addr} {k : List K} (hx : IsTupleKey knd s.heap k x) : ∀ (l : List Value),(∀ v ∈ l,∃ y k',v = .ref y /\ IsTupleKey knd s.heap k' y) -> ∀ {Q : Bool -> Shared -> Prop},Q false s -> wpAny (model prog w) A (searchCouldBeSeen (.ref x) l) Q E s:=by
 intro l hl Q q;unfold searchCouldBeSeen;refine wpAny_bind ?_;refine wpAny_forIn_list _ (λ rest r s'=>r.1 = none /\ s' = s /\ ∀ v ∈ rest,∃ y k',v = .ref y /\ IsTupleKey knd s.heap k' y) _ ?_ ?_ _ _ ⟨rfl,rfl,hl⟩
 . rintro v rest r s' ⟨hr,rfl,hall⟩
   obtain ⟨y,k',rfl,hy⟩:=hall v wO;have rst : ∀ v ∈ rest,∃ y k',v = .ref y /\ IsTupleKey knd s'.heap k' y:=λ u hu'=>hall u (wI _ hu')
   dsimp only
   split
   . exact wpAny_pure ⟨rfl,rfl,rst⟩
   . refine wpAny_bind (wpAny_eqIsQuiet_tuple hx ?_)
     simp only [Wf,wN,if_false];refine wpAny_bind (wpAny_eqIsQuiet_tuple hy ?_);simp only [Wf,wN,if_false];refine wpAny_bind (zhD hx ?_);simp only [Wf,wN,if_false];refine wpAny_bind (zhD hy ?_);simp only [Wf,wN,if_false];exact wpAny_pure ⟨rfl,rfl,rst⟩
 . rintro ⟨r1,r2⟩ s' ⟨hr,rfl,_⟩
   simp only at hr;subst hr;exact wpAny_pure q
theorem zqp {t : SetTable} (R : Ris t.place) (D : t.dummies = #[]) {i j : Nat} (hi : i < t.place.size) (e : t.place.getD i 0 = j) : t.slot j = .live i:=by
 rcases zgM R D j with ⟨i',h1,h2,h3⟩ | ⟨no,_⟩
 . rw [h3,zjb R h1 hi (h2.trans e.symm)]
 . exact absurd e (no i hi)
theorem Ent.inj {h : Heap} {e : Int × Value} {k k' : List K} (a : Ent knd U h e k) (b : Ent knd U h e k') : k = k':=by
 obtain ⟨x,h1,h2,_⟩:=a;obtain ⟨y,h3,h4,_⟩:=b;rw [h1] at h3;cases h3;exact h2.inj h4
theorem Tb.fits {t : SetTable} {hs : List Int} (b : Tb t hs) : t.fits hs.length = true:=by
 unfold SetTable.fits xO;rw [b.dum,b.size];have:=b.room;rw [b.size] at this
 simpa using this
theorem Tb.notGave {t : SetTable} {hs : List Int} (b : Tb t hs) : t.gaveWay = false:=by
 obtain ⟨k',h3,e⟩:=b.two;unfold SetTable.gaveWay;have : 2 ^ k' = 2 * 2 ^ (k' - 1):=by rw [<- Nat.pow_succ']; congr 1; omega
 have : t.mask % 2 = 1:=by omega
 rw [this]; rfl
theorem ziB {a xa : Addr} {k : List K} {o : Obj} {es : Array (Int × Value)} {ep : Nat} {t : SetTable} (hu : A.units < cLine) (hx : IsTupleKey knd s.heap k xa)
   (ho : s.heap.get? a = some o) (hd : o.data = .set es ep t) (b : Tb t (es.toList.map (·.1))) (he : ∀ i (h : i < es.size),∃ k',Ent knd U s.heap es[i] k') (n0 : Nat) (hE : ¬ In t (way t.mask (start t.mask (tupleKeyHash knd k)) n0).j) (hF : ∀ m,m < n0 -> In t (way t.mask (start t.mask (tupleKeyHash knd k)) m).j) (hf0 : n0 < 10 * qN t.mask)
   {Q : SetFound -> Shared -> Prop} (yes : (∃ i,∃ h : i < es.size,Ent knd U s.heap es[i] k) -> Q (.there none) s) (no : (∀ i (h : i < es.size),¬ Ent knd U s.heap es[i] k) -> Q (.free (way t.mask (start t.mask (tupleKeyHash knd k)) n0).j false) s) :
   ∀ (fuel n : Nat) (st : Option SetTable.Probe),n <= n0 -> n0 - n < fuel -> st.getD (t.probeStart (tupleKeyHash knd k)) = way t.mask (start t.mask (tupleKeyHash knd k)) n ->
     (∀ m,m < n -> ∀ i (h : i < es.size),t.place.getD i 0 = (way t.mask (start t.mask (tupleKeyHash knd k)) m).j -> ¬ Ent knd U s.heap es[i] k) ->
     wpAny (model prog w) A (setSearchFrom a (.ref xa) (tupleKeyHash knd k) true fuel st) Q E s
 | 0,n,st,_,hlt,_,_=>absurd hlt (vT _)
 | fuel + 1,n,st,hn,hlt,hst,hno=>by
   have hsz : t.place.size = es.size:=by rw [b.size,wd,wu]
   have hfit : t.fits es.size = true:=by have:=b.fits; rwa [wd,wu] at this
   unfold setSearchFrom;refine wpAny_bind (wpAny_setState_of ho hd hfit ?_);dsimp only;rw [b.notGave,hst];simp only [wN,if_false];have hp:=zjx b.ris b.dum (λ i=>(es[i]?.map (·.1)).getD 0) (tupleKeyHash knd k) (p:=start t.mask (tupleKeyHash knd k)) rfl hE hF (10 * qN t.mask) n hn (by omega);rcases hp with ⟨m,i,m1,m2,i1,i2,i3,i4,e⟩ | ⟨a1,e⟩
   . generalize hP : t.probe _ (tupleKeyHash knd k) (way t.mask (start t.mask (tupleKeyHash knd k)) n) = P
     have eP:=hP.symm.trans e;rw [eP];clear eP hP P e;dsimp only;have ies : i < es.size:=by rw [<- hsz]; exact i1
     obtain ⟨k',a',e1,e2,e3,e4⟩:=he i ies;have eg : es[i]? = some es[i]:=vy ies;have hent : Ent knd U s.heap es[i] k':=⟨a',e1,e2,e3,e4⟩
     have next : k' ≠ k -> wpAny (model prog w) A (setSearchFrom a (.ref xa) (tupleKeyHash knd k) true fuel (some (way t.mask (start t.mask (tupleKeyHash knd k)) (m + 1)))) Q E s:=λ c=>by
       refine ziB hu hx ho hd b he n0 hE hF hf0 yes no fuel (m + 1) _ m2 (by omega) rfl λ m' hm' i' hi' ep' hent'=>?_
       rcases wK m' n with q | q
       . exact hno m' q i' hi' ep' hent'
       . rcases Wu (WL hm') with q' | q'
         . subst q'
           have : i' = i:=zjb b.ris (by rw [hsz]; exact hi') i1 (ep'.trans i2.symm);subst this;exact c (hent.inj hent')
         . refine i4 m' q q' i' (by rw [hsz]; exact hi') ep' ?_
           show (es[i']?.map (·.1)).getD 0 = _
           rw [vy hi'];obtain ⟨_,_,_,e5,_⟩:=hent';exact e5
     have hsl : t.slot (way t.mask (start t.mask (tupleKeyHash knd k)) m).j = .live i:=zqp b.ris b.dum i1 i2;have hsm : t.sameMemory t.moves t.mask = some true:=by unfold SetTable.sameMemory; rw [if_pos (by simp)]
     have unseen : ∀ v ∈ (es.filter λ x=>x.1 == tupleKeyHash knd k).toList.map (λ x=>x.2),∃ y k',v = .ref y /\ IsTupleKey knd s.heap k' y:=λ v hv=>by
       obtain ⟨e0,h0,rfl⟩:=wT.mp hv;rw [Array.toList_filter,Wm] at h0;obtain ⟨j,hj,ej⟩:=Wo h0.1;obtain ⟨k2,y2,f1,f2,_⟩:=he j (by simpa using hj);refine ⟨y2,k2,?_,f2⟩;rw [<- ej,<- f1,Array.getElem_toList]
     have eg' : es[i]? = some (es[i].1,.ref a'):=by rw [eg,<- e1]
     clear eg;generalize es[i].1 = h' at *;have tail : k' = k -> Q (.there none) s:=λ c=>yes ⟨i,ies,c ▸ hent⟩
     cases hl : t.led
     . simp only [xC,if_true]
       refine wpAny_bind (zmO hx _ unseen ?_);simp only [wN,if_false];rw [eg'];dsimp only;refine wpAny_bind (wpAny_holding (wpAny_eqBool_tuple hu e2 hx ?_));refine wpAny_bind (wpAny_setState_of ho hd hfit ?_);dsimp only
       by_cases c : k' = k
       . rw [decide_eq_true c]
         exact wpAny_pure (tail c)
       . rw [decide_eq_false c,hsm]
         simp only [Wi,wN,if_false,if_true];rw [hsl];dsimp only;rw [eg'];dsimp only;refine wpAny_bind (wpAny_isSame_ref_self ?_);refine wpAny_bind (wpAny_pure ?_);simp only [if_true];exact next c
     . simp only [Wf,wN,if_false]
       rw [eg'];dsimp only;refine wpAny_bind (wpAny_holding (wpAny_eqBool_tuple hu e2 hx ?_));refine wpAny_bind (wpAny_setState_of ho hd hfit ?_);dsimp only
       by_cases c : k' = k
       . rw [decide_eq_true c]
         exact wpAny_pure (tail c)
       . rw [decide_eq_false c,hsm]
         simp only [Wi,wN,if_false,if_true];rw [hsl];dsimp only;rw [eg'];dsimp only;refine wpAny_bind (wpAny_isSame_ref_self ?_);refine wpAny_bind (wpAny_pure ?_);simp only [if_true];exact next c
   . generalize hP : t.probe _ (tupleKeyHash knd k) (way t.mask (start t.mask (tupleKeyHash knd k)) n) = P
     have eP:=hP.symm.trans e;rw [eP];dsimp only;refine wpAny_pure (no λ i hi hent=>?_);have hi' : i < t.place.size:=by rw [hsz]; exact hi
     obtain ⟨m,p1,p2⟩:=b.path i hi'
     have hh : (es.toList.map (·.1)).getD i 0 = tupleKeyHash knd k:=by
       obtain ⟨_,_,_,e3,_⟩:=hent;rw [wc,wE,vt,vy hi];exact e3
     rw [hh] at p1 p2;rcases wK m n0 with q | q
     . rcases wK m n with q' | q'
       . exact hno m q' i hi p1.symm hent
       . refine a1 m q' q i hi' p1.symm ?_
         show (es[i]?.map (·.1)).getD 0 = _
         rw [vy hi];obtain ⟨_,_,_,e3,_⟩:=hent;exact e3
     . rcases Wu q with q' | q'
       . subst q'; exact hE ⟨i,hi',p1.symm⟩
       . exact hE (p2 n0 q')
theorem zmm {α : Type} (l : List α) (p : Nat) (x : α) : (zdU l p x).Perm (x :: l):=by
 unfold zdU;refine List.perm_middle.trans (xH.cons x ?_);rw [List.take_append_drop]
theorem zfL {h g : Heap} {k : List K} {a : Addr} (x : IsTupleKey knd h k a) (e : ∀ o,h.get? a = some o -> g.get? a = some o) : IsTupleKey knd g k a:=by
 obtain ⟨o,its,n,h1,r⟩:=x;exact ⟨o,its,n,e o h1,r⟩
theorem zii {h g : Heap} {k : List K} {a d : Addr} {o : Obj} {es : Array (Int × Value)} {ep : Nat} {t : SetTable} (x : IsTupleKey knd h k a) (ho : h.get? d = some o) (hd : o.data = .set es ep t) (hs : vg d h g) : IsTupleKey knd g k a:=by
 refine zfL x λ u eu=>(hs.2 a λ ad=>?_).trans eu
 obtain ⟨u',_,_,e1,_,e2,_⟩:=x;rw [ad,ho] at e1;cases e1;rw [hd] at e2;cases e2
def zbU (knd : KeyKind prog w K) (U : Addr -> List K -> Prop) (h : Heap) (es : List (Int × Value)) (ks : List (List K)) : Prop:=es.length = ks.length /\ ∀ (i : Nat) (e : Int × Value) (k : List K),es[i]? = some e -> ks[i]? = some k -> Ent knd U h e k
def TS (knd : KeyKind prog w K) (U : Addr -> List K -> Prop) (h : Heap) (a : Addr) (led : Bool) (ks : List (List K)) : Prop :=
 ∃ o es ep t,h.get? a = some o /\ o.ExactSet /\ o.data = .set es ep t /\ Tb t (es.toList.map (·.1)) /\ es.size * 5 < t.mask * 3 /\ (t.mask <= 7 \/ t.mask <= 8 * es.size) /\ t.led = led /\ t.plain = true /\ zbU knd U h es.toList ks /\ ks.Nodup
theorem zmU (hv : ∀ k v,knd.is k v = true -> ∃ i t,v = .int i t) {x : Addr} {k : List K} (hx : IsTupleKey knd s.heap k x) {Q : Bool -> Shared -> Prop} (q : Q true s) : wpAny (model prog w) A (hashByValue 8 (.ref x)) Q E s:=by
 have hT:=hx.typeIs;obtain ⟨o,items,n,ho,hc,hd,hi⟩:=hx
 have hints : ∀ {ks : List K} {vs : List Value},ItemsAre knd ks vs -> ∀ v ∈ vs,∃ i t,v = .int i t:=λ h=>by
   induction h with
   | nil=>intro v hv; simp at hv
   | cons h1 _ ih =>
     intro v hm;rcases wm.mp hm with rfl | hm
     . exact hv _ _ h1
     . exact ih v hm
 unfold hashByValue;refine wpAny_bind (wpAny_specialOf hT Vc.lookup ?_);dsimp only;refine wpAny_bind (wpAny_seqItems ho hd ?_);refine wpAny_bind ?_
 show wpAny _ _ (forIn items _ _) _ _ s
 rw [<- Vs];refine wpAny_forIn_list _ (λ rest r s'=>r.1 = none /\ s' = s /\ ∀ v ∈ rest,∃ i t,v = .int i t) _ ?_ ?_ _ _ ⟨rfl,rfl,hints hi⟩
 . rintro v rest r s' ⟨hr,rfl,hall⟩
   obtain ⟨i,t,rfl⟩:=hall v wO
   show wpAny _ _ (pure true >>= _) _ _ _
   refine wpAny_bind (wpAny_pure ?_);simp only [Wf,wN,if_false];exact wpAny_pure ⟨rfl,rfl,λ u hu'=>hall u (wI _ hu')⟩
 . rintro ⟨r1,r2⟩ s' ⟨hr,rfl,_⟩
   simp only at hr;subst hr;exact wpAny_pure q
theorem zpq {α β : Type} (f : α -> β) (l : List α) (p : Nat) (x : α) : (zdU l p x).map f = zdU (l.map f) p (f x):=by
 unfold zdU; rw [wB,wv,xP,xQ]
theorem zq9 {α : Type} (d : α) (es : Array α) : ∀ l : List Nat,(∀ i ∈ l,i < es.size) -> l.filterMap (λ i=>es[i]?) = l.map λ i=>es.toList.getD i d
 | [],_=>rfl
 | i :: l,h=>by
   have hi:=h i (wO ..);rw [Vl,vy hi,wv,zq9 d es l λ j hj=>h j (wI _ hj)];dsimp only;rw [wc,vt,vy hi]
   rfl
theorem zix {α : Type} (d : α) (l : List α) : (wo l.length).map (λ i=>l.getD i d) = l:=by
 refine We (by simp) λ i h1 h2=>?_
 rw [vU,W4,wc,we h2]
 rfl
theorem zbU.keeps {h h' : Heap} {es : List (Int × Value)} {ks : List (List K)} {d : Addr} {o : Obj} {es0 : Array (Int × Value)} {ep : Nat} {t : SetTable} (x : zbU knd U h es ks) (ho : h.get? d = some o) (hd : o.data = .set es0 ep t) (hs : vg d h h') : zbU knd U h' es ks :=
 ⟨x.1,λ i e k h1 h2=>by obtain ⟨a,e1,e2,e3⟩:=x.2 i e k h1 h2; exact ⟨a,e1,zii e2 ho hd hs,e3⟩⟩
theorem zbU.ins {h : Heap} {es : List (Int × Value)} {ks : List (List K)} (x : zbU knd U h es ks) {p : Nat} (hp : p <= ks.length) {e : Int × Value} {k : List K} (c : Ent knd U h e k) : zbU knd U h (zdU es p e) (zdU ks p k):=by
 have hp' : p <= es.length:=by rw [x.1]; exact hp
 refine ⟨by rw [zeA e hp',zeA k hp,x.1],λ i e' k' h1 h2=>?_⟩;rw [zfn e hp'] at h1;rw [zfn k hp] at h2
 split at h1
 . rename_i a; rw [if_pos a] at h2; exact x.2 i e' k' h1 h2
 . rename_i a; rw [if_neg a] at h2
   split at h1
   . rename_i b; rw [if_pos b] at h2
     cases h1; cases h2; exact c
   . rename_i b; rw [if_neg b] at h2; exact x.2 (i - 1) e' k' h1 h2
theorem zbU.ord {h : Heap} {es : List (Int × Value)} {ks : List (List K)} (x : zbU knd U h es ks) {l : List Nat} (hl : ∀ i ∈ l,i < es.length) : zbU knd U h (l.map λ i=>es.getD i (0,.none)) (l.map λ i=>ks.getD i []):=by
 refine ⟨by simp,λ i e' k' h1 h2=>?_⟩;rw [wE] at h1 h2;cases hi : l[i]? with
 | none=>rw [hi] at h1; cases h1
 | some j =>
   rw [hi] at h1 h2;cases h1; cases h2;have hj : j < es.length:=hl j (Wg hi);have hj' : j < ks.length:=by rw [<- x.1]; exact hj
   refine x.2 j _ _ ?_ ?_
   . dsimp only; rw [wc,we hj]; rfl
   . dsimp only; rw [wc,we hj']; rfl
theorem zlC {h : Heap} {a : Addr} {o : Obj} {es : Array (Int × Value)} {ep : Nat} {t : SetTable} (ho : h.get? a = some o) (hd : o.data = .set es ep t) (es' : Array (Int × Value)) (t' : SetTable) :
   (h.update a (qj es' t')).get? a = some { o with data:=.set es' (ep + 1) t' }:=by
 have:=WG (qj es' t') ho (by rw [putSet_of es' t' hd]; rfl);rw [putSet_of es' t' hd] at this; exact this
theorem zoZ {a : Addr} {o : Obj} {es : Array (Int × Value)} {ep : Nat} {t : SetTable} {ks : List (List K)} (ho : s.heap.get? a = some o) (hex : o.ExactSet) (hd : o.data = .set es ep t) (b : Tb t (es.toList.map (·.1))) (hpl : t.plain = true)
   (hk : zbU knd U s.heap es.toList ks) (hnd : ks.Nodup) (h1 : 1 <= es.size) (hz : es.size <= 1000) {Q : Unit -> Shared -> Prop} (q : ∀ h' ks',vg a s.heap h' -> TS knd U h' a t.led ks' -> ks'.Perm ks -> Q () { s with heap:=h' }) :
   wpAny (model prog w) A (setRelay a (qO es.size)) Q E s:=by
 have hfit : t.fits es.size = true:=by have:=b.fits; rwa [wd,wu] at this
 have hg : qO es.size = 4 * es.size:=by unfold qO; rw [if_neg (by omega),VY]
 obtain ⟨k2,k3,s1,s2,s3⟩:=zs6 (n:=es.size) h1 (by omega);unfold setRelay;rw [hg];refine wpAny_bind (wpAny_setState_of ho hd hfit ?_);dsimp only;rw [if_neg (by rw [sizeLine_eq]; omega)];obtain ⟨t2,ord,e2,m2,l2,p2,_,op,b2⟩:=zpP k3 s1 t.finger (t.movedTo (W3 (4 * es.size) - 1)) t.led t.plain (hs:=es.map (·.1)) (by rw [xD]; omega);rw [xD] at op;have olt : ∀ i ∈ ord.toList,i < es.size:=λ i hi=>wS.mp (op.mem_iff.mp hi)
 have e2' : t.relaid (es.map (·.1)) (4 * es.size) = some (t2,ord):=e2;rw [e2']
 have fe : (ord.filterMap (λ i=>es[i]?)).toList = ord.toList.map λ i=>es.toList.getD i (0,.none):=by
   rw [Array.toList_filterMap]; exact zq9 _ es _ olt
 have fz : (ord.filterMap (λ i=>es[i]?)).size = es.size:=by
   rw [<- wu,fe,wd,op.length_eq,vc]
 refine wpAny_bind ?_
 show wpAny _ _ (if ((ord.filterMap (λ i=>es[i]?)).size != es.size) = true then (unsupported "internal:set-table-lost-an-element" >>= λ _=>pure (ord.filterMap (λ i=>es[i]?),t2)) else pure (ord.filterMap (λ i=>es[i]?),t2)) _ _ _
 rw [if_neg (by rw [fz]; simp)];refine wpAny_pure ?_;refine wpAny_storeSet_of ho hd ?_ (by rw [fz,sizeLine_eq]; omega);have hsb:=vX s.heap a (qj (ord.filterMap (λ i=>es[i]?)) t2);have hkk : zbU knd U s.heap (ord.filterMap (λ i=>es[i]?)).toList (ord.toList.map λ i=>ks.getD i []):=by rw [fe]; exact hk.ord λ i hi=>by rw [wu]; exact olt i hi
 have pm : (ord.toList.map λ i=>ks.getD i []).Perm ks:=by
   have:=op.map (λ i=>ks.getD i []);have hl : es.size = ks.length:=by rw [<- wu]; exact hk.1
   rw [hl,zix] at this;exact this
 refine q _ (ord.toList.map λ i=>ks.getD i []) hsb ⟨_,_,_,t2,zlC ho hd _ t2,hex,rfl,?_,?_,?_,l2,p2.trans hpl,hkk.keeps ho hd hsb,pm.nodup_iff.mpr hnd⟩ pm
 . rw [fe,VW]
   have : (ord.toList.map ((λ x : Int × Value=>x.1) ∘ λ i=>es.toList.getD i (0,.none))) = ord.toList.map λ k=>(es.map (·.1)).toList.getD k 0:=by
     refine Wp λ i hi=>?_
     have:=olt i hi
     show (es.toList.getD i (0,.none)).1 = _
     rw [wc,wc,Array.toList_map,wE,vt,vy this]
     rfl
   rw [this]; exact b2
 . rw [fz,m2]; omega
 . right; rw [fz,m2]; omega
theorem zsh (hv : ∀ k v,knd.is k v = true -> ∃ i t,v = .int i t) {a xa : Addr} {k : List K} {led : Bool} {ks : List (List K)} (hu : A.units < cLine) (hS : TS knd U s.heap a led ks) (hx : IsTupleKey knd s.heap k xa) (hU : U xa k) (hz : ks.length + 1 <= 1000)
   {Q : Bool -> Shared -> Prop} (q : ∀ h' ks',vg a s.heap h' -> TS knd U h' a led ks' -> (k ∈ ks -> ks' = ks) -> (k ∉ ks -> ks'.Perm (k :: ks)) -> ∀ b,Q b { s with heap:=h' }) :
   wpAny (model prog w) A (setAddHashed a (.ref xa) (tupleKeyHash knd k)) Q E s:=by
 obtain ⟨o,es,ep,t,ho,hex,hd,b,hfew,hmask,hled,hpl,⟨hkl,hke⟩,hnd⟩:=hS;rw [wu] at hkl;have hfit : t.fits es.size = true:=by have:=b.fits; rwa [wd,wu] at this
 have hsz : t.place.size = es.size:=by rw [b.size,wd,wu]
 have hent : ∀ i (h : i < es.size),Ent knd U s.heap es[i] (ks[i]'(by omega)):=λ i h=>hke i _ _ (by rw [vt,vy h]) (we _)
 unfold setAddHashed setAddHashedIn;refine wpAny_holding (wpAny_bind (wpAny_setState_of ho hd hfit ?_));dsimp only;rw [show byScan (.ref xa) es = false from rfl];simp only [wN,if_false];obtain ⟨n0,hf0,hE,hF⟩:=b.free (tupleKeyHash knd k);have hmm : t.mask <= 8000:=by omega
 refine wpAny_bind (ziB hu hx ho hd b (λ i h=>⟨_,hent i h⟩) n0 hE hF hf0 (λ hy=>?yes) (λ hn=>?no) 100000 0 none (vB _) (by unfold qN at hf0; omega) rfl (λ m hm=>absurd hm (vT _)))
 case yes =>
   dsimp only;obtain ⟨i,hi,he⟩:=hy;have hk : k ∈ ks:=by rw [he.inj (hent i hi)]; exact vb _
   exact wpAny_pure (q s.heap ks (Heap.SameBut.refl a s.heap) ⟨o,es,ep,t,ho,hex,hd,b,hfew,hmask,hled,hpl,⟨by rw [wu]; exact hkl,hke⟩,hnd⟩ (λ _=>rfl) (λ h=>absurd hk h) _)
 case no =>
   dsimp only
   have hk : k ∉ ks:=λ hm=>by
     obtain ⟨i,hi,e⟩:=Wo hm;exact hn i (by omega) (e ▸ hent i (by omega))
   refine wpAny_bind (wpAny_setState_of ho hd hfit ?_);dsimp only;obtain ⟨k8,k3,kk⟩:=b.two
   have m7 : 7 <= t.mask:=by
     have : 2 ^ 3 <= 2 ^ k8:=qS (by decide) k3;omega
   obtain ⟨hp,tb⟩:=b.put hE hF (by rw [hsz]; omega);rw [wd,wu,hkl] at hp;have q1 : (t.put (way t.mask (start t.mask (tupleKeyHash knd k)) n0).j).1.plain = t.plain:=rfl;have q2 : (t.put (way t.mask (start t.mask (tupleKeyHash knd k)) n0).j).1.led = t.led:=rfl;have q3 : (t.put (way t.mask (start t.mask (tupleKeyHash knd k)) n0).j).1.mask = t.mask:=rfl;generalize (t.put (way t.mask (start t.mask (tupleKeyHash knd k)) n0).j).2 = p at *;generalize (t.put (way t.mask (start t.mask (tupleKeyHash knd k)) n0).j).1 = t1 at *;rw [if_pos (q1.trans hpl)];refine wpAny_bind (zmU hv hx ?_);simp only [if_true];have en : Ent knd U s.heap (tupleKeyHash knd k,.ref xa) k:=⟨xa,rfl,hx,rfl,hU⟩
   have hkk : zbU knd U s.heap (vP es p (tupleKeyHash knd k,.ref xa)).toList (zdU ks p k):=by
     rw [zcQ]; exact zbU.ins ⟨by rw [wu]; exact hkl,hke⟩ hp en
   have tb' : Tb t1 ((vP es p (tupleKeyHash knd k,.ref xa)).toList.map (·.1)):=by
     rw [zcQ,zpq]; exact tb
   have z1 : (vP es p (tupleKeyHash knd k,.ref xa)).size = es.size + 1:=by
     rw [<- wu,zcQ,zeA _ (by rw [wu,hkl]; exact hp),wu]
   have pm : (zdU ks p k).Perm (k :: ks):=zmm ks p k;have nd : (zdU ks p k).Nodup:=pm.nodup_iff.mpr (Wn.mpr ⟨hk,hnd⟩);refine wpAny_bind (wpAny_storeSet_of ho hd ?_ (by rw [z1,sizeLine_eq]; omega));have hsb:=vX s.heap a (qj (vP es p (tupleKeyHash knd k,.ref xa)) t1);have ho1:=zlC ho hd (vP es p (tupleKeyHash knd k,.ref xa)) t1
   have pz : t1.fill = es.size + 1:=by
     unfold xO;rw [tb'.dum,tb'.size,wd,wu,z1]; rfl
   split
   . refine wpAny_bind ?_
     have:=zoZ (A:=A) (E:=E) (knd:=knd) (s:={ s with heap:=s.heap.update a (qj (vP es p (tupleKeyHash knd k,.ref xa)) t1) }) (ks:=zdU ks p k) ho1 hex rfl tb' (q1.trans hpl) (hkk.keeps ho hd hsb) nd (by rw [z1]; omega) (by rw [z1]; omega)
       (Q:=λ _ s'=>wpAny (model prog w) A (pure true) Q E s') λ h' ks' sb ts pm'=>wpAny_pure (q h' ks' (hsb.trans sb) (by rw [q2,hled] at ts; exact ts) (λ h=>absurd h hk) (λ _=>pm'.trans pm) _)
     rw [z1] at this;exact this
   . rename_i c
     have c : ¬ t1.tooFull = true:=by simpa using c
     unfold SetTable.tooFull at c;rw [pz] at c;refine wpAny_pure (q _ (zdU ks p k) hsb ⟨_,_,_,t1,ho1,hex,rfl,tb',?_,?_,q2.trans hled,q1.trans hpl,hkk.keeps ho hd hsb,nd⟩ (λ h=>absurd h hk) (λ _=>pm) _)
     . rw [z1]
       have : ¬ t1.mask * 3 <= (es.size + 1) * 5:=by simpa using c
       omega
     . rw [z1,q3]; omega
end
section
variable {prog : Program} {w : World} {K : Type} [DecidableEq K] {knd : KeyKind prog w K} {U : Addr -> List K -> Prop}
theorem TS.same {h g : Heap} {S : Addr} {led : Bool} {ks : List (List K)} (x : TS knd U h S led ks) (e : ∀ o,h.get? S = some o -> g.get? S = some o) (f : ∀ k a,IsTupleKey knd h k a -> IsTupleKey knd g k a) : TS knd U g S led ks:=by
 obtain ⟨o,es,ep,t,c1,c2,c3,c4,c5,c6,c7,c8,⟨d1,d2⟩,c9⟩:=x;refine ⟨o,es,ep,t,e o c1,c2,c3,c4,c5,c6,c7,c8,⟨d1,λ i y k y1 y2=>?_⟩,c9⟩;obtain ⟨a,z1,z2,z3⟩:=d2 i y k y1 y2;exact ⟨a,z1,f k a z2,z3⟩
theorem TS.new {h : Heap} {S : Addr} {led : Bool} (e : h.get? S = some { cls:=.type "set",dict:=none,data:=.set #[] 0 (.fresh 0 0 led) }) : TS knd U h S led [] :=
 ⟨_,#[],0,_,e,⟨rfl,rfl,rfl⟩,rfl,⟨λ i j _ hj=>absurd hj (vT _),rfl,rfl,⟨3,wg _,rfl⟩,λ i hi=>absurd hi (vT _),vB _,λ i hi=>absurd hi (vT _)⟩,(by show 0 * 5 < 7 * 3; decide),.inl (wg _),rfl,rfl,⟨rfl,λ i y k y1=>by simp at y1⟩,WR⟩
variable {A : Around} {R : Result -> Shared -> Prop} {I : Addr} {fp wr : List Addr} {G : Array GenState -> Array GenState -> Prop} {n : Nat} {P : Nat -> Value -> Prop} {St : Nat -> Shared -> Prop}
theorem zsX (hv : ∀ k v,knd.is k v = true -> ∃ i t,v = .int i t) (W : WalksS prog w A.in1 I fp wr G n P St) {S : Addr} (hSf : S ∉ fp) (hu : A.units + 1 < cLine) {led : Bool} {key : Nat -> List K} {ad : Nat -> Addr}
   (hval : ∀ i v,P i v -> v = .ref (ad i)) (hI : ∀ i s a k,St i s -> IsTupleKey knd s.heap k a -> a ∉ wr) (hn : n <= 999) (hU : ∀ j,j < n -> U (ad j) (key j)) :
   ∀ (c i : Nat) (s : Shared) (ks : List (List K)),n - i = c -> i <= n -> St i s -> (∀ j,j < n -> IsTupleKey knd s.heap (key j) (ad j)) -> TS knd U s.heap S led ks -> (∀ x,x ∈ ks ↔ ∃ j,j < i /\ key j = x) -> ks.length <= i ->
     (∀ s' ks',Moved (S :: wr) G s s' -> (∀ k a,IsTupleKey knd s.heap k a -> IsTupleKey knd s'.heap k a) -> TS knd U s'.heap S led ks' -> (∀ x,x ∈ ks' ↔ ∃ j,j < n /\ key j = x) -> R (.ok (.ret .none)) s') ->
     codeAny (model prog w) A (.builtin "set.update.loop" ⟨[.ref S,.ref I],[]⟩) R s:=by
 have nw : S ∉ wr:=λ x=>hSf (W.sub _ x)
 intro c
 induction c with
 | zero =>
   intro i s ks ec ei st ht hs hx hl r;obtain rfl : i = n:=by omega
   refine codeAny_builtin Vt ?_;rw [VZ WF _];refine wpAny_bind (m:=pyNext (.ref I)) (W.done s _ _ st λ s' mv=>?_);have f : ∀ k a,IsTupleKey knd s.heap k a -> IsTupleKey knd s'.heap k a:=λ k a x=>zfL x λ o eo=>mv.heap a o (hI i s a k st x) eo
   exact wpAny_pure (r s' ks (mv.mono λ _ q=>.tail _ q) f (hs.same (λ o eo=>mv.heap S o nw eo) f) hx)
 | succ c ih =>
   intro i s ks ec ei st ht hs hx hl r;have lt : i < n:=by omega
   refine codeAny_builtin Vt ?_;rw [VZ WF _];refine wpAny_bind (m:=pyNext (.ref I)) (W.item i s _ _ lt st λ v s' pv st' mv=>?_);obtain rfl:=hval i v pv;have f : ∀ k a,IsTupleKey knd s.heap k a -> IsTupleKey knd s'.heap k a:=λ k a x=>zfL x λ o eo=>mv.heap a o (hI i s a k st x) eo
   have hs':=hs.same (λ o eo=>mv.heap S o nw eo) f;refine wpAny_bind (m:=holding [Value.ref (ad i)] (setAdd S (.ref (ad i)))) (wpAny_holding ?_);unfold setAdd;refine wpAny_holding (wpAny_bind (wpAny_pyHash_tuple (by exact hu) (f _ _ (ht i lt)) ?_));refine zsh hv (s:={ s' with toks:=s'.toks + ((key i).length + 1) }) (by exact hu) hs' (f _ _ (ht i lt)) (hU i lt) (by omega) λ h2 ks2 sb ts2 y1 y2 b=>?_
   have so:=hs';obtain ⟨o9,_,_,_,g1,_,g2,_⟩:=so;have f2 : ∀ k a,IsTupleKey knd s'.heap k a -> IsTupleKey knd h2 k a:=λ k a x=>zii x g1 g2 sb
   have ztd : ∀ x,x ∈ ks2 ↔ ∃ j,j < i + 1 /\ key j = x:=λ x=>by
     have old : x ∈ ks2 ↔ x = key i \/ x ∈ ks:=by
       by_cases d : key i ∈ ks
       . rw [y1 d]; exact ⟨.inr,λ q=>q.elim (λ e=>e ▸ d) id⟩
       . rw [(y2 d).mem_iff,wm]
     rw [old,hx]
     constructor
     . rintro (rfl | ⟨j,j1,j2⟩)
       . exact ⟨i,by omega,rfl⟩
       . exact ⟨j,by omega,j2⟩
     . rintro ⟨j,j1,j2⟩
       rcases Wu (WL j1) with e | e
       . subst e; exact .inl j2.symm
       . exact .inr ⟨j,e,j2⟩
   have len2 : ks2.length <= i + 1:=by
     by_cases d : key i ∈ ks
     . rw [y1 d]; omega
     . rw [(y2 d).length_eq,wU]; omega
   refine wpAny_pure ⟨plainId_quiet WF _,ih (i + 1) _ ks2 (by omega) lt (W.frame _ s' _ _ st' (WU _ _) λ z hz o e=>?_) (λ j hj=>f2 _ _ (f _ _ (ht j hj))) ts2 ztd len2 λ s3 ks3 mv3 f3 ts3 m3=>?_⟩
   . rw [sb.2 z (λ q=>hSf (q ▸ hz))]; exact e
   . refine r s3 ks3 (Moved.trans W.gtrans ((mv.mono λ _ q=>.tail _ q).then_heap (WU _ _) λ z o hz e=>?_) mv3) (λ k a x=>f3 k a (f2 k a (f k a x))) ts3 m3
     rw [sb.2 z (λ q=>hz (q ▸ .head _))]; exact e
end
def zbY (led : Bool) : Obj:={ cls:=.type "set",dict:=none,data:=.set #[] 0 (.fresh 0 0 led) }
def zdf (w : World) : Bool:=!(w.params.followText "set-order")
section
variable {prog : Program} {w : World} {K : Type} [DecidableEq K] {knd : KeyKind prog w K} {U : Addr -> List K -> Prop} {A : Around} {E : Value -> Shared -> Prop} {s : Shared}
theorem zqc (x : Value) {Q : Value -> Shared -> Prop} (q : Q (.ref s.heap.objs.size) { s with heap:=s.heap.push (zbY (zdf w)) }) :
   codeAny (model prog w) A (.call (.builtin "set.__new__") ⟨[.type "set",x],[]⟩) (wants Q E) s:=by
 refine codeAny_of_tree ?_;refine wpAny_bind (m:=checkBuiltinCall "set.__new__" ⟨[.type "set",x],[]⟩) (wpAny_of_eq (F.newCall_set_1 x) (wpAny_pure ?_));refine ⟨plainId_quiet xr _,codeAny_builtin F.entry_set_new ?_⟩;rw [VZ xr _];unfold Builtin.«set.__new__» xR;have sub:=sub_set_self;obtain ⟨z1,z2,z3,z4,z5⟩:=s;dsimp only
 wp_walk
 refine wpAny_askSetting (wpAny_pure ?_);dsimp only;simp only [newObj];exact wpAny_bind (wpAny_alloc (wpAny_pure (wpAny_pure q)))
set_option maxHeartbeats 3200000 in
theorem call_setT (hv : ∀ k v,knd.is k v = true -> ∃ i t,v = .int i t) {l : Addr} {its : List Value} {key : Nat -> List K} {ad : Nat -> Addr} (hh : A.handled = none) (hu : A.units + 64 < cLine) (hl : s.heap.IsList l its.toArray)
   (hi : ∀ (i : Nat) v,its[i]? = some v -> v = .ref (ad i)) (hk : ∀ i,i < its.length -> IsTupleKey knd s.heap (key i) (ad i)) (hn : its.length <= 999) (hU : ∀ j,j < its.length -> U (ad j) (key j)) {Q : Value -> Shared -> Prop}
   (q : ∀ (g : Heap) (tk : Nat) (ks : List (List K)),TS knd U g s.heap.objs.size (zdf w) ks -> (∀ x,x ∈ ks ↔ ∃ j,j < its.length /\ key j = x) -> (∀ b o,s.heap.get? b = some o -> g.get? b = some o) -> Q (.ref s.heap.objs.size) { s with heap:=g,toks:=tk }) :
   wpAny (model prog w) A (call (.type "set") [.ref l]) Q E s:=by
 obtain ⟨c1,c2,mro⟩:=WW.mro;have f1:=WW.made;have f2:=WW.sub;have f3:=WW.notType;have f4:=WW.canCreate;have f5:=F.typeCall_set_1 (.ref l);refine wpAny_call (codeAny_of_tree (show wpAny _ _ (callAny (.type "set") _) _ _ _ from ?_));refine wpAny_pure ⟨Qp _ (by decide +kernel),codeAny_builtin QQ ?_⟩;rw [Qq (weight_type_call_type "set" [.ref l] []) rfl]
 repeat (any_goals (first | assumption | wp_step))
 have nd:=zqc (prog:=prog) (w:=w) (A:=A.in1) (E:=E) (s:=s) (.ref l) (Q:=λ v s1=>v = .ref s.heap.objs.size /\ s1 = { s with heap:=s.heap.push (zbY (zdf w)) }) ⟨rfl,rfl⟩;refine codeAny_mono nd λ r s1 hr=>?_
 cases r with
 | error e=>exact hr
 | ok fl =>
   cases fl with
   | ret obj =>
     obtain ⟨rfl,rfl⟩:=hr;have gS : (s.heap.push (zbY (zdf w))).get? s.heap.objs.size = some (zbY (zdf w)):=wj _ rfl;have tS : Shared.TypeIs { s with heap:=s.heap.push (zbY (zdf w)) } (.ref s.heap.objs.size) "set":=⟨_,gS,rfl⟩;have g1:=WW.init.lookup;have g2:=WW.init.bind (.ref s.heap.objs.size)
     repeat (any_goals (first | assumption | wp_step))
     refine codeAny_mono (codeAny_call_builtin (R:=wants (λ v s2=>v = .none /\ ∃ g tk ks,s2 = { s with heap:=g,toks:=tk } /\ TS knd U g s.heap.objs.size (zdf w) ks /\ (∀ x,x ∈ ks ↔ ∃ j,j < its.length /\ key j = x) /\ ∀ b o,s.heap.get? b = some o -> g.get? b = some o) E)
       WW.init.plain F.entry_set_init (check_set_init_1 tS ?_)) λ r2 s2 hr2=>?_
     . obtain ⟨ol,e1,e2,nl,e3⟩:=hl
       obtain ⟨y1,y2,y3,y4⟩:=ol;dsimp only at e2 e3;subst e2;subst e3;have gl : (s.heap.push (zbY (zdf w))).get? l = some { cls:=.type "list",dict:=y2,data:=.seq its.toArray nl,slots:=y4 }:=wb _ e1;have n1:=F.sub_list_set;have n2:=F.sub_list_frozenset;have n3 : (Value.type "list" == Value.type "dict") = false:=by decide
       have il : (s.heap.push (zbY (zdf w))).IsList l its.toArray:=⟨_,gl,rfl,nl,rfl⟩;unfold Builtin.«set.__init__» noKeywords xE;generalize hPI : pyIter = PI
       wp_walk
       subst hPI;refine wpAny_pyIter_list il ?_;refine wpAny_bind (wpAny_runValue ?_);have ls : l < s.heap.objs.size:=wk e1;have zs : (s.heap.push (zbY (zdf w))).objs.size = s.heap.objs.size + 1:=vn ..;have ne : l ≠ (s.heap.push (zbY (zdf w))).objs.size:=by rw [zs]; exact wF (Vb ls)
       have nf : s.heap.objs.size ∉ [(s.heap.push (zbY (zdf w))).objs.size,l]:=by
         rw [zs];intro hm;rcases wm.mp hm with e | hm
         . exact absurd e (wF (Nat.lt_succ_self _))
         . rcases wm.mp hm with e | hm
           . exact absurd e (vi ls)
           . cases hm
       have kp : ∀ b o,s.heap.get? b = some o -> ((s.heap.push (zbY (zdf w))).push { cls:=.type "list_iterator",data:=.fields #[.ref l,.int 0 0] }).get? b = some o:=λ b o e=>wb _ (wb _ e)
       refine zsX hv ((Walks.list (by simp [hh]) _ l ne its.toArray).toS) (S:=s.heap.objs.size) nf (by show A.units + 1 + 1 + 1 < _; omega) (led:=zdf w) (key:=key) (ad:=ad)
         (λ i v hp=>hi i v (by simpa using hp)) ?hI (by simpa using hn) (λ j hj=>hU j (by simpa using hj)) (its.toArray.size - 0) 0 _ [] rfl (vB _) ⟨⟨_,wj _ rfl,rfl,rfl⟩,il.push _⟩
         (λ j hj=>zfL (hk j (by simpa using hj)) λ o eo=>kp _ o eo) (TS.new (wb _ gS)) (λ x=>⟨λ h=>absurd h vI,λ ⟨j,j1,_⟩=>absurd j1 (vT _)⟩) (wg _) ?fin
       case hI =>
         intro i s9 a9 k9 st9 x9 hm;obtain ⟨⟨o8,u1,u2,_⟩,_⟩:=st9;obtain ⟨o9,_,_,v1,v2,_⟩:=x9;rcases wm.mp hm with e | hm
         . subst e
           rw [u1] at v1;cases v1;rw [u2] at v2;exact absurd (xF v2) (by decide)
         . cases hm
       case fin =>
         intro s9 ks9 mv f9 ts9 m9;obtain ⟨g,x1,x2,x3,x4⟩:=s9;obtain rfl : x1 = s.gens:=mv.gens;obtain rfl : x2 = s.drawn:=mv.drawn;obtain rfl : x4 = s.os:=mv.os;refine wpAny_pure (wpAny_pure ⟨rfl,g,x3,ks9,rfl,ts9,by simpa using m9,λ b o e=>?_⟩);have lb : b < s.heap.objs.size:=wk e;refine mv.heap b o (λ hm=>?_) (kp b o e);rcases wm.mp hm with e' | hm
         . exact absurd e' (wF lb)
         . rcases wm.mp hm with e' | hm
           . rw [zs] at e'; exact absurd e' (wF (Vb lb))
           . cases hm
     . cases r2 with
       | error e=>exact hr2
       | ok fl2 =>
         cases fl2 with
         | ret v =>
           obtain ⟨rfl,g,tk,ks,rfl,a1,a2,a3⟩:=hr2
           repeat (any_goals (first | assumption | wp_step))
           exact q g tk ks a1 a2 a3
         | _=>exact hr2.elim
   | _=>exact hr.elim
end
end TB
namespace TB
open PySem PySem.W PyProof.Rows
inductive zen {α : Type} (n : Nat) (φ : α -> Prop) : KasT α -> Prop
 | ret {a : α} : φ a -> zen n φ (.ret a)
 | ask {i j : Nat} {k : Bool -> KasT α} : i < n -> j < n -> (∀ b,zen n φ (k b)) -> zen n φ (.ask i j k)
theorem zen.bind {α β : Type} {n : Nat} {φ : α -> Prop} {ψ : β -> Prop} {t : KasT α} {f : α -> KasT β} (h : zen n φ t) (hf : ∀ a,φ a -> zen n ψ (f a)) : zen n ψ (t.bind f):=by
 induction h with
 | ret h=>exact hf _ h
 | ask h1 h2 _ ih=>exact .ask h1 h2 ih
def Pm (n : Nat) (p : Array Nat) : Prop:=p.toList.Perm (wo n)
theorem Pm.get {n : Nat} {p : Array Nat} (h : Pm n p) (h1 : 1 <= n) (i : Nat) : p.getD i 0 < n:=by
 rw [wR,<- vt];cases e : p.toList[i]? with
 | none=>exact h1
 | some x=>exact wS.mp (h.mem_iff.mp (Wg e))
theorem Pm.rev {n : Nat} {p : Array Nat} (h : Pm n p) (i j : Nat) : Pm n (kas_rev p i j):=(qb.mp (mirror_perm p i j _)).trans h
theorem Pm.bub {n : Nat} {p : Array Nat} (h : Pm n p) (i j : Nat) : Pm n (bubble p i j):=(qb.mp (bubble_perm p i j)).trans h
section
variable {n : Nat} (h1 : 1 <= n)
include h1
theorem zgP {p : Array Nat} (h : Pm n p) : ∀ f m,zen n (λ _=>True) (kas_asc p f m)
 | 0,_=>.ret trivial
 | f + 1,m=>.ask (h.get h1 _) (h.get h1 _) λ b=>by
   split
   . exact .ret trivial
   . exact zgP h f (m + 1)
theorem zeK : ∀ f (p : Array Nat) m q,Pm n p -> zen n (λ r=>Pm n r.1) (kas_desc f p m q)
 | 0,_,_,_,h=>.ret h
 | f + 1,p,m,q,h=>.ask (h.get h1 _) (h.get h1 _) λ b=>by
   split
   . split
     . exact zeK f _ _ _ (h.rev _ _)
     . exact zeK f _ _ _ h
   . refine .ask (h.get h1 _) (h.get h1 _) λ c=>?_
     split
     . exact .ret h
     . exact zeK f _ _ _ h
theorem zib {p : Array Nat} (h : Pm n p) (m r : Nat) : zen n (λ x=>Pm n x.2) (kas_tail3 m r p):=(zgP h1 (h.rev 0 m) _ _).bind λ _ _=>.ret (h.rev 0 m)
theorem zh0 {p : Array Nat} (h : Pm n p) (m r : Nat) : zen n (λ x=>Pm n x.2) (kas_descPart m r p):=(zeK h1 _ _ _ _ h).bind λ x hx=>by
 split
 . exact zib h1 (hx.rev _ _) _ _
 . exact zib h1 hx _ _
theorem zlo {p : Array Nat} (h : Pm n p) (r : Nat) : zen n (λ x=>Pm n x.2) (kas_count r p):=(zgP h1 h _ _).bind λ m _=>by
 split
 . exact .ret h
 . split
   . refine .ask (h.get h1 _) (h.get h1 _) λ b=>?_
     split
     . exact .ret h
     . exact zh0 h1 (h.rev _ _) _ _
   . exact zh0 h1 h _ _
theorem zfb {p : Array Nat} (h : Pm n p) (k : Nat) : ∀ f l r,zen n (λ _=>True) (kas_place p k f l r)
 | 0,_,_=>.ret trivial
 | f + 1,l,r=>by
   unfold kas_place
   split
   . exact .ret trivial
   . refine .ask (h.get h1 _) (h.get h1 _) λ b=>?_
     split
     . exact zfb h k f _ _
     . exact zfb h k f _ _
theorem zjI : ∀ f (p : Array Nat) k,Pm n p -> zen n (Pm n) (kas_bin f p k)
 | 0,_,_,h=>.ret h
 | f + 1,p,k,h=>(zfb h1 h k _ _ _).bind λ l _=>zjI f _ _ (h.bub _ _)
theorem zm9 : zen n (Pm n) (kas_sort n):=(zlo h1 (p:=(wo n).toArray) (by unfold Pm; simp) n).bind λ x hx=>by
 split
 . exact zjI h1 _ _ _ hx
 . exact .ret hx
end
theorem zen.wp {α : Type} {n : Nat} {φ : α -> Prop} {t : KasT α} (h : zen n φ t) {cmp : Nat -> Nat -> (Bool -> Shared -> Prop) -> Shared -> Prop} {s : Shared} (hc : ∀ i j C,i < n -> j < n -> (∀ b,C b s) -> cmp i j C s) {Q : α -> Shared -> Prop} (q : ∀ a,φ a -> Q a s) : t.kasWp cmp Q s:=by
 induction h with
 | ret h=>exact q _ h
 | ask h1 h2 _ ih=>exact hc _ _ _ h1 h2 λ b=>ih b
section
variable {prog : Program} {w : World} {A : Around} {E : Value -> Shared -> Prop} {s : Shared}
def Tw (h : Heap) (v : Value) : Prop:=∃ a o its n x t ys,v = .ref a /\ h.get? a = some o /\ o.cls = .type "tuple" /\ o.data = .seq its n /\ its.toList = .int x t :: ys /\ ∀ y ∈ ys,∃ i u,y = .int i u
theorem zlA {b fin : Bool} {Q : Bool -> Shared -> Prop} (q : ∀ c,Q c s) : ∀ (l : List (Value × Value)) i,(∀ p ∈ l,∃ x t y u,p = (.int x t,.int y u)) -> KatLex prog w A b fin Q l i s
 | [],_,_=>q _
 | p :: l,i,h=>by
   obtain ⟨x,t,y,u,rfl⟩:=h p (.head _);refine kat_cons (wpAny_eqBool_int ?_);refine kat_go (λ _=>kat_yes (zlA q l (i + 1) λ p hp=>h p (.tail _ hp))) λ _=>kat_no ?_
   cases b && i == 0
   . exact kat_one _ _ (wpAny_lt_int (q _))
   . exact oneLt_int (q _)
theorem zlH : ∀ (xs ys : List Value),(∀ v ∈ xs,∃ i t,v = .int i t) -> (∀ v ∈ ys,∃ i t,v = .int i t) -> ∀ p ∈ xs.zip ys,∃ x t y u,p = (.int x t,.int y u)
 | [],_,_,_,p,h=>by simp at h
 | _ :: _,[],_,_,p,h=>by simp at h
 | x :: xs,y :: ys,hx,hy,p,h=>by
   rw [List.zip_cons_cons] at h;rcases wm.mp h with e | h
   . obtain ⟨i,t,rfl⟩:=hx x (.head _)
     obtain ⟨j,u,rfl⟩:=hy y (.head _);exact ⟨i,t,j,u,e⟩
   . exact zlH xs ys (λ v hv=>hx v (.tail _ hv)) (λ v hv=>hy v (.tail _ hv)) p h
theorem Tw.ints {h : Heap} {v : Value} (x : Tw h v) : ∃ a o its n,v = .ref a /\ h.get? a = some o /\ o.cls = .type "tuple" /\ o.data = .seq its n /\ (∃ i t,its[0]? = some (.int i t)) /\ ∀ y ∈ its.toList,∃ i u,y = .int i u:=by
 obtain ⟨a,o,its,n,i,t,ys,h1,h2,h3,h4,h5,h6⟩:=x;refine ⟨a,o,its,n,h1,h2,h3,h4,⟨i,t,?_⟩,λ y hy=>?_⟩
 . rw [<- vt,h5]; rfl
 . rw [h5] at hy
   rcases wm.mp hy with e | hy
   . exact ⟨i,t,e⟩
   . exact h6 y hy
theorem zl7 {h : Heap} : ∀ (vs : List Value),(∀ v ∈ vs,Tw h v) -> ∃ fs,KatTups h vs fs /\ fs.length = vs.length /\ ∀ f ∈ fs,∃ i t,f = .int i t
 | [],_=>⟨[],.nil,rfl,λ f hf=>by simp at hf⟩
 | v :: vs,hv=>by
   obtain ⟨fs,h1,h2,h3⟩:=zl7 vs λ u hu=>hv u (.tail _ hu)
   obtain ⟨a,o,its,n,rfl,e1,e2,e3,⟨i,t,e4⟩,_⟩:=(hv v (.head _)).ints;refine ⟨.int i t :: fs,.cons e1 e2 e3 e4 h1,by simp [h2],λ f hf=>?_⟩;rcases wm.mp hf with e | hf
   . exact ⟨i,t,e⟩
   . exact h3 f hf
theorem Tw.grow {h g : Heap} {v : Value} (x : Tw h v) (e : ∀ b o,o.cls = .type "tuple" -> h.get? b = some o -> g.get? b = some o) : Tw g v:=by
 obtain ⟨a,o,its,n,i,t,ys,h1,h2,h3,r⟩:=x;exact ⟨a,o,its,n,i,t,ys,h1,e a o h3 h2,h3,r⟩
theorem zot {a : Addr} {vs : List Value} {n : Nat} {P : Qr -> Shared -> Prop} (ho : s.heap.get? a = some (seqObj "list" vs.toArray n)) (h2 : 2 <= vs.length) (h64 : vs.length < 64) (ht : ∀ v ∈ vs,Tw s.heap v)
   (q : ∀ (g : Heap) (p : Array Nat) (c : Nat),Pm vs.length p -> g.get? a = some (seqObj "list" (Qs (p.toList.map λ i=>vs.getD i Value.none)) c) -> (∀ b o,b ≠ a -> s.heap.get? b = some o -> g.get? b = some o) -> P (.done (.ret .none)) { s with heap:=g }) :
   wpAny (model prog w) A (Builtin.«list.sort» ⟨[.ref a],[]⟩) P E s:=by
 have al : a < s.heap.objs.size:=wk ho;have sb:=vX s.heap a (wZ λ _=>(#[] : Array Value));obtain ⟨e1,ho1⟩ : ∃ e1,(s.heap.update a (wZ λ _=>(#[] : Array Value))).get? a = some (seqObj "list" #[] e1):=⟨_,get?_update_seq ho λ _=>#[]⟩
 have kp : ∀ b o,b ≠ a -> s.heap.get? b = some o -> (((s.heap.update a (wZ λ _=>(#[] : Array Value))).push (seqObj "tuple" vs.toArray 0)).push (seqObj "list" #[] 0)).get? b = some o:=λ b o hb e =>
   wb _ (wb _ ((sb.2 b hb).trans e))
 have ho3 : (((s.heap.update a (wZ λ _=>(#[] : Array Value))).push (seqObj "tuple" vs.toArray 0)).push (seqObj "list" #[] 0)).get? a = some (seqObj "list" #[] e1):=wb _ (wb _ ho1)
 have kt : ∀ b o,o.cls = .type "tuple" -> s.heap.get? b = some o -> (((s.heap.update a (wZ λ _=>(#[] : Array Value))).push (seqObj "tuple" vs.toArray 0)).push (seqObj "list" #[] 0)).get? b = some o:=λ b o hc e=>by
   refine kp b o (λ z=>?_) e;subst z;rw [ho] at e;cases e;exact absurd (xF hc) (by decide)
 have ht3 : ∀ v ∈ vs,Tw (((s.heap.update a (wZ λ _=>(#[] : Array Value))).push (seqObj "tuple" vs.toArray 0)).push (seqObj "list" #[] 0)) v:=λ v hv=>(ht v hv).grow kt
 have nz : ¬ vs.toArray.size < 2:=by rw [wq]; omega
 rw [list_sort_plain];refine wpAny_bind (listItems_at ho rfl ?_);refine wpAny_bind (listUpdate_at ho rfl ?_ (by rw [wq,sizeLine_eq]; omega) (vB _));refine wpAny_bind (seqEpoch_at ho1 rfl ?_);refine wpAny_bind (wpAny_newTuple ?_ (by show vs.length <= _; rw [sizeLine_eq]; omega));refine wpAny_bind (wpAny_newList ?_ (vB _));refine wpAny_holding ?_
 show wpAny (model prog w) A _ P E { s with heap:=((s.heap.update a (wZ λ _=>(#[] : Array Value))).push (seqObj "tuple" vs.toArray 0)).push (seqObj "list" #[] 0) }
 dsimp only;rw [if_neg nz,if_neg nz];generalize ((s.heap.update a (wZ λ _=>(#[] : Array Value))).push (seqObj "tuple" vs.toArray 0)).push (seqObj "list" #[] 0) = g at *;obtain ⟨fs,f1,f2,f3⟩:=zl7 vs ht3;refine wpAny_bind (kat_kind (s:={ s with heap:=g }) (T:=.type "int") f1 (by omega) (λ v hv=>?_) (by decide) ?_)
 . obtain ⟨i,t,rfl⟩:=f3 v hv
   exact .now
 . refine wpAny_bind (wpAny_mono (kat_run (s:={ s with heap:=g }) (Q:=λ st' s'=>∃ p : Array Nat,s' = { s with heap:=g } /\ Pm vs.length p /\ arrOf st' = p.map (kas_item (vs.toArray.zip vs.toArray)) /\ failedOf st' = none)
     rfl h2 h64 (λ p st' s' a1 a2 a3 a4=>⟨p,a4.1,a4.2,a2,a3⟩) (G:=λ p s'=>s' = { s with heap:=g } /\ Pm vs.length p) ?_) ?_ λ _ _ e=>e)
   . refine (zm9 (n:=vs.length) (by omega)).wp (λ i j C hi hj hc=>?_) λ p hp=>⟨rfl,hp⟩
     have gi : vs.getD i Value.none ∈ vs:=by rw [wc,we hi]; exact vb hi
     have gj : vs.getD j Value.none ∈ vs:=by rw [wc,we hj]; exact vb hj
     obtain ⟨x,ox,xs,nx,x1,x2,_,x3,_,x4⟩:=(ht3 _ gi).ints;obtain ⟨y,oy,ys,ny,y1,y2,_,y3,_,y4⟩:=(ht3 _ gj).ints;unfold kas_ask;rw [x1,y1];exact kat_lt (s:={ s with heap:=g }) x2 x3 y2 y3 (zlA hc _ _ (zlH _ _ x4 y4))
   . rintro ⟨⟨⟩,st'⟩ s' ⟨p,rfl,hp,har,hf⟩
     dsimp only;have ps : p.size = vs.length:=by rw [<- wu,hp.length_eq,vc]
     rw [kat_snds rfl har];refine wpAny_bind (seqEpoch_at (s:={ s with heap:=g }) ho3 rfl ?_);refine wpAny_bind (listUpdate_at (s:={ s with heap:=g }) ho3 rfl ?_ (vB _) (by rw [wq,wd,wu,ps,sizeLine_eq]; omega));rw [hf];simp only [bne_self_eq_false,wN,if_false];have sb2:=vX g a (wZ λ _=>Qs (p.toList.map λ i=>vs.getD i Value.none));refine wpAny_pure (q _ p _ hp (get?_update_seq ho3 λ _=>Qs (p.toList.map λ i=>vs.getD i Value.none)) λ b o hb e=>(sb2.2 b hb).trans (kp b o hb e))
end
structure SetFix (w : World) (h : Heap) (a : Addr) (es : Array (Int × Value)) (ep : Nat) (t : SetTable) : Prop where
 at' : ∃ o,h.get? a = some o /\ o.ExactSet /\ o.data = .set es ep t
 fits : t.fits es.size = true
 size : t.place.size = es.size
 ris : Ris t.place
 plain : t.plain = true
 led : t.led = zdf w
 few : es.size <= 4000
theorem SetFix.same {w : World} {h g : Heap} {a : Addr} {es : Array (Int × Value)} {ep : Nat} {t : SetTable} (x : SetFix w h a es ep t) (e : ∀ o,h.get? a = some o -> g.get? a = some o) : SetFix w g a es ep t :=
 ⟨let ⟨o,h1,r⟩:=x.at'; ⟨o,e o h1,r⟩,x.fits,x.size,x.ris,x.plain,x.led,x.few⟩
section
variable {prog : Program} {w : World} {A : Around} {E : Value -> Shared -> Prop} {s : Shared} {a : Addr} {es : Array (Int × Value)} {ep : Nat} {t : SetTable}
end
section
variable {prog : Program} {w : World} {A : Around} {E : Value -> Shared -> Prop} {s : Shared} {a it : Addr} {es : Array (Int × Value)} {ep : Nat} {t : SetTable} {i : Nat}
end
section
variable {prog : Program} {w : World} {A : Around} {E : Value -> Shared -> Prop} {s : Shared}
theorem zoB {a : Addr} {vs : List Value} {n : Nat} {P : Qr -> Shared -> Prop} (ho : s.heap.get? a = some (seqObj "list" vs.toArray n)) (h2 : vs.length < 2)
   (q : ∀ (g : Heap) (c : Nat),g.get? a = some (seqObj "list" vs.toArray c) -> (∀ b o,b ≠ a -> s.heap.get? b = some o -> g.get? b = some o) -> P (.done (.ret .none)) { s with heap:=g }) :
   wpAny (model prog w) A (Builtin.«list.sort» ⟨[.ref a],[]⟩) P E s:=by
 have sb:=vX s.heap a (wZ λ _=>(#[] : Array Value));obtain ⟨e1,ho1⟩ : ∃ e1,(s.heap.update a (wZ λ _=>(#[] : Array Value))).get? a = some (seqObj "list" #[] e1):=⟨_,get?_update_seq ho λ _=>#[]⟩
 have kp : ∀ b o,b ≠ a -> s.heap.get? b = some o -> (((s.heap.update a (wZ λ _=>(#[] : Array Value))).push (seqObj "tuple" vs.toArray 0)).push (seqObj "list" #[] 0)).get? b = some o:=λ b o hb e =>
   wb _ (wb _ ((sb.2 b hb).trans e))
 have ho3 : (((s.heap.update a (wZ λ _=>(#[] : Array Value))).push (seqObj "tuple" vs.toArray 0)).push (seqObj "list" #[] 0)).get? a = some (seqObj "list" #[] e1):=wb _ (wb _ ho1);have nz : vs.toArray.size < 2:=by rw [wq]; omega
 rw [list_sort_plain];refine wpAny_bind (listItems_at ho rfl ?_);refine wpAny_bind (listUpdate_at ho rfl ?_ (by rw [wq,sizeLine_eq]; omega) (vB _));refine wpAny_bind (seqEpoch_at ho1 rfl ?_);refine wpAny_bind (wpAny_newTuple ?_ (by show vs.length <= _; rw [sizeLine_eq]; omega));refine wpAny_bind (wpAny_newList ?_ (vB _));refine wpAny_holding ?_
 show wpAny (model prog w) A _ P E { s with heap:=((s.heap.update a (wZ λ _=>(#[] : Array Value))).push (seqObj "tuple" vs.toArray 0)).push (seqObj "list" #[] 0) }
 dsimp only;rw [if_pos nz,if_pos nz];generalize ((s.heap.update a (wZ λ _=>(#[] : Array Value))).push (seqObj "tuple" vs.toArray 0)).push (seqObj "list" #[] 0) = g at *;refine wpAny_bind (wpAny_pure ?_);rw [StateT.run_pure];refine wpAny_bind (wpAny_pure ?_);dsimp only
 have es : (arrOf (SortSt.mk' general' (vs.toArray.zip vs.toArray) #[] 7 none)).map (·.2) = vs.toArray:=by
   show (vs.toArray.zip vs.toArray).map (·.2) = vs.toArray
   apply Array.ext'
   simp [List.map_snd_zip]
 rw [es];refine wpAny_bind (seqEpoch_at (s:={ s with heap:=g }) ho3 rfl ?_);refine wpAny_bind (listUpdate_at (s:={ s with heap:=g }) ho3 rfl ?_ (vB _) (by rw [wq,sizeLine_eq]; omega));simp only [bne_self_eq_false,wN,if_false];have sb2:=vX g a (wZ λ _=>vs.toArray);refine wpAny_pure (q _ _ (get?_update_seq ho3 λ _=>vs.toArray) λ b o hb e=>(sb2.2 b hb).trans (kp b o hb e))
theorem zsx {vs : List Value} {p : Array Nat} (h : Pm vs.length p) : (p.toList.map λ i=>vs.getD i Value.none).Perm vs:=by
 have:=h.map λ i=>vs.getD i Value.none
 rwa [zix] at this
theorem zmN {a : Addr} {vs : List Value} {n : Nat} {P : Qr -> Shared -> Prop} (ho : s.heap.get? a = some (seqObj "list" vs.toArray n)) (h64 : vs.length < 64) (ht : ∀ v ∈ vs,Tw s.heap v)
   (q : ∀ (g : Heap) (us : List Value) (c : Nat),us.Perm vs -> g.get? a = some (seqObj "list" us.toArray c) -> (∀ b o,b ≠ a -> s.heap.get? b = some o -> g.get? b = some o) -> P (.done (.ret .none)) { s with heap:=g }) :
   wpAny (model prog w) A (Builtin.«list.sort» ⟨[.ref a],[]⟩) P E s:=by
 rcases wK vs.length 2 with h | h
 . exact zoB ho h λ g c h1 h2=>q g vs c (.refl _) h1 h2
 . exact zot ho h h64 ht λ g p c h1 h2 h3=>q g _ c (zsx h1) h2 h3
end
end TB
namespace L2
open PySem PySem.Spec PyProof.Rows GM
def SetO (w : World) (a : Addr) (ws : List V) : HO:=.ext λ h=>∃ es ep t,TB.SetFix w h a es ep t /\ zaG ws (es.toList.map (·.2))
def TpI (K : wa) (H : Hp) (v : V) (k : List Int) : Prop:=∃ q,v = .ref q /\ SqT K H q (k.map V.int)
theorem items_int {P : Program} {w : World} : ∀ {us : List Value} {ns : List Int},IntsAre us ns -> ItemsAre (intKind P w) ns us
 | _,_,.nil=>.nil
 | _,_,.cons n t r=>.cons (by show VB n (Value.int n t) = true; simp [VB]) (items_int r)
theorem zna {P : Program} {w : World} (k : Int) (v : Value) (h : (intKind P w).is k v = true) : ∃ i t,v = .int i t:=by
 have h : VB k v = true:=h;cases v with
 | int i t=>exact ⟨i,t,rfl⟩
 | _=>exact absurd h (by simp [VB])
theorem Inv.key {X : Cx} {pins : List (Addr × Obj)} {σ : List (Option V)} {H : Hp} {s : Shared} (I : Inv X pins σ H s) {q : Addr} {k : List Int} (h : SqT X.K H q (k.map V.int)) : IsTupleKey (intKind X.prog X.w) s.heap k q:=by
 obtain ⟨its,r,⟨o,e,hc,n,hd⟩,_⟩:=I.tuple h;exact ⟨o,its.toArray,n,e,hc,hd,items_int (zfg r)⟩
theorem Inv.tw {X : Cx} {pins : List (Addr × Obj)} {σ : List (Option V)} {H : Hp} {s : Shared} (I : Inv X pins σ H s) {q : Addr} {k : List Int} (h : SqT X.K H q (k.map V.int)) (hk : k ≠ []) : TB.Tw s.heap (.ref q):=by
 obtain ⟨its,r,⟨o,e,hc,n,hd⟩,_⟩:=I.tuple h
 have hi : ∀ {us : List Value} {ns : List Int},IntsAre us ns -> ∀ y ∈ us,∃ i u,y = Value.int i u:=λ {us ns} h=>by
   induction h with
   | nil=>intro y hy; cases hy
   | cons n t _ ih =>
     intro y hy;rcases wm.mp hy with e | hy
     . exact ⟨n,t,e⟩
     . exact ih y hy
 have r:=zfg r;cases r with
 | nil=>exact absurd rfl hk
 | cons x t r'=>exact ⟨q,o,_,n,x,t,_,rfl,e,hc,hd,rfl,hi r'⟩
def znN (K : wa) (w : World) : List V -> Hp -> VK -> Prop:=λ xs H Q=>∃ (p : Addr) (vs : List V) (key : Nat -> List Int),xs = [.ref p] /\ SqL K H p vs /\ vs.length <= 999 /\ (∀ j v,vs[j]? = some v -> TpI K H v (key j)) /\
 ∀ (l : Addr) (ws : List V) (ks : List (List Int)),H l = none -> ws.length = ks.length -> (∀ (i : Nat) (v : V) (k : List Int),ws[i]? = some v -> ks[i]? = some k -> TpI K H v k) -> ks.Nodup -> (∀ x,x ∈ ks ↔ ∃ j,j < vs.length /\ key j = x) ->
   Q (.ref l) (upd H l (SetO w l ws))
theorem ziF : ∀ {ws : List V} {us : List Value},zaG ws us -> ∀ {i : Nat} {q : Addr},ws[i]? = some (.ref q) -> us[i]? = some (.ref q)
 | _,_,.nil,i,q,h=>by simp at h
 | _,_,.cons r1 r2,0,q,h=>by
   simp only [qw,Vy] at h ⊢;subst h;exact r1
 | _,_,.cons r1 r2,i + 1,q,h=>by
   simp only [Vw] at h ⊢;exact ziF r2 h
def zlb : Value -> V
 | .ref a=>.ref a
 | _=>.non
theorem zdG : ∀ (us : List Value),(∀ u ∈ us,∃ a,u = .ref a) -> zaG (us.map zlb) us
 | [],_=>.nil
 | u :: us,h=>by
   obtain ⟨a,rfl⟩:=h u (wO ..);exact .cons rfl (zdG us λ u hu=>h u (wI _ hu))
theorem ziI (es : List (Int × Value)) (h : ∀ e ∈ es,∃ a,e.2 = .ref a) : zaG (es.map λ e=>zlb e.2) (es.map (·.2)):=by
 have:=zdG (es.map (·.2)) λ u hu=>by
   obtain ⟨e,he,rfl⟩:=wT.mp hu;exact h e he
 rwa [VW] at this
theorem zjA {α : Type} [DecidableEq α] : ∀ {ks l : List α},ks.Nodup -> (∀ x ∈ ks,x ∈ l) -> ks.length <= l.length
 | [],l,_,_=>vB _
 | k :: ks,l,h,hs=>by
   rw [Wn] at h;have hk:=hs k (wO ..);have:=zjA (l:=l.erase k) h.2 λ x hx=>(List.mem_erase_of_ne (λ e=>h.1 (by rw [<- e]; exact hx))).mpr (hs x (wI _ hx))
   rw [List.length_erase_of_mem hk] at this;have:=List.length_pos_of_mem hk;rw [wU];omega
theorem Paired.back {α β : Type} {R : α -> β -> Prop} : ∀ {xs : List α} {us : List β},Paired R xs us -> ∀ {i : Nat} {u : β},us[i]? = some u -> ∃ x,xs[i]? = some x /\ R x u
 | _,_,.nil,i,u,h=>by simp at h
 | _,_,.cons r1 r2,0,u,h=>by
   simp only [qw,Vy] at h ⊢;subst h;exact ⟨_,rfl,r1⟩
 | _,_,.cons r1 r2,i + 1,u,h=>by
   simp only [Vw] at h ⊢;exact Paired.back r2 h
theorem zlm {X : Cx} (hu : X.A.units + 64 < cLine) (hc : X.calm = true) : zal X (.type "set") (znN X.K X.w):=by
 intro pins s σ H xs us Q I r h;obtain ⟨p,vs,key,rfl,hq,hn,hk,q⟩:=h;obtain ⟨u,rfl,rx⟩:=zdE r;cases rx;obtain ⟨its,r',pl,hz⟩:=I.list hq;have hlen:=r'.length
 have hx : ∀ j : Nat,∃ ad : Addr,∀ v,vs[j]? = some v -> v = .ref ad /\ SqT X.K H ad ((key j).map V.int):=λ j=>by
   cases e : vs[j]? with
   | none=>exact ⟨0,λ v h=>by cases h⟩
   | some v =>
     obtain ⟨ad,h1,h2⟩:=hk j v e;exact ⟨ad,λ v' h=>by cases h; exact ⟨h1,h2⟩⟩
 obtain ⟨ad,had⟩ : ∃ ad : Nat -> Addr,∀ j v,vs[j]? = some v -> v = .ref (ad j) /\ SqT X.K H (ad j) ((key j).map V.int):=⟨λ j=>(hx j).choose,λ j=>(hx j).choose_spec⟩;have hg : ∀ j,j < its.length -> ∃ v,vs[j]? = some v:=λ j hj=>⟨vs[j]'(by omega),we _⟩
 refine TB.call_setT (knd:=intKind X.prog X.w) (U:=λ a k=>SqT X.K H a (k.map V.int)) zna (key:=key) (ad:=ad) (I.ok.hd hc) hu pl.isList (λ j v hv=>?_) (λ j hj=>?_) (by omega) (λ j hj=>?_) λ g tk ks hS hm kp=>?_
 . obtain ⟨v',hv'⟩:=hg j (by rcases wK j its.length with h | h; exact h; rw [wW h] at hv; cases hv)
   obtain ⟨rfl,_⟩:=had j v' hv';have:=ziF r' hv';rw [hv] at this;exact wH this
 . obtain ⟨v',hv'⟩:=hg j hj
   exact I.key (had j v' hv').2
 . obtain ⟨v',hv'⟩:=hg j hj
   exact (had j v' hv').2
 . obtain ⟨o,es,ep,t,e1,e2,e3,e4,e5,e6,e7,e8,e9,e10⟩:=hS
   obtain ⟨f1,f2⟩:=e9
   have kl : ks.length <= 999:=wV (zjA e10 (l:=(wo its.length).map key) λ x hx=>by
     obtain ⟨j,h1,h2⟩:=(hm x).mp hx;exact wT.mpr ⟨j,wS.mpr h1,h2⟩) (by rw [wd,vc]; omega)
   have hz' : es.size = ks.length:=by rw [<- f1,wu]
   have hr : ∀ e ∈ es.toList,∃ a,e.2 = .ref a:=λ e he=>by
     obtain ⟨i,hi⟩:=vM.mp he;obtain ⟨k,hk'⟩ : ∃ k,ks[i]? = some k:=⟨_,we (by rw [<- f1]; exact (vV.mp hi).1)⟩;obtain ⟨a,h1,_⟩:=f2 i e k hi hk';exact ⟨a,h1⟩
   refine ⟨.ref s.heap.objs.size,_,I.laid (t':=tk) kp (wg _) (show za9 X.prog X.w _ _ _ (SetO X.w s.heap.objs.size (es.toList.map λ e=>zlb e.2)) from ⟨⟨es,ep,t,⟨⟨o,e1,e2,e3⟩,?_,?_,e4.ris,e8,e7,by omega⟩,?_⟩,⟨o,e1⟩,?_⟩),rfl,
     q _ _ ks (I.hok.fresh (wg _)) (by rw [wd]; exact f1) (λ i v k hv hk'=>?_) e10 λ x=>by rw [hlen]; exact hm x⟩
   . have:=e4.fits
     rwa [wd,wu] at this
   . rw [e4.size,wd,wu]
   . exact ziI _ hr
   . rintro h1 h2 ⟨es',ep',t',a1,a2⟩ hh
     exact ⟨es',ep',t',a1.same hh,a2⟩
   . rw [wE] at hv
     cases e : es.toList[i]? with
     | none=>rw [e] at hv; cases hv
     | some x =>
       rw [e] at hv;cases hv;obtain ⟨a,h1,_,_,h2⟩:=f2 i x k e hk';exact ⟨a,by show zlb x.2 = _; rw [h1]; rfl,h2⟩
theorem znC : ∀ {us : List Value} {ws : List V},(∀ u ∈ us,∃ a,u = .ref a) -> zaG ws us -> ws = us.map zlb
 | _,_,_,.nil=>rfl
 | y :: us,x :: ws,h,.cons r1 r2=>by
   obtain ⟨a,rfl⟩:=h _ (wO ..);rw [wv,<- znC (λ u hu=>h u (wI _ hu)) r2]
   congr 1
   cases x <;> first | (obtain ⟨_,e⟩:=r1; cases e; done) | (cases r1; rfl) | (cases r1; done)
def zre (w : World) : List V -> Hp -> VK -> Prop:=λ xs H Q=>∃ (p : Addr) (ws : List V),xs = [.ref p] /\ H p = some (SetO w p ws) /\ Q (.int (ws.length : Int)) H
theorem zms {X : Cx} : zal X (.builtin "len") (zre X.w):=by
 intro pins s σ H xs us Q I r h;obtain ⟨p,ws,rfl,hp,q⟩:=h;obtain ⟨u,rfl,rx⟩:=zdE r;cases rx;obtain ⟨⟨es,ep,t,y,r'⟩,_,_⟩:=I.hok p _ hp;obtain ⟨o,h1,h2,h3⟩:=y.at';have hl : ws.length = es.size:=by have:=r'.length; simpa using this
 have:=y.few;exact PySem.call_len_set h1 h2 h3 y.fits (by omega) ⟨.int (ws.length : Int),H,I.tok _,⟨s.toks + 1,by rw [hl]⟩,q⟩
end L2
namespace TB
open PySem PySem.W PyProof.Rows MeetsSeq
section
variable {prog : Program} {w : World} {A : Around} {s : Shared} {R : Result -> Shared -> Prop}
end
end TB
namespace L2
open PySem PySem.Spec PyProof.Rows GM
section
variable {K : wa} {w : World} {H H' : Hp} {Q : VK} {v : V} {p l : Addr} {xs ys : List Rat} {us ws : List V}
theorem zhb {α : Type} : ∀ {ys : List α},ys.Nodup -> ∀ {i j : Nat} (hi : i < ys.length) (hj : j < ys.length),ys[i] = ys[j] -> i = j
 | [],_,_,_,hi,_,_=>absurd hi (vT _)
 | y :: ys,h,0,0,_,_,_=>rfl
 | y :: ys,h,0,j + 1,hi,hj,e=>by
   rw [Wn] at h;exact absurd (vb (W9 hj)) (by rw [qI,Va] at e; rw [<- e]; exact h.1)
 | y :: ys,h,i + 1,0,hi,hj,e=>by
   rw [Wn] at h;exact absurd (vb (W9 hi)) (by rw [qI,Va] at e; rw [e]; exact h.1)
 | y :: ys,h,i + 1,j + 1,hi,hj,e=>by
   rw [Wn] at h;rw [Va,Va] at e;rw [zhb h.2 (W9 hi) (W9 hj) e]
end
structure Rp (n m : Nat) (d : PyData) : Prop where
 sh : Sh n d
 si : d.showable = true
 is : d.intsShort 13 = true
 wt : d.weight <= m
theorem zfS {n : Nat} (h : n < 1000000) : n.log2 <= 20:=by
 by_cases h0 : n = 0
 . rw [h0]; decide
 . have := (Nat.log2_lt h0 (k := 20)).mpr (by have e : (2 : Nat) ^ 20 = 1048576 := by decide
                                              omega)
   omega
theorem zsw {i : Int} (h : i.natAbs < 1000000) : Rp 1 21 (.int i) where
 sh:=zse i
 si:=by
   rw [xt,decide_eq_true_eq];have:=zfS h;omega
 is:=by
   rw [Q7,decide_eq_true_eq];exact Qd (wL h (by decide))
 wt:=by
   rw [xS];have:=zfS h
   split <;> omega
theorem Rp.mono {n m k l : Nat} {d : PyData} (h : Rp n m d) (a : n <= k) (b : m <= l) : Rp k l d:=⟨h.sh.mono a,h.si,h.is,wV h.wt b⟩
theorem zn7 {n m : Nat} : ∀ {ds : List PyData},(∀ d ∈ ds,Rp n m d) -> Qt ds = true /\ Qe 13 ds = true /\ qr ds <= (m + 1) * ds.length
 | [],_=>⟨rfl,rfl,by simp [qr]⟩
 | d :: ds,h=>by
   obtain ⟨h1,h2,h3⟩:=zn7 λ e he=>h e (wI _ he)
   have hd:=h d (wO ..);refine ⟨by rw [Qt,hd.si,h1]; rfl,by rw [Qe,hd.is,h2]; rfl,?_⟩;have:=hd.wt;rw [qr,wU,qF,QZ];omega
theorem zkT {n m k : Nat} {ds : List PyData} (h : ∀ d ∈ ds,Rp n m d) (z : ds.length <= k) : Rp (n + 1) ((m + 1) * k) (.tuple ds):=by
 obtain ⟨h1,h2,h3⟩:=zn7 h;exact ⟨zoa λ d hd=>(h d hd).sh,by rw [xt]; exact h1,by rw [Q7]; exact h2,by rw [xS]; exact wV h3 (Nat.mul_le_mul_left _ z)⟩
def zrG : PyData -> Bool
 | .tuple _=>true
 | .list _=>true
 | _=>false
theorem zqC {K : wa} {H : Hp} {v : V} {d : PyData} (h : Is K H v d) (s : zrG d = true) : ∃ a,v = .ref a:=by
 cases d with
 | tuple ds=>obtain ⟨a,_,e,_⟩:=zaI.mp h; exact ⟨a,e⟩
 | list ds=>obtain ⟨a,_,e,_⟩:=zaF.mp h; exact ⟨a,e⟩
 | _=>cases s
section
variable {K : wa} {H : Hp} {Q : VK} {v : V} {d : PyData} {x y : Str}
end
theorem zfP : fillsNumberSlot (.type "tuple") "mul" = pure false :=
 PySem.fillsNumberSlot_seq (id:="tuple.__mul__") (r:=some (.builtin "tuple.__rmul__")) VM.lookup (by decide +kernel) QR.lookup (by decide +kernel)
theorem ziW : seqRepeat? (.type "tuple") = pure (some (.builtin "tuple.__mul__")):=by
 unfold seqRepeat?;rw [Q8 (T:="tuple") (name:="__mul__") (id:="tuple.__mul__") VM.lookup (by decide +kernel),Q8 (T:="tuple") (name:="__rmul__") (id:="tuple.__rmul__") QR.lookup (by decide +kernel)]
 rfl
theorem zgL (a : Int) (t : Tok) (l : Addr) (items : Array Value) (n : Nat) (dd : Option Addr) (sl : Array (Option Value)) :
   Meets (Builtin.«int.__rmul__» ⟨[.int a t,.ref l],[]⟩) (λ _ R s=>s.heap.get? l = some { cls:=.type "tuple",dict:=dd,data:=.seq items n,slots:=sl } /\ R (.ok (.ret Value.notImplemented)) s) :=
 .of_wp λ prog w A R s h=>by obtain ⟨hp,g,d,tk,os⟩:=s; obtain ⟨hl,h⟩:=h; wp_walk; exact ⟨_,rfl,h⟩
theorem zkC (l : Addr) (items : Array Value) (n : Nat) (dd : Option Addr) (sl : Array (Option Value)) (u : Tok) (hne : items.isEmpty = false) :
   Meets (Builtin.«tuple.__mul__» ⟨[.ref l,.int 1 u],[]⟩) (λ _ R s=>s.heap.get? l = some { cls:=.type "tuple",dict:=dd,data:=.seq items n,slots:=sl } /\ R (.ok (.ret (.ref l))) s) :=
 .of_wp λ prog w A R s h=>by
   obtain ⟨hp,g,d,tk,os⟩:=s; obtain ⟨hl,h⟩:=h
   wp_walk
   exact ⟨_,rfl,h⟩
theorem zkD (l : Addr) (items : Array Value) (n : Nat) (dd : Option Addr) (sl : Array (Option Value)) (k : Int) (u : Tok) (hne : items.isEmpty = false) (h1 : 1 < k) (h2 : k <= 1000) (h3 : items.size <= 1000) (hz : ((wl k.toNat items).foldl (· ++ ·) #[]).size <= sizeLine) :
   Meets (Builtin.«tuple.__mul__» ⟨[.ref l,.int k u],[]⟩) (λ _ R s=>s.heap.get? l = some { cls:=.type "tuple",dict:=dd,data:=.seq items n,slots:=sl } /\
     R (.ok (.ret (.ref s.heap.objs.size))) { s with heap:=s.heap.push { cls:=.type "tuple",data:=.seq ((wl k.toNat items).foldl (· ++ ·) #[]) } }) :=
 .of_wp λ prog w A R s h=>by
   obtain ⟨hp,g,d,tk,os⟩:=s; obtain ⟨hl,h⟩:=h;have c1 : (k == 1) = false:=by simp; omega
   have c2 : (decide (k < -(2 ^ 63)) || decide (k ≥ 2 ^ 63)) = false:=by simp; omega
   have c3 : (decide (k <= 0) || items.isEmpty) = false:=by rw [hne]; simp; omega
   have c4 : (items.isEmpty || k == 1) = false:=by rw [hne,c1]; rfl
   have c7 : items.size * k.toNat <= 1000000:=wV (xG h3 (show k.toNat <= 1000 by omega)) (by decide);have c8 : (items.size : Int) * k = ((items.size * k.toNat : Nat) : Int):=by rw [Int.natCast_mul]; congr 1; omega
   have c5 : ¬ ((items.size : Int) * k > (2 ^ 63 - 1) / 8):=by rw [c8]; omega
   have c6 : qc ((items.size : Int) * k) = false:=by
     rw [c8];unfold qc;simp only [decide_eq_false_iff_not,sizeLine_eq];omega
   have ff : ∀ {b : Bool},b = false -> decide (b = true) = false:=λ {b} e=>by subst e; rfl
   wp_walk
   refine wpAny_ite_false (ff c2) ?_
   wp_walk
   refine wpAny_ite_false (ff c3) ?_
   wp_walk
   refine wpAny_ite_false (decide_eq_false c5) ?_
   wp_walk
   refine wpAny_ite_false (ff c6) ?_
   wp_walk
   exact ⟨_,rfl,h⟩
def zjL (K : wa) : R2:=λ x y H Q=>∃ l k xs,x = .ref l /\ y = .int k /\ SqT K H l xs /\ xs ≠ [] /\ 1 <= k /\ k <= 1000 /\ xs.length <= 1000 /\ (k = 1 -> Q (.ref l) H) /\
 ∀ p,H p = none -> Q (.ref p) (upd H p (.tup (wl k.toNat xs).flatten))
theorem zlD {X : Cx} : OpR X (binaryOp .Mult) (zjL X.K):=by
 intro pins s σ H x y v u Q I rx ry h;obtain ⟨l,k,xs,rfl,rfl,hH,hne,h1,h2,h3,q1,q⟩:=h;cases rx;obtain ⟨t,rfl⟩:=ry;obtain ⟨its,r,p1,hz⟩:=I.tuple hH;obtain ⟨⟨cls,dd,data,sl⟩,ho,hc,n,hd⟩:=id p1;simp only at hc hd;subst hc hd;have hl:=r.length
 have hne' : its.toArray.isEmpty = false:=by
   cases its with
   | nil=>exact absurd (Wy (by simpa using hl)) hne
   | cons a b=>rfl
 have f0 : ∀ m : Nat,List.foldl (λ x1 x2=>x1 ++ x2) #[] (wl m its.toArray) = (wl m its).flatten.toArray:=λ m=>by
   have:=zik its m [];rw [List.nil_append] at this;exact this
 refine wpAny_binaryOp_repeat_ref (T:="tuple") (U:="int") (by decide) ⟨_,ho,rfl⟩ (λ s'=>typeIs_int s' k t) zfP F.fills_int_mul xu ziW F.slot_int_index.lookup
   (call_meets xu (typeIs_int s k t) F.entry_int_rmul (F.args_int_rmul_2 _ _) (zgL k t l its.toArray n dd sl)
     ⟨ho,rfl,⟨_,ho,rfl⟩,?_⟩)
 by_cases e1 : k = 1
 . subst e1
   exact call_meets VM ⟨_,ho,rfl⟩ QT (Qu _ _) (zkC l its.toArray n dd sl t hne') ⟨ho,⟨.ref l,H,I,rfl,q1 rfl⟩⟩
 . have hlen : (wl k.toNat its).flatten.length <= 1000000:=by
     rw [ziQ];exact wV (xG (show k.toNat <= 1000 by omega) (show its.length <= 1000 by omega)) (by decide)
   refine call_meets VM ⟨_,ho,rfl⟩ QT (Qu _ _) (zkD l its.toArray n dd sl k t hne' (by omega) h2 (by rw [wq]; omega) (by rw [f0,wq,sizeLine_eq]; omega)) ⟨ho,?_⟩;rw [f0];have hlen' : (wl k.toNat xs).flatten.length = (wl k.toNat its).flatten.length:=by rw [ziQ,ziQ,hl]
   exact ⟨.ref _,_,I.laid (t':=s.toks) (λ b o e=>wb _ e) (wg _) (show za9 X.prog X.w _ _ _ (.tup (wl k.toNat xs).flatten) from ⟨by rw [hlen',sizeLine_eq]; omega,_,r.rep k.toNat,Vg _ _⟩),rfl,q _ (I.hok.fresh (wg _))⟩
section
variable {K : wa} {H : Hp} {Q : VK} {v : V} {ds : List PyData} {k : Int}
theorem IsAll.rep {xs : List V} {ds : List PyData} (h : IsAll K H xs ds) : ∀ n : Nat,IsAll K H (wl n xs).flatten (wl n ds).flatten
 | 0=>.nil
 | n + 1=>by
   rw [vW,vW,Wj,Wj];exact h.append (IsAll.rep h n)
theorem zor (h : Is K H v (.tuple ds)) (hne : ds ≠ []) (h1 : 1 <= k) (h2 : k <= 1000) (h3 : ds.length <= 1000) (q : ∀ w H',zag H H' -> Is K H' w (.tuple (wl k.toNat ds).flatten) -> Q w H') : zjL K v (.int k) H Q:=by
 obtain ⟨a,xs,rfl,hs,t⟩:=zaI.mp h;have hl:=t.length;refine ⟨a,k,xs,rfl,rfl,hs,λ z=>?_,h1,h2,by omega,λ z=>?_,λ p hp=>q _ _ (zag.upd hp) (zaI.mpr ⟨p,_,rfl,.of zar,IsAll.same (zag.upd hp) _ _ (t.rep _)⟩)⟩
 . rw [z] at hl; exact hne (Wy (by simpa using hl.symm))
 . subst z
   refine q _ H (zag.refl _) ?_;rw [show (1 : Int).toNat = 1 from rfl,List.replicate_one,Wj,List.flatten_nil,vS];exact h
theorem zjF {α : Type} (d : α) : ∀ n : Nat,(wl n [d]).flatten = wl n d
 | 0=>rfl
 | n + 1=>by rw [vW,Wj,zjF d n,vW]; rfl
theorem zjG {d : PyData} (h : Is K H v (.tuple [d])) (h1 : 1 <= k) (h2 : k <= 1000) (q : ∀ w H',zag H H' -> Is K H' w (.tuple (wl k.toNat d)) -> Q w H') : zjL K v (.int k) H Q :=
 zor h (by simp) h1 h2 (by simp) λ w H' s i=>q w H' s (by rw [zjF] at i; exact i)
end
end L2
namespace TB
open PySem PySem.W PyProof.Rows
section
variable {prog : Program} {w : World} {A : Around} {E : Value -> Shared -> Prop} {s : Shared}
theorem sorted_list {a : Addr} {vs : List Value} (hl : s.heap.IsList a vs.toArray) (h64 : vs.length < 64) (ht : ∀ v ∈ vs,Tw s.heap v) {Q : Value -> Shared -> Prop}
   (q : ∀ (l : Addr) (g : Heap) (us : List Value) (c : Nat),us.Perm vs -> s.heap.objs.size <= l -> g.get? l = some (seqObj "list" us.toArray c) -> (∀ b o,s.heap.get? b = some o -> g.get? b = some o) -> Q (.ref l) { s with heap:=g }) :
   wpAny (model prog w) A (call (.builtin "sorted") [.ref a]) Q E s:=by
 refine Calls.call_function_entry kind_sorted plain_sorted entry_sorted (args_sorted1 _) ?_;unfold Builtin.«sorted»;refine wpAny_bind (m:=checkCount "sorted" 1 1 _) (wpAny_pure ?_);refine wpAny_bind (collect_list hl ?_)
 have kp : ∀ b o,s.heap.get? b = some o -> ((s.heap.push (seqObj "list" #[] 0)).update s.heap.objs.size (wZ (· ++ vs.toArray))).get? b = some o:=λ b o e =>
   ((vX (s.heap.push (seqObj "list" #[] 0)) s.heap.objs.size (wZ (· ++ vs.toArray))).2 b (wF (wk e))).trans (wb _ e)
 have sz : ((s.heap.push (seqObj "list" #[] 0)).update s.heap.objs.size (wZ (· ++ vs.toArray))).objs.size = s.heap.objs.size + 1:=by
   rw [Heap.size_update,vn]
 show wpAny (model prog w) A.in1 _ _ E { s with heap:=(s.heap.push (seqObj "list" #[] 0)).update s.heap.objs.size (wZ (· ++ vs.toArray)) }
 generalize (s.heap.push (seqObj "list" #[] 0)).update s.heap.objs.size (wZ (· ++ vs.toArray)) = h' at *;have tw : ∀ v ∈ vs,Tw (h'.push (seqObj "list" vs.toArray 0)) v:=λ v hv=>(ht v hv).grow λ b o _ ho=>wb _ (kp b o ho)
 refine wpAny_bind (wpAny_newList ?_ (by rw [sizeLine_eq]; omega));have hoL : (h'.push (seqObj "list" vs.toArray 0)).get? h'.objs.size = some (seqObj "list" vs.toArray 0):=wj _ rfl;refine wpAny_bind (wpAny_holding (wpAny_call_entry slot_list_sort ⟨_,hoL,rfl⟩ entry_list_sort (zmN (s:={ s with heap:=h'.push (seqObj "list" vs.toArray 0) }) hoL h64 tw λ g us c h1 h2 h3=>⟨_,rfl,?_⟩) (args_list_sort _)));exact wpAny_pure ⟨_,rfl,q _ g us c h1 (by show s.heap.objs.size <= h'.objs.size; omega) h2 λ b o e=>h3 b o (wF (wk (kp b o e))) (wb _ (kp b o e))⟩
end
end TB
namespace L2
open PySem PySem.Spec PyProof.Rows GM
def zkN (K : wa) : List V -> Hp -> VK -> Prop:=λ xs H Q=>∃ (p : Addr) (ws : List V),xs = [.ref p] /\ SqL K H p ws /\ ws.length < 64 /\ (∀ v ∈ ws,∃ k,k ≠ [] /\ TpI K H v k) /\ ∀ (l : Addr) (us : List V),H l = none -> us.Perm ws -> Q (.ref l) (upd H l (.lst us))
theorem zli {X : Cx} : zal X (.builtin "sorted") (zkN X.K):=by
 intro pins s σ H xs us Q I r h;obtain ⟨p,ws,rfl,hp,h64,ht,q⟩:=h;obtain ⟨u,rfl,rx⟩:=zdE r;cases rx;obtain ⟨its,r',pl,hz⟩:=I.list hp;have hl:=r'.length
 have hr : ∀ u ∈ its,∃ a k,k ≠ [] /\ u = .ref a /\ SqT X.K H a (k.map V.int):=λ u hu=>by
   obtain ⟨i,hi⟩:=vM.mp hu;obtain ⟨x,hx,hxr⟩:=Paired.back r' hi;obtain ⟨k,k0,a,rfl,h2⟩:=ht x (Wg hx);exact ⟨a,k,k0,hxr,h2⟩
 refine TB.sorted_list pl.isList (by omega) (λ u hu=>?_) λ l g us c pm hle hg kp=>?_
 . obtain ⟨a,k,k0,e2,hs⟩:=hr u hu
   rw [e2];exact I.tw hs k0
 . have hu : ∀ u ∈ us,∃ a,u = .ref a:=λ u hu=>by
     obtain ⟨a,k,k0,e2,hs⟩:=hr u (pm.mem_iff.mp hu);exact ⟨a,e2⟩
   have pw : (us.map zlb).Perm ws:=by
     rw [znC (λ u hu=>by obtain ⟨a,k,k0,e2,hs⟩:=hr u hu; exact ⟨a,e2⟩) r'];exact pm.map _
   refine ⟨.ref l,_,I.laid (t':=s.toks) kp hle (show za9 X.prog X.w _ _ _ (.lst (us.map zlb)) from ⟨?_,us,c,zdG us hu,hg⟩),rfl,q l _ (I.hok.fresh hle) pw⟩;rw [pw.length_eq];exact WD (zb4 (by omega))
theorem zgQ {K : wa} {H : Hp} {α : Type} {f : α -> PyData} : ∀ {ks : List α} {ws : List V},IsAll K H ws (ks.map f) -> ∀ v ∈ ws,∃ k ∈ ks,Is K H v (f k)
 | [],ws,h,v,hv=>by rw [za3.mp h] at hv; cases hv
 | k :: ks,ws,h,v,hv=>by
   rw [wv] at h;obtain ⟨x,r,rfl,q,t⟩:=zaE.mp h;rcases wm.mp hv with e | hv
   . subst e; exact ⟨k,wO ..,q⟩
   . obtain ⟨k',m,i⟩:=zgQ t v hv
     exact ⟨k',wI _ m,i⟩
theorem zlc {K : wa} {H : Hp} {α : Type} {f : α -> PyData} {us ws : List V} (p : us.Perm ws) : ∀ {ks : List α},IsAll K H ws (ks.map f) -> ∃ js : List α,js.Perm ks /\ IsAll K H us (js.map f):=by
 induction p with
 | nil=>intro ks h; exact ⟨ks,.refl _,h⟩
 | cons x _ ih =>
   intro ks h;cases ks with
   | nil=>exact absurd (za3.mp h) (by simp)
   | cons k ks =>
     rw [wv] at h;obtain ⟨y,r,e,q,t⟩:=zaE.mp h;cases e;obtain ⟨js,pj,tj⟩:=ih t;exact ⟨k :: js,.cons k pj,.cons q tj⟩
 | swap x y l =>
   intro ks h;cases ks with
   | nil=>exact absurd (za3.mp h) (by simp)
   | cons k ks =>
     rw [wv] at h;obtain ⟨y',r,e,q,t⟩:=zaE.mp h;cases e;cases ks with
     | nil=>exact absurd (za3.mp t) (by simp)
     | cons k' ks =>
       rw [wv] at t;obtain ⟨y',r,e,q',t⟩:=zaE.mp t;cases e;exact ⟨k' :: k :: ks,.swap k k' ks,.cons q' (.cons q t)⟩
 | trans _ _ ih1 ih2 =>
   intro ks h;obtain ⟨js,pj,tj⟩:=ih2 h;obtain ⟨is,pi,ti⟩:=ih1 tj;exact ⟨is,pi.trans pj,ti⟩
theorem zn4 {K : wa} {H : Hp} {Q : VK} {v : V} {ks : List (List Int)} (h : Is K H v (.list (ks.map TZ))) (z : ks.length < 64) (hk : ∀ k ∈ ks,k ≠ []) (q : ∀ (l : Addr) (H' : Hp) (us : List V) (js : List (List Int)),H l = none -> zag H H' -> H' l = some (.lst us) -> js.Perm ks -> IsAll K H' us (js.map TZ) -> Q (.ref l) H') : zkN K [v] H Q:=by
 obtain ⟨p,ws,rfl,hs,t⟩:=zaF.mp h;have hl:=t.length;rw [wd] at hl;refine ⟨p,ws,rfl,hs,by omega,λ v hv=>?_,λ l us hn pm=>?_⟩
 . obtain ⟨k,m,i⟩:=zgQ t v hv
   exact ⟨k,hk k m,zct.mp i⟩
 . obtain ⟨js,pj,tj⟩:=zlc pm t
   exact q l _ us js hn (zag.upd hn) zar pj (IsAll.same (zag.upd hn) _ _ tj)
def zqU (K : wa) (ta : TA) : TI:=λ σ H R=>ta σ H λ vs H1=>∃ t u a b,vs = [.ref a,.ref b] /\ (∃ xs,SqK t K H1 a xs) /\ (∃ ys,SqK u K H1 b ys) /\ R (Itz t u K a b) H1
theorem zps {X : Cx} {elts : List Expr} {k1} {tpos p pos : Pos} {l m : Expr} {ta : TA} (hg : Gl X "zip") (hm : X.mg "zip" = none) (ha : PA X [l,m] ta) (hs : starEach [l,m] X.env = [(false,eval l X.env),(false,eval m X.env)]:=by rfl) (hs2 : starEach [m] X.env = [(false,eval m X.env)]:=by rfl) :
   PI X (.Tuple elts k1 tpos) (.Call (.Name "zip" p) [l,m] [] pos) (zqU X.K ta):=by
 intro pins s σ H R I h;refine Call_ (zdi I hg hm znp (vC (thn (ha pos pins s σ H _ I h) λ us s1 ⟨vs,H1,I1,r1,q1⟩=>?_) (by rw [hs,hs2]) (by rw [hs2]; rfl)));obtain ⟨t,u,a,b,rfl,⟨xs,hq1⟩,⟨ys,hq2⟩,q⟩:=q1;obtain ⟨u',v,rfl,ru,rv⟩:=zh3 r1;cases ru;cases rv;obtain ⟨its,_,p1⟩:=I1.seqK hq1;obtain ⟨jts,_,p2⟩:=I1.seqK hq2;cases t with
 | true =>
   have la : a < s1.heap.objs.size:=by obtain ⟨o,e,_⟩:=(show s1.heap.IsTuple a its.toArray from p1); exact wk e
   cases u with
   | true =>
     have lb : b < s1.heap.objs.size:=by obtain ⟨o,e,_⟩:=(show s1.heap.IsTuple b jts.toArray from p2); exact wk e
     exact zm2 p1 p2 λ h' hz hi ho t1 t2 kp=>zg8 (t:=true) (u:=true) I1 la lb hz hi ho t1 t2 kp q
   | false =>
     have lb : b < s1.heap.objs.size:=by obtain ⟨o,e,_⟩:=(show s1.heap.IsList b jts.toArray from p2); exact wk e
     exact zmX p1 p2 λ h' hz hi ho t1 t2 kp=>zg8 (t:=true) (u:=false) I1 la lb hz hi ho t1 t2 kp q
 | false =>
   have la : a < s1.heap.objs.size:=by obtain ⟨o,e,_⟩:=(show s1.heap.IsList a its.toArray from p1); exact wk e
   cases u with
   | true =>
     have lb : b < s1.heap.objs.size:=by obtain ⟨o,e,_⟩:=(show s1.heap.IsTuple b jts.toArray from p2); exact wk e
     exact zm0 p1 p2 λ h' hz hi ho t1 t2 kp=>zg8 (t:=false) (u:=true) I1 la lb hz hi ho t1 t2 kp q
   | false =>
     have lb : b < s1.heap.objs.size:=by obtain ⟨o,e,_⟩:=(show s1.heap.IsList b jts.toArray from p2); exact wk e
     exact call_zip_2 p1 p2 λ h' hz hi ho t1 t2 _ kp=>zg8 (t:=false) (u:=false) I1 la lb hz hi ho t1 t2 kp q
section
variable {K : wa} {g : TG} {tt : TT} {te : TE} {tb : TS} {ta : TA} {D : zcc} {src : List (Option Nat)} {σ : L2.St} {H : Hp} {Q : VK}
theorem zmE (h : ta σ H λ vs H1=>∃ t u,zme t u K g tt te src σ vs H1 Q) : ze2 src (zqU K ta) g tt te σ H Q:=by
 refine (show ta σ H _ from ?_);have e : (λ vs H1=>∃ t u,zme t u K g tt te src σ vs H1 Q) = λ vs H1=>∃ t u a b,vs = [.ref a,.ref b] /\ (∃ xs,SqK t K H1 a xs) /\ (∃ ys,SqK u K H1 b ys) /\ ∀ D,H1 D = none -> zee g tt te (Itz t u K a b) D (za0 src σ) (upd H1 D (.lst [])) (λ H'=>Q (.ref D) H'):=rfl
 rw [e] at h;exact h
theorem zo0 {v : V} {ds : List PyData} (h : Is K H v (.list ds) \/ Is K H v (.tuple ds)) : ∃ t a us,v = .ref a /\ SqK t K H a us /\ IsAll K H us ds:=by
 rcases h with h | h
 . obtain ⟨a,xs,e,hs,t⟩:=zaF.mp h
   exact ⟨false,a,xs,e,hs,t⟩
 . obtain ⟨a,xs,e,hs,t⟩:=zaI.mp h
   exact ⟨true,a,xs,e,hs,t⟩
end
end L2
namespace TB
open PySem PySem.W PyProof.Rows
section
variable {prog : Program} {w : World} {A : Around} {E : Value -> Shared -> Prop} {s : Shared}
theorem typeCall_enumS (a : Value) (t : Tok) : checkTypeCall "enumerate" ⟨[a],[("start",.int 1 t)]⟩ = pure ():=by kernel_rfl
theorem newCall_enumS (a : Value) (t : Tok) : checkBuiltinCall "enumerate.__new__" ⟨[.type "enumerate",a],[("start",.int 1 t)]⟩ = pure ():=by kernel_rfl
theorem argsInit_enumS (o a : Value) (t : Tok) : argsOk "object.__init__" ⟨[o,a],[("start",.int 1 t)]⟩:=by
 unfold argsOk; rw [signature?_of (id:="object.__init__") (n:=['_','_','t','i','n','i','_','_']) (o:=['t','c','e','j','b','o']) (by kernel_rfl) F.owner_object]; kernel_rfl
theorem callType_meetsK {T newId initId : String} {Bn Bi : Builtin} {args : List Value} {kw : List (Str × Value)} {S : PySem.Spec} {Q Q₁ : Value -> Shared -> Prop} (ft : TypeCalled T newId initId)
   (hct : checkTypeCall T ⟨args,kw⟩ = pure ()) (hcn : checkBuiltinCall newId ⟨.type T :: args,kw⟩ = pure ())
   (entryN : entryFor table newId = some Bn) (entryI : entryFor table initId = some Bi) (g : Meets (Bn ⟨.type T :: args,kw⟩) S)
   (h : S A.in1 (wants Q₁ E) s)
   (hnext : ∀ obj s₁,Q₁ obj s₁ -> s₁.TypeIs obj T /\ argsOk initId ⟨obj :: args,kw⟩ /\ ∃ Si,Meets (Bi ⟨obj :: args,kw⟩) Si /\ Si A.in1 (wants (λ r s₂=>r = .none /\ Q obj s₂) E) s₁) :
   wpAny (model prog w) A (call (.type T) args kw) Q E s:=by
 obtain ⟨c,tl,hmro⟩:=ft.mro;have hmade:=ft.made;have hsub:=ft.sub;refine wpAny_call (codeAny_of_tree ?_)
 show wpAny _ _ (callAny (.type T) _) _ _ _
 refine wpAny_pure ⟨Qp _ (by decide +kernel),codeAny_builtin QQ ?_⟩;rw [Qq (weight_type_call_type T args kw) (units_type_call_type T args kw)];have h1:=ft.notType;have h2:=ft.canCreate
 repeat (any_goals (first | assumption | wp_step))
 refine codeAny_mono (codeAny_call_builtin ft.plain entryN (wpAny_of_eq hcn (g prog w A.in1 _ s h))) λ r s₁ hr=>?_
 cases r with
 | error e=>exact hr
 | ok fl =>
   cases fl with
   | ret obj =>
     obtain ⟨hT,hok,Si,gi,hsi⟩:=hnext _ _ hr;have hli:=ft.init.lookup;have hbi:=ft.init.bind obj
     repeat (any_goals (first | assumption | wp_step))
     refine codeAny_mono (codeAny_call_builtin ft.init.plain entryI (ft.init.check _ _ _ _ _ _ _ _ hT hok (gi prog w A.in1 _ s₁ hsi))) λ r₂ s₂ hr₂=>?_
     cases r₂ with
     | error e=>exact hr₂
     | ok fl₂ =>
       cases fl₂ with
       | ret r =>
         obtain ⟨rfl,hq⟩:=hr₂
         repeat (any_goals (first | assumption | wp_step))
       | _=>exact hr₂.elim
   | _=>exact hr.elim
theorem object_init_K {T newId : String} {self : Value} {rest : List Value} {kw : List (Str × Value)} (hl : typeLookup (.type T) "__init__" = pure (some (.builtin "object.__init__")))
   (hm : Bind.madeBy (.type T) = pure (some newId)) (hne : (some newId != some "object.__new__") = true) (hk : rest ≠ []) :
   Meets (Builtin.«object.__init__» ⟨self :: rest,kw⟩) (λ _ R s=>s.TypeIs self T /\ R (.ok (.ret .none)) s):=by
 refine Meets.of_wp λ prog w A R s hs=>?_
 obtain ⟨hT,hq⟩:=hs;cases rest with
 | nil=>exact absurd rfl hk
 | cons a rest =>
   repeat (any_goals (first | assumption | wp_step))
   exact ⟨_,rfl,hq⟩
open AutoSeq1 (wpAny_loadPart') in
set_option maxHeartbeats 1000000 in
theorem meets_enumS (tu : Addr) (its : Array Value) (n : Nat) (dct : Option Addr) (sl : Array (Option Value)) (t : Tok) : Meets (Builtin.«enumerate.__new__» ⟨[.type "enumerate",.ref tu],[("start",.int 1 t)]⟩) (λ _ R s=>s.heap.get? tu = some { cls:=.type "tuple",dict:=dct,data:=.seq its n,slots:=sl } /\
   R (.ok (.ret (.ref (s.heap.push { cls:=.type "tuple_iterator",data:=.fields #[.ref tu,.int 0 0] }).objs.size))) { s with heap:=(s.heap.push { cls:=.type "tuple_iterator",data:=.fields #[.ref tu,.int 0 0] }).push { cls:=.type "enumerate",data:=.fields #[.none,.bool false,.ref s.heap.objs.size,rawInt 1,.none,.none] } }) :=
 .of_wp λ prog w A R s h=>by
   obtain ⟨hp,g,d,tk,os⟩:=s;obtain ⟨et,h⟩:=h;have hsub:=sub_enumerate;have hT : Vf (W7 ⟨hp,g,d,tk,os⟩) tu its:=⟨_,et,rfl,n,rfl⟩
   wp_walk using wpAny_loadPart' et
   refine wpAny_stack_any λ st=>wpAny_pure ?_
   split
   . rename_i c _ _ _ _ _
     cases (c == Value.type "enumerate") <;> (wp_walk using wpAny_loadPart' et,wpAny_pyIter_tuple hT; exact ⟨_,rfl,h⟩)
   . wp_walk using wpAny_loadPart' et,wpAny_pyIter_tuple hT
     exact ⟨_,rfl,h⟩
end
end TB
namespace L2
open PySem PySem.Spec PyProof.Rows GM
theorem zsf {prog : Program} {w : World} {A : Around} (hh : A.handled = none) (it tu : Addr) (hne : tu ≠ it) (its : Array Value) : Draws prog w A it [it,tu] (its.size + 1) (λ i v=>1 <= i /\ its[i - 1]? = some v) (λ i h=>1 <= i /\ h.IsTupleIter it tu (i - 1) /\ h.IsTuple tu its) where
 live:=λ _ _ st=>let ⟨o,ho,_⟩:=st.2.1; ⟨o,ho⟩
 frame:=λ _ _ _ st hk=>⟨st.1,st.2.1.at λ o e=>hk it (by simp) o e,st.2.2.at λ o e=>hk tu (by simp) o e⟩
 item:=λ i s Q E hi st hQ=>by
   obtain ⟨h1,h2,h3⟩:=st;obtain ⟨j,rfl⟩ : ∃ j,i = j + 1:=⟨i - 1,by omega⟩;have hj : j < its.size:=by omega
   exact zgn h2 h3 (x:=its[j]) (by simp [hj]) λ h' hit' hs'=>hQ _ h' s.toks ⟨by omega,by simp [hj]⟩ ⟨by omega,hit',h3.extBut hs'.extBut hne⟩ hs'
 done:=λ s Q E st hE=>zdu hh st.2.1 st.2.2 (by simp) hE
def zox (K : wa) (a : Addr) : It :=
 ⟨λ i H=>∃ xs x,SqT K H a xs /\ xs[i]? = some x,λ i H y H'=>∃ t x,y = .ref t /\ H t = none /\ (∀ xs,SqT K H a xs -> xs[i]? = some x) /\ H' = upd H t (.tup [.int ((i : Int) + 1),x]),λ i H=>∃ xs,SqT K H a xs /\ xs.length <= i⟩
theorem zla {P : Program} {w : World} {K : wa} {elts : List Expr} {k1} {tpos : Pos} (a e it : Addr) (hne : e ≠ it) : zhu P w K (.Tuple elts k1 tpos) (zox K a) [e,it] e (λ i h=>(∃ old,IsEnum h e it ((i : Int) + 1) old) /\ h.IsTupleIter it a i) where
 mem:=by simp
 obj:=λ i h st b hb=>by
   obtain ⟨⟨old,he⟩,o,eo,c,d⟩:=st;rcases wm.mp hb with rfl | hb
   . exact ⟨_,he,λ v z=>by cases (show Data.fields _ = Data.cell v from z)⟩
   . rw [wz.mp hb]
     exact ⟨o,eo,λ v z=>by rw [d] at z; cases z⟩
 keep:=λ i h h' st k=>⟨let ⟨old,he⟩:=st.1; ⟨old,k e (by simp) _ he⟩,st.2.at λ o eo=>k it (by simp) o eo⟩
 item:=by
   intro X hP hw hK hc i pins s σ H E I hf st hg;subst hP hw hK;obtain ⟨⟨old,he⟩,st⟩:=st;obtain ⟨xs,x,hq,hx⟩:=hg;obtain ⟨its,rv,p,hz⟩:=I.tuple hq;obtain ⟨u,hu,ru⟩:=rv.get hx;have p' : s.heap.IsTuple a its.toArray:=p
   have hai : a ≠ it:=λ z=>by
     subst z;obtain ⟨o,e1,c1,_⟩:=st;obtain ⟨o',e2,c2,_⟩:=p';rw [e1] at e2; cases e2;rw [c1] at c2; exact absurd c2 (by decide)
   have hae : e ≠ a:=λ z=>by
     subst z;obtain ⟨o',e2,c2,_⟩:=p';rw [he] at e2; cases e2;exact absurd (show Value.type "enumerate" = Value.type "tuple" from c2) (by decide)
   have hlt : i < its.toArray.size:=by
     rcases wK i its.length with z | z
     . simpa using z
     . rw [wW z] at hu; cases hu
   refine wpAny_pyNext_enum_itemD (i:=i + 1) (zsf (A:=X.A.in1) (I.ok.hd hc) it a hai its.toArray) he ⟨by omega,st,p'⟩ (by omega) hne (by simp [hne,hae]) λ v h1 tk hv ho hs1 hT hsz hk=>?_
   have hvu : v = u:=by
     have hv' : its[i]? = some v:=by simpa using hv.2
     rw [hu] at hv'; exact (wH hv').symm
   subst hvu
   have I1 : Inv X pins σ (upd H s.heap.objs.size (.tup [.int ((i : Int) + 1),x])) { s with heap:=s.heap.push { cls:=.type "tuple",data:=.seq ([.int ((i : Int) + 1) tk,v] : List Value).toArray },toks:=tk + 1 } :=
     I.laid (λ b o q=>wb _ q) (wg _) (show za9 X.prog X.w _ _ _ (.tup [.int ((i : Int) + 1),x]) from ⟨zdp (by simp),_,.cons ⟨_,rfl⟩ (.cons ru .nil),Vg _ _⟩)
   have lt1 : ∀ b ∈ [e,it],b < s.heap.objs.size:=λ b hb=>by
     rcases wm.mp hb with rfl | hb
     . exact wk he
     . rw [wz.mp hb]
       obtain ⟨o,eo,_⟩:=st;exact wk eo
   have hf1 : ∀ b ∈ [e,it],zdR X pins (upd H s.heap.objs.size (.tup [.int ((i : Int) + 1),x])) b:=λ b hb=>⟨by rw [zbj (wF (lt1 b hb))]; exact (hf b hb).1,(hf b hb).2⟩
   refine ⟨_,rfl,wpAny_letOwnedTupleGo_enum ho λ h2 he2 hs2=>?_⟩;refine ⟨.ref s.heap.objs.size,_,Inv.turnedL (s:={ s with heap:=s.heap.push { cls:=.type "tuple",data:=.seq ([.int ((i : Int) + 1) tk,v] : List Value).toArray },toks:=tk + 1 }) (ch:=[e,it]) I1 (λ b o hb q=>?_) hf1,rfl,⟨_,x,rfl,I.hok.fresh (wg _),λ ys hy=>by rw [I.tuple_inj hy hq]; exact hx,rfl⟩,⟨⟨_,by rw [show ((i + 1 : Nat) : Int) + 1 = (i : Int) + 1 + 1 from by omega]; exact he2⟩,hs1.2.1.at λ o eo=>(hs2.2 it (vH hne)).trans eo⟩,λ b hb=>(hf1 b hb).1⟩;have hbe : b ≠ e:=λ z=>hb (by simp [z])
   have hbi : b ≠ it:=λ z=>hb (by simp [z])
   refine (hs2.2 b hbe).trans ?_
   by_cases hb2 : b = s.heap.objs.size
   . subst hb2
     rw [wj _ rfl] at q;cases q;exact hT
   . exact hk b o hbe hbi (by rw [Vz _ _ _ hb2] at q; exact q)
 done:=by
   intro X hP hw hK hc i pins s σ H E I hf st hg;subst hP hw hK;obtain ⟨⟨old,he⟩,st⟩:=st;obtain ⟨xs,hq,hx⟩:=hg;obtain ⟨its,rv,p,hz⟩:=I.tuple hq;have p' : s.heap.IsTuple a its.toArray:=p
   have hai : a ≠ it:=λ z=>by
     subst z;obtain ⟨o,e1,c1,_⟩:=st;obtain ⟨o',e2,c2,_⟩:=p';rw [e1] at e2; cases e2;rw [c1] at c2; exact absurd c2 (by decide)
   have hl:=rv.length;have hT : s.TypeIs (.ref e) "enumerate":=⟨_,he,rfl⟩;unfold pyNext;refine wpAny_bind (wpAny_attempt (wpAny_callSpecial?_slot (name:=Ww "__next__") hT Wt (wpAny_call_entry Wt hT VE ?_ (Vv _))))
   show wpAny _ _ (field (.ref e) 2 >>= _) _ _ _; refine wpAny_bind (wpAny_field he rfl (x:=.ref it) rfl ?_)
   refine wpAny_bind (zdu (A:=X.A.in1) (I.ok.hd hc) st p' (by simp; omega) λ h' y he' hx'=>?_);obtain ⟨o,ho,hcl⟩:=hx';refine wpAny_bind (wpAny_isInstance (T:="StopIteration") (b:=true) ⟨o,ho,hcl⟩ isSubtype_stop (wpAny_pure ⟨rfl,?_⟩));obtain ⟨f0,f1,f2,f3,f4,f5⟩:=hf it (by simp);exact I.turned (t':=s.toks) (λ b o hb e=>he' b o hb e) f0 f1 f3 f4 f5
 self:=λ _ _ _ _ _ st h=>let ⟨_,he⟩:=st.1; wpAny_pyIter_enum he h
def zol (K : wa) (ta : TA) : TI:=λ σ H R=>ta σ H λ vs H1=>∃ a,vs = [.ref a] /\ (∃ xs,SqT K H1 a xs) /\ R (zox K a) H1
open PySem.W in
theorem zkL {prog : Program} {w : World} {A : Around} {E : Value -> Shared -> Prop} {s : Shared} {tu : Addr} {its : Array Value} {t : Tok} {Q : Value -> Shared -> Prop} (hT : s.heap.IsTuple tu its) (fin : ∀ h',IsEnum h' (s.heap.objs.size + 1) s.heap.objs.size 1 .none -> h'.IsTupleIter s.heap.objs.size tu 0 -> (∀ b o,s.heap.get? b = some o -> h'.get? b = some o) -> Q (.ref (s.heap.objs.size + 1)) { s with heap:=h' }) :
   wpAny (model prog w) A (call (.type "enumerate") [.ref tu] [("start",.int 1 t)]) Q E s:=by
 obtain ⟨⟨c,dct,dt,sl⟩,et,hc,n,hd⟩:=hT;obtain rfl : c = .type "tuple":=hc;obtain rfl : dt = .seq its n:=hd;refine TB.callType_meetsK Vq (TB.typeCall_enumS _ t) (TB.newCall_enumS _ t) qM F.entry_object_init (TB.meets_enumS tu its n dct sl t) (Q₁:=λ obj s₁=>s₁.TypeIs obj "enumerate" /\ Q obj s₁) ⟨et,?_⟩ λ obj s₁ hq=>⟨hq.1,TB.argsInit_enumS obj _ t,_,TB.object_init_K Vq.init.lookup Vq.made (by decide) (by simp),hq.1,rfl,hq.2⟩
 have hz : (s.heap.push { cls:=.type "tuple_iterator",data:=.fields #[.ref tu,.int 0 0] }).objs.size = s.heap.objs.size + 1:=vn ..
 show _ /\ _
 rw [hz]
 have he : IsEnum ((s.heap.push { cls:=.type "tuple_iterator",data:=.fields #[.ref tu,.int 0 0] }).push { cls:=.type "enumerate",data:=.fields #[.none,.bool false,.ref s.heap.objs.size,rawInt 1,.none,.none] }) (s.heap.objs.size + 1) s.heap.objs.size 1 .none:=by
   rw [<- hz]; exact wj _ rfl
 exact ⟨⟨_,he,rfl⟩,fin _ he ⟨_,wb _ (wj _ rfl),rfl,rfl⟩ λ b o x=>wb _ (wb _ x)⟩
theorem zg9 {M : Model} {A : Around} {E : Value -> Shared -> Prop} {s : Shared} {pos : Pos} {T : String} {first : List Value} {args : List (Bool × Sem Value)} {keywords : List (Option Str × Sem Value)} {Q : Value -> Shared -> Prop}
   (hplain : args.any (·.1) = false) (hkw : keywords.any (·.1.isNone) = false)
   (h : wpAny M A (evalArgs (.type T) true args keywords) (λ a s₁=>wpAny M A (call (.type T) (first ++ a.pos) a.kw) Q E s₁) E s) :
   wpAny M A (callWith pos (.type T) first args keywords) Q E s:=by
 unfold callWith;refine wpAny_bind (wpAny_holding (wpAny_mono h (λ a s₁ h₁=>wpAny_bind (wpAny_standAt ?_)) λ _ _ x=>x));simp only [hplain,hkw,xJ];refine wpAny_bind (wpAny_pure ?_);exact wpAny_bind (wpAny_mono h₁ (λ r s₂ hr=>wpAny_bind (wpAny_holding (wpAny_point (wpAny_pure hr)))) λ _ _ x=>x)
theorem zoC {X : Cx} {elts : List Expr} {k1 : Nat} {c1 : Nat} {tpos p pos kp cp : Pos} {l : Expr} {ta : TA} (hg : Gl X "enumerate") (hm : X.mg "enumerate" = none) (ha : PA X [l] ta) (hs : starEach [l] X.env = [(false,eval l X.env)]:=by rfl) :
   PI X (.Tuple elts k1 tpos) (.Call (.Name "enumerate" p) [l] [⟨some "start",.Constant (.int 1) c1 cp,kp⟩] pos) (zol X.K ta):=by
 intro pins s σ H R I h;refine wpAny_Call_Name_kw (zdi I hg hm zea ?_);refine zg9 (by rw [hs]; rfl) (by rfl) ?_;rw [show backTo pos (starEach [l] X.env) = (false,eval l X.env) :: backTo pos [] from by rw [hs]; rfl];refine evalArgs_kwB (by rfl) ?_;have ha':=ha pos pins s σ H _ I h;rw [hs] at ha';refine thn ha' λ us s1 ⟨vs,H1,I1,r1,q1⟩=>?_
 refine kws_cons (rest:=[]) ?_;refine wpAny_Constant_int ?_;refine kws_nil ?_;obtain ⟨a,rfl,⟨xs,hq⟩,q⟩:=q1;obtain ⟨u,rfl,ru⟩:=zdE r1;cases ru;have I1:=I1.tok (s1.toks + 1);obtain ⟨its,rv,pt,hz⟩:=I1.tuple hq;refine zkL (show Vf _ a its.toArray from pt) λ h' he hit kp=>?_
 refine wpAny_pyIter_enum he ?_;refine ⟨s1.heap.objs.size + 1,[s1.heap.objs.size + 1,s1.heap.objs.size],_,_,H1,rfl,I1.kept (t':=s1.toks + 1) kp,zla a (s1.heap.objs.size + 1) s1.heap.objs.size (qm _),⟨⟨_,he⟩,hit⟩,λ b hb=>?_,q⟩
 have hb' : s1.heap.objs.size <= b:=by
   rcases wm.mp hb with rfl | hb
   . omega
   . rw [wz.mp hb]; exact wg _
 exact I1.fpOk hb' (I1.hok.fresh hb')
def zq1 (K : wa) (g : TG) (tb : TS) (D : zcc) (σ : St) (vs : List V) (H1 : Hp) : Prop:=∃ a,vs = [.ref a] /\ (∃ xs,SqT K H1 a xs) /\
 ∃ W : Nat -> Nat -> St -> Hp -> Prop,(∃ m,W 0 m σ H1) /\ ∀ i m σ H,W i m σ H ->
   ((zox K a).stop i H /\ D.nx σ H) \/ ((zox K a).go i H /\ ∃ M : St -> Hp -> Prop,(∀ σ' H',M σ' H' -> ∃ m',m' < m /\ W (i + 1) m' σ' H') /\ ∀ x H',(zox K a).yld i H x H' -> g x σ H' λ σ2 H2=>tb { D with nx:=M,ct:=M,bk:=D.nx } σ2 H2)
section
variable {K : wa} {ta : TA} {g : TG} {tb : TS} {D : zcc} {σ : St} {H : Hp} {a : Addr} {xs : List V}
theorem zoY (h : ta σ H λ vs H1=>zq1 K g tb D σ vs H1) : zjQ (zol K ta) g tb D σ H:=h
theorem zkH (hx : SqT K H a xs) (Pv : Nat -> St -> Hp -> Prop) (h0 : Pv 0 σ H) (hl : ∀ i σ H,i <= xs.length -> Pv i σ H -> SqT K H a xs)
   (hs : ∀ i x σ H t H',xs[i]? = some x -> Pv i σ H -> H t = none -> zag H H' -> H' t = some (.tup [.int ((i : Int) + 1),x]) -> g (.ref t) σ H' λ σ2 H2=>tb { D with nx:=Pv (i + 1),ct:=Pv (i + 1),bk:=D.nx } σ2 H2) (hd : ∀ σ H,Pv xs.length σ H -> D.nx σ H) : zq1 K g tb D σ [.ref a] H:=by
 refine ⟨a,rfl,⟨xs,hx⟩,λ i m σ H=>i + m = xs.length /\ Pv i σ H,⟨xs.length,by omega,h0⟩,?_⟩;rintro i m σ H ⟨him,hp⟩;have hq:=hl i σ H (by omega) hp
 by_cases hm : m = 0
 . have e : i = xs.length:=by omega
   subst e;exact .inl ⟨⟨xs,hq,wg _⟩,hd _ _ hp⟩
 . have hi : i < xs.length:=by omega
   refine .inr ⟨⟨xs,xs[i],hq,by simp [hi]⟩,λ σ' H'=>Pv (i + 1) σ' H',λ σ' H' h=>⟨m - 1,by omega,by omega,h⟩,?_⟩;rintro y H' ⟨t,x,rfl,hn,hx',rfl⟩;exact hs i x σ H t _ (hx' xs hq) hp hn (zag.upd hn) zar
end
end L2
namespace GM
def zbg (c : Int) (u : List Int) : Nat -> Int -> Int
 | 0,p=>p
 | k + 1,p=>if c <= p then p else zbg c u k (p + u.getD p.toNat 0)
theorem zfW {c p : Int} {u : List Int} (h : c <= p) : ∀ k,zbg c u k p = p
 | 0=>rfl
 | k + 1=>by rw [zbg,if_pos h]
theorem zeL (c : Int) (u : List Int) (b : Nat) : ∀ (a : Nat) (p : Int),zbg c u b (zbg c u a p) = zbg c u (a + b) p
 | 0,p=>by rw [zbg,Nat.zero_add]
 | a + 1,p=>by
   rw [Nat.add_right_comm,zbg,zbg]
   split
   . rename_i h; exact zfW h b
   . exact zeL c u b a _
theorem zmg {c : Int} {u : List Int} (k : Nat) (p : Int) : zbg c u (k + 1) p = if c <= zbg c u k p then zbg c u k p else zbg c u k p + u.getD (zbg c u k p).toNat 0:=by
 rw [<- zeL]
 rfl
theorem zfE {α : Type} {P : α -> Prop} {l : List α} {d : α} (h : ∀ x ∈ l,P x) (hd : P d) (i : Nat) : P (l.getD i d):=by
 rw [wc];cases e : l[i]? with
 | none=>exact hd
 | some x=>exact h x (Wg e)
theorem zfm {c : Int} {u : List Int} (hu : ∀ x ∈ u,0 <= x /\ x <= 60) : ∀ (k : Nat) (p : Int),p <= zbg c u k p /\ (zbg c u k p <= p \/ zbg c u k p <= c + 60)
 | 0,p=>⟨qJ _,.inl (qJ _)⟩
 | k + 1,p=>by
   rw [zbg]
   split
   . exact ⟨qJ _,.inl (qJ _)⟩
   . have h0:=zfE (P:=λ x=>0 <= x /\ x <= 60) (d:=0) hu (by decide) p.toNat
     have:=zfm (c:=c) hu k (p + u.getD p.toNat 0);omega
def zdh (n : Nat) (t : List Int) : Prop:=∃ a b d : Nat,t = [(a : Int),(b : Int),(d : Int)] /\ a < n /\ b < n /\ a ≠ b /\ d <= 4
structure zaU (rs : List Int) (us ts : List (List Int)) : Prop where
 n1 : 1 <= rs.length
 n8 : rs.length <= 8
 r : ∀ r ∈ rs,1 <= r /\ r <= 60
 ul : us.length = rs.length
 u : ∀ i,i < rs.length -> ((us.getD i []).length : Int) = rs.getD i 0 /\ ∀ x ∈ us.getD i [],0 <= x /\ x <= 60
 tl : ts.length <= 60
 t : ∀ t ∈ ts,zdh rs.length t
 nd : ts.Nodup
theorem zaU.perm {rs : List Int} {us ts ts' : List (List Int)} (w : zaU rs us ts) (p : ts'.Perm ts) : zaU rs us ts' :=
 ⟨w.n1,w.n8,w.r,w.ul,w.u,by rw [p.length_eq]; exact w.tl,λ t ht=>w.t t (p.mem_iff.mp ht),p.nodup_iff.mpr w.nd⟩
theorem zaU.ri {rs : List Int} {us ts : List (List Int)} (w : zaU rs us ts) {i : Nat} (h : i < rs.length) : 1 <= rs.getD i 0 /\ rs.getD i 0 <= 60:=by
 rw [wc,we h];exact w.r _ (vb h)
def zdr (g : List Nat) (w d : Nat) (t : List Int) : Bool:=decide ((t.getD 0 0).toNat ∈ g) && (decide (t.getD 1 0 = (w : Int)) && decide (t.getD 2 0 = (d : Int)))
def zcr (ts : List (List Int)) (g : List Nat) (w d : Nat) : Nat:=(ts.filter (zdr g w d)).length
theorem zlJ (ts : List (List Int)) (g : List Nat) (w d : Nat) : zcr ts g w d <= ts.length:=vO ..
theorem zfF {ts : List (List Int)} {g : List Nat} {w d k : Nat} (h : k < ts.length) : zcr (ts.take (k + 1)) g w d = zcr (ts.take k) g w d + if zdr g w d ts[k] then 1 else 0:=by
 unfold zcr;rw [List.take_succ,we h,W5,wf];cases e : zdr g w d ts[k] <;> simp [e]
theorem zhk {g f : List Nat} (h : ∀ x ∈ f,x ∉ g) (w d : Nat) : ∀ ts : List (List Int),zcr ts (g ++ f) w d = zcr ts g w d + zcr ts f w d
 | []=>rfl
 | t :: ts=>by
   have ih:=zhk h w d ts;unfold zcr at ih ⊢;rw [VN,VN,VN]
   have e : zdr (g ++ f) w d t = (zdr g w d t || zdr f w d t):=by
     unfold zdr
     rw [show decide ((t.getD 0 0).toNat ∈ g ++ f) = (decide ((t.getD 0 0).toNat ∈ g) || decide ((t.getD 0 0).toNat ∈ f)) by
       rw [VU,xl,decide_eq_true_eq,decide_eq_true_eq,decide_eq_true_eq,wJ]]
     cases decide ((t.getD 0 0).toNat ∈ g) <;> cases decide ((t.getD 0 0).toNat ∈ f) <;> cases (decide (t.getD 1 0 = (w : Int)) && decide (t.getD 2 0 = (d : Int))) <;> rfl
   have nb : ¬ (zdr g w d t = true /\ zdr f w d t = true):=by
     rintro ⟨h1,h2⟩;unfold zdr at h1 h2;rw [wX,decide_eq_true_eq] at h1 h2;exact h _ h2.1 h1.1
   rw [e];cases h1 : zdr g w d t <;> cases h2 : zdr f w d t
   . simpa using ih
   . simp only [Bool.or_true,if_true,wN,if_false,wU,ih]; omega
   . simp only [Xa,if_true,wN,if_false,wU,ih]; omega
   . exact absurd ⟨h1,h2⟩ nb
theorem znj {g f : List Nat} {ts : List (List Int)} {n : Nat} (ht : ∀ t ∈ ts,zdh n t) (h : ∀ x,x < n -> (x ∈ g ↔ x ∈ f)) (w d : Nat) : zcr ts g w d = zcr ts f w d:=by
 unfold zcr
 congr 1
 refine Vd λ t hm=>?_
 obtain ⟨a,b,c,rfl,ha,_⟩:=ht t hm;unfold zdr;have : (([(a : Int),(b : Int),(c : Int)] : List Int).getD 0 0).toNat = a:=by simp
 rw [this]
 by_cases h1 : a ∈ g
 . rw [decide_eq_true h1,decide_eq_true ((h a ha).mp h1)]
 . rw [decide_eq_false h1,decide_eq_false λ z=>h1 ((h a ha).mpr z)]
section
variable (rs : List Int) (us ts : List (List Int)) (ps cs : List Int)
def phG (g : List Nat) (w : Nat) : Int:=zbg (rs.getD w 0) (us.getD w []) ((cs.getD w 0).toNat + zcr ts g w 0) (ps.getD w 0 + 1)
def fresh (g : List Nat) : List Nat:=(wo rs.length).filter λ w=>!decide (w ∈ g) && decide (rs.getD w 0 <= phG rs us ts ps cs g w)
def zdm : Nat -> List Nat -> List (List Nat)
 | 0,_=>[]
 | f + 1,g=>if fresh rs us ts ps cs g = [] then [] else fresh rs us ts ps cs g :: zdm f (g ++ fresh rs us ts ps cs g)
def zdZ : Nat -> List Nat -> List Nat
 | 0,g=>g
 | f + 1,g=>if fresh rs us ts ps cs g = [] then g else zdZ f (g ++ fresh rs us ts ps cs g)
end
section
variable {rs : List Int} {us ts : List (List Int)} {ps cs : List Int}
theorem zfr {g : List Nat} {w : Nat} (h : w ∈ fresh rs us ts ps cs g) : w < rs.length /\ w ∉ g:=by
 unfold fresh at h;rw [Wm,wS,wX,Wl,decide_eq_false_iff_not] at h;exact ⟨h.1,h.2.1⟩
theorem zia : ∀ (n : Nat) (g : List Nat),g.Nodup -> (∀ w ∈ g,w < n) -> g.length <= n
 | 0,[],_,_=>wg _
 | 0,w :: g,_,h=>absurd (h w (wO ..)) (vT _)
 | n + 1,g,nd,h=>by
   have h1:=zia n (g.erase n) (nd.erase n) λ w hw=>by
     have hm:=nd.mem_erase_iff.mp hw;have:=h w hm.2;have : w ≠ n:=hm.1;omega
   have h2 : g.length <= (g.erase n).length + 1:=by
     rw [List.length_erase]
     split <;> omega
   omega
structure zg3 (n : Nat) (g : List Nat) : Prop where
 nd : g.Nodup
 lt : ∀ w ∈ g,w < n
theorem zg3.len {n : Nat} {g : List Nat} (h : zg3 n g) : g.length <= n:=by
 exact zia n g h.nd h.lt
theorem zg3.app {g : List Nat} (h : zg3 rs.length g) : zg3 rs.length (g ++ fresh rs us ts ps cs g):=by
 refine ⟨WM.mpr ⟨h.nd,(VL).filter _,λ a ha b hb e=>?_⟩,λ w hw=>?_⟩
 . subst e; exact (zfr hb).2 ha
 . rcases wJ.mp hw with z | z
   . exact h.lt w z
   . exact (zfr z).1
theorem zgZ {g : List Nat} (h : fresh rs us ts ps cs g = []) : ∀ f,zdm rs us ts ps cs f g = [] /\ zdZ rs us ts ps cs f g = g
 | 0=>⟨rfl,rfl⟩
 | f + 1=>⟨by rw [zdm,if_pos h],by rw [zdZ,if_pos h]⟩
theorem ze9 {g : List Nat} (h : fresh rs us ts ps cs g ≠ []) (f : Nat) : zdm rs us ts ps cs (f + 1) g = fresh rs us ts ps cs g :: zdm rs us ts ps cs f (g ++ fresh rs us ts ps cs g) /\ zdZ rs us ts ps cs (f + 1) g = zdZ rs us ts ps cs f (g ++ fresh rs us ts ps cs g) :=
 ⟨by rw [zdm,if_neg h],by rw [zdZ,if_neg h]⟩
end
section
variable (rs : List Int) (us ts : List (List Int)) (ps cs : List Int)
structure Run (f : Nat) (g : List Nat) (acc : List (List Nat)) : Prop where
 go : zg3 rs.length g
 fl : rs.length < f + g.length
 ws : acc ++ zdm rs us ts ps cs f g = zdm rs us ts ps cs 9 []
 ge : zdZ rs us ts ps cs f g = zdZ rs us ts ps cs 9 []
end
section
variable {rs : List Int} {us ts : List (List Int)} {ps cs : List Int} {f : Nat} {g : List Nat} {acc : List (List Nat)}
theorem Run.start (h : rs.length <= 8) : Run rs us ts ps cs 9 [] []:=⟨⟨WR,λ w hw=>by cases hw⟩,by simp; omega,rfl,rfl⟩
theorem Run.step (R : Run rs us ts ps cs f g acc) (h : fresh rs us ts ps cs g ≠ []) : ∃ f',f = f' + 1 /\ Run rs us ts ps cs f' (g ++ fresh rs us ts ps cs g) (acc ++ [fresh rs us ts ps cs g]):=by
 have hl:=R.go.len;have hf:=R.fl;obtain ⟨f',rfl⟩ : ∃ f',f = f' + 1:=⟨f - 1,by omega⟩;have hp : 0 < (fresh rs us ts ps cs g).length:=WX.mpr h;refine ⟨f',rfl,R.go.app,by rw [wf]; omega,?_,?_⟩
 . rw [<- R.ws,(ze9 h f').1,Vx]; rfl
 . rw [<- R.ge,(ze9 h f').2]
theorem Run.stop (R : Run rs us ts ps cs f g acc) (h : fresh rs us ts ps cs g = []) : acc = zdm rs us ts ps cs 9 [] /\ g = zdZ rs us ts ps cs 9 []:=by
 obtain ⟨h1,h2⟩:=zgZ h f;have:=R.ws;have hg:=R.ge;rw [h1,vS] at this;rw [h2] at hg;exact ⟨this,hg⟩
theorem zjy : ∀ (f : Nat) (g : List Nat),zg3 rs.length g -> rs.length < f + g.length -> zg3 rs.length (zdZ rs us ts ps cs f g) /\ fresh rs us ts ps cs (zdZ rs us ts ps cs f g) = []
 | 0,g,h,k=>by have:=h.len; omega
 | f + 1,g,h,k=>by
   by_cases e : fresh rs us ts ps cs g = []
   . rw [(zgZ e _).2]; exact ⟨h,e⟩
   . rw [(ze9 e f).2]
     have hp : 0 < (fresh rs us ts ps cs g).length:=WX.mpr e;exact zjy f _ h.app (by rw [wf]; omega)
end
section
variable (rs : List Int) (us ts : List (List Int)) (ps : List Int) (cm : List (List Int))
def zdH : List (List Nat):=zdm rs us ts ps (cm.getD 0 []) 9 []
def zew : List Nat:=zdZ rs us ts ps (cm.getD 0 []) 9 []
def zb8 : List Int:=(wo rs.length).map λ w=>if w ∈ zew rs us ts ps cm then 0 else phG rs us ts ps (cm.getD 0 []) (zew rs us ts ps cm) w
def zfN (ts : List (List Int)) (cm : List (List Int)) (g : List Nat) (n : Nat) : List (List Int):=(wo 4).map λ d=>(wo n).map λ w=>(cm.getD (d + 1) []).getD w 0 + (zcr ts g w (d + 1) : Int)
def zeC : List (List Int):=zfN ts cm (zew rs us ts ps cm) rs.length
end
structure za8 (rs : List Int) (ps : List Int) (cm : List (List Int)) : Prop where
 pl : ps.length = rs.length
 p : ∀ i,i < rs.length -> 0 <= ps.getD i 0 /\ ps.getD i 0 < rs.getD i 0
 cl : cm.length = 4
 c : ∀ d,d < 4 -> (cm.getD d []).length = rs.length /\ ∀ i,i < rs.length -> 0 <= (cm.getD d []).getD i 0 /\ (cm.getD d []).getD i 0 <= 240 - 60 * (d : Int)
theorem zbx {α : Type} {f : Nat -> α} {n i : Nat} {d : α} (h : i < n) : ((wo n).map f).getD i d = f i:=by
 rw [wc,wE,Qc h]; rfl
section
variable {rs : List Int} {us ts : List (List Int)} {ps : List Int} {cm : List (List Int)}
theorem zni (w : zaU rs us ts) : zg3 rs.length (zew rs us ts ps cm) /\ fresh rs us ts ps (cm.getD 0 []) (zew rs us ts ps cm) = [] :=
 zjy 9 [] ⟨WR,λ w hw=>by cases hw⟩ (by have:=w.n8; simp; omega)
theorem zmS {cs : List Int} {g : List Nat} (h : fresh rs us ts ps cs g = []) {w : Nat} (hw : w < rs.length) (hg : w ∉ g) : phG rs us ts ps cs g w < rs.getD w 0:=by
 apply Int.not_le.mp
 intro z
 have : w ∈ fresh rs us ts ps cs g:=by
   unfold fresh;rw [Wm,wS,wX,Wl,decide_eq_false_iff_not,decide_eq_true_eq];exact ⟨hw,hg,z⟩
 rw [h] at this;cases this
theorem zlZ (w : zaU rs us ts) (s : za8 rs ps cm) (g : List Nat) {i : Nat} (h : i < rs.length) : 1 <= phG rs us ts ps (cm.getD 0 []) g i /\ phG rs us ts ps (cm.getD 0 []) g i <= rs.getD i 0 + 60:=by
 have h1:=zfm (c:=rs.getD i 0) (w.u i h).2 (((cm.getD 0 []).getD i 0).toNat + zcr ts g i 0) (ps.getD i 0 + 1);have h2:=s.p i h;unfold phG;omega
theorem za8.next (w : zaU rs us ts) (s : za8 rs ps cm) : za8 rs (zb8 rs us ts ps cm) (zeC rs us ts ps cm):=by
 obtain ⟨g1,g2⟩:=zni (ps:=ps) (cm:=cm) w;refine ⟨by simp [zb8],λ i h=>?_,by simp [zeC,zfN],λ d hd=>?_⟩
 . unfold zb8
   rw [zbx h];have:=w.ri h
   split
   . omega
   . rename_i hn
     have h1:=zmS g2 h hn;have h2:=zlZ w s (zew rs us ts ps cm) h;omega
 . unfold zeC zfN
   rw [zbx hd];refine ⟨by simp,λ i h=>?_⟩;rw [zbx h];have h1:=zlJ ts (zew rs us ts ps cm) i (d + 1);have h2:=w.tl;rcases wK (d + 1) 4 with z | z
   . have:=(s.c (d + 1) z).2 i h
     omega
   . have e : cm.getD (d + 1) [] = []:=by
       rw [wc,wW (by rw [s.cl]; omega)]; rfl
     rw [e];simp;omega
end
end GM
namespace L2
open PySem PySem.Spec PyProof.Rows GM
def TTr (rows : List (List Int)) : PyData:=.tuple (rows.map TZ)
def zbF (rs : List Int) (us ts : List (List Int)) : PyData:=.tuple [TZ rs,TTr us,TTr ts]
def StD (ps : List Int) (cm : List (List Int)) : PyData:=.tuple [TZ ps,TTr cm]
def zkw (ws : List (List Nat)) (ps : List Int) (cm : List (List Int)) : PyData:=.tuple [TWs ws,StD ps cm]
theorem zba : ∀ rows : List (List Int),ImmAll (rows.map TZ) = true
 | []=>by simp [ImmAll]
 | x :: xs=>by rw [wv,ImmAll,zgX,zba xs]; rfl
theorem zch (rows : List (List Int)) : Imm (TTr rows) = true:=by rw [TTr,Imm]; exact zba rows
theorem zpa (rs : List Int) (us ts : List (List Int)) : Imm (zbF rs us ts) = true:=by rw [zbF,Imm,ImmAll,ImmAll,ImmAll,ImmAll,zgX,zch,zch]; rfl
theorem zc5 (ps : List Int) (cm : List (List Int)) : Imm (StD ps cm) = true:=by rw [StD,Imm,ImmAll,ImmAll,ImmAll,zgX,zch]; rfl
section
variable {K : wa} {H H' : Hp} {Q : VK} {v : V} {rs ps : List Int} {us ts cm rows : List (List Int)} {m : Int} {ws : List (List Nat)}
theorem Is.thruW (h : Is K H v (zbF rs us ts)) (k : zaM H H') : Is K H' v (zbF rs us ts):=h.byK k (zpa _ _ _)
theorem Is.thruS (h : Is K H v (StD ps cm)) (k : zaM H H') : Is K H' v (StD ps cm):=h.byK k (zc5 _ _)
theorem zcO (h : Is K H v (zbF rs us ts)) (q : ∀ x,Is K H x (TZ rs) -> Q x H) : rIx K v (.int 0) H Q:=zdj (j:=0) h rfl q
theorem zgB (h : Is K H v (zbF rs us ts)) (q : ∀ x,Is K H x (TTr us) -> Q x H) : rIx K v (.int 1) H Q:=zdj (j:=1) h rfl q
theorem zgH (h : Is K H v (zbF rs us ts)) (q : ∀ x,Is K H x (TTr ts) -> Q x H) : rIx K v (.int 2) H Q:=zdj (j:=2) h rfl q
theorem zoy (h : Is K H v (StD ps cm)) (q : ∀ x,Is K H x (TZ ps) -> Q x H) : rIx K v (.int 0) H Q:=zdj (j:=0) h rfl q
theorem ziL (h : Is K H v (StD ps cm)) (q : ∀ x,Is K H x (TTr cm) -> Q x H) : rIx K v (.int 1) H Q:=zdj (j:=1) h rfl q
theorem zkY (h : Is K H v (zkw ws ps cm)) (q : ∀ x,Is K H x (StD ps cm) -> Q x H) : rIx K v (.int 1) H Q:=zdj (j:=1) h rfl q
theorem zep (h : Is K H v (TTr rows)) (h0 : 0 <= m) (h1 : m < rows.length) (q : ∀ x,Is K H x (TZ (rows.getD m.toNat [])) -> Q x H) : rIx K v (.int m) H Q:=by
 obtain ⟨j,rfl⟩:=vQ h0;have hj : j < rows.length:=by omega
 refine zdj (j:=j) h (d:=TZ (rows.getD j [])) ?_ q;rw [wE,wc,we hj]; rfl
end
theorem zpl {ns : List Int} {k : Nat} (h : ∀ n ∈ ns,n.natAbs < 1000000) (z : ns.length <= k) : Rp 2 (22 * k) (TZ ns):=zkT (λ d hd=>by
 obtain ⟨n,hn,rfl⟩:=wT.mp hd;exact zsw (h n hn)) (by rw [wd]; exact z)
theorem zrk {rows : List (List Int)} {k l : Nat} (h : ∀ r ∈ rows,r.length <= k /\ ∀ n ∈ r,n.natAbs < 1000000) (z : rows.length <= l) : Rp 3 ((22 * k + 1) * l) (TTr rows):=zkT (λ d hd=>by
 obtain ⟨r,hr,rfl⟩:=wT.mp hd;exact zpl (h r hr).2 (h r hr).1) (by rw [wd]; exact z)
theorem zsm (rows : List (List Int)) : wQ (TTr rows) (TTr rows) = true:=zi7 λ d hd=>by
 obtain ⟨r,_,rfl⟩:=wT.mp hd;exact zqP r
theorem zrv (ps : List Int) (cm : List (List Int)) : wQ (StD ps cm) (StD ps cm) = true:=zi7 λ d hd=>by
 simp only [wm,vI,or_false] at hd;rcases hd with rfl | rfl
 . exact zqP _
 . exact zsm _
theorem zem {α : Type} {l : List α} {x : α} (d : α) (h : x ∈ l) : ∃ i,i < l.length /\ l.getD i d = x:=by
 obtain ⟨i,hi,e⟩:=Wo h;exact ⟨i,hi,by rw [wc,we hi]; exact e⟩
theorem za8.rpF {rs ps : List Int} {cm : List (List Int)} (n8 : rs.length <= 8) (hr : ∀ r ∈ rs,1 <= r /\ r <= 60) (s : za8 rs ps cm) : Rp 4 1418 (StD ps cm):=by
 refine (zkT (n:=3) (m:=708) (k:=2) (λ d hd=>?_) (by simp)).mono (by decide) (by decide);simp only [wm,vI,or_false] at hd;rcases hd with rfl | rfl
 . refine (zpl (k:=8) (λ n hn=>?_) (by rw [s.pl]; exact n8)).mono (by decide) (by decide)
   obtain ⟨i,hi,rfl⟩:=zem 0 hn;have h1:=s.p i (by rw [<- s.pl]; exact hi);have h2:=zfE (P:=λ x=>x <= 60) (d:=0) (λ r h=>(hr r h).2) (by decide) (l:=rs) i;omega
 . refine (zrk (k:=8) (l:=4) (λ r hr'=>?_) (by rw [s.cl]; decide)).mono (by decide) (by decide)
   obtain ⟨d,hd,rfl⟩:=zem [] hr';have h4 : d < 4:=by rw [<- s.cl]; exact hd
   obtain ⟨h1,h2⟩:=s.c d h4;refine ⟨by rw [h1]; exact n8,λ n hn=>?_⟩;obtain ⟨i,hi,rfl⟩:=zem 0 hn;have:=h2 i (by rw [<- h1]; exact hi);omega
theorem zry {i : Nat} {te : TE} {ti : TIp} {D : zcc} {σ : L2.St} {H : Hp} (h : ∃ x,σ[i]? = some (some x) /\ te σ H λ y H1=>ti x y H1 λ z H2=>D.nx (σ.set i (some z)) H2) : zs7 i te ti D σ H:=h
theorem zpR {v : V} {P : V -> Prop} {o : Option (Option V)} (h : o = some (some v)) (q : P v) : ∃ x,o = some (some x) /\ P x:=⟨v,h,q⟩
theorem zrW {f : Int -> Int -> Int} {m n : Int} {H : Hp} {Q : VK} (q : Q (.int (f m n)) H) : ipI f (.int m) (.int n) H Q:=⟨m,n,rfl,rfl,q⟩
end L2
namespace TB
open PySem PySem.W PyProof.Rows
inductive Al2 {α β : Type} (R : α -> β -> Prop) : List α -> List β -> Prop
 | nil : Al2 R [] []
 | cons {a : α} {b : β} {l : List α} {m : List β} : R a b -> Al2 R l m -> Al2 R (a :: l) (b :: m)
structure HV (prog : Program) (w : World) (K : Type) [DecidableEq K] where
 is : Heap -> K -> Value -> Prop
 hash : K -> Int
 draws : K -> Nat
 deep : Nat
 inj : ∀ {h : Heap} {v : Value} {x y : K},is h x v -> is h y v -> x = y
 keeps : ∀ {h h' : Heap} {k : K} {v : Value} {d : Addr} {o : Obj} {es ep},is h k v -> h.get? d = some o -> o.data = .dict es ep -> vg d h h' -> is h' k v
 pyHash : ∀ {A : Around} {E : Value -> Shared -> Prop} {s : Shared} {k : K} {v : Value} {Q : Int -> Shared -> Prop},A.units + deep < cLine -> is s.heap k v -> Q (hash k) { s with toks:=s.toks + draws k } -> wpAny (model prog w) A (PySem.pyHash v) Q E s
 eqBool : ∀ {A : Around} {E : Value -> Shared -> Prop} {s : Shared} {x y : K} {u v : Value} {Q : Bool -> Shared -> Prop},A.units + deep < cLine -> is s.heap x u -> is s.heap y v -> Q (decide (x = y)) s -> wpAny (model prog w) A (PySem.eqBool u v) Q E s
 quiet : ∀ {A : Around} {E : Value -> Shared -> Prop} {s : Shared} {k : K} {v : Value} {Q : Bool -> Shared -> Prop} (n : Nat),deep <= n -> is s.heap k v -> Q true s -> wpAny (model prog w) A (eqIsQuiet n v) Q E s
section
variable {prog : Program} {w : World} {A : Around} {E : Value -> Shared -> Prop} {s : Shared}
theorem zkm {a : Addr} {o : Obj} {items : Array Value} {n : Nat} {hs : List (Int × Nat)} {Q : Int -> Shared -> Prop} (hu : A.units < cLine) (ho : s.heap.get? a = some o) (hc : o.cls = .type "tuple") (hd : o.data = .seq items n)
   (hi : Al2 (λ v (x : Int × Nat)=>∀ (E : Value -> Shared -> Prop) (Q : Int -> Shared -> Prop) (s' : Shared),s'.heap = s.heap -> Q x.1 { s' with toks:=s'.toks + x.2 } -> wpAny (model prog w) A.in1 (pyHash v) Q E s') items.toList hs)
   (h : Q (reduceHash (vA (hs.map (·.1)))) { s with toks:=s.toks + ((hs.map (·.2)).sum + 1) }) :
   wpAny (model prog w) A (pyHash (.ref a)) Q E s:=by
 have hT : s.TypeIs (.ref a) "tuple":=⟨o,ho,hc⟩;unfold pyHash
 first | unfold pyHashByItsType | skip
 first | refine wpAny_bind (wpAny_cRoomFor_or (.inr hu) ?_) | skip
 refine wpAny_bind (wpAny_specialOf hT Vc.lookup ?_)
 show wpAny _ _ (if (some (Value.builtin "tuple.__hash__") == some Value.none) = true then _ else _) Q E s
 rw [if_neg (by rw [beq_builtin_none]; exact vo)];refine wpAny_bind (wpAny_specialOf hT Vc.lookup ?_)
 show wpAny _ _ (callSpecialIfBoundUnlessNone? (.ref a) "__hash__" _ >>= _) Q E s
 refine wpAny_bind (wpAny_callSpecialIfBoundUnlessNone?_slot hT Vc (wpAny_call_entry Vc hT F.entry_tuple_hash ?_ (F.args_tuple_hash_1 _)))
 show wpAny _ _ (V9 (.ref a) >>= _) _ _ s
 refine wpAny_bind (wpAny_tupleItemsOf ho hd ?_);refine wpAny_bind ?_;rw [<- Vs]
 refine wpAny_forIn_list _
   (λ rest (b : Array Int) s'=>∃ done left,hs = done ++ left /\ Al2 (λ v (x : Int × Nat)=>∀ (E : Value -> Shared -> Prop) (Q : Int -> Shared -> Prop) (s' : Shared),s'.heap = s.heap -> Q x.1 { s' with toks:=s'.toks + x.2 } -> wpAny (model prog w) A.in1 (pyHash v) Q E s') rest left /\ b.toList = done.map (·.1) /\ s' = { s with toks:=s.toks + (done.map (·.2)).sum })
   _ ?_ ?_ _ _ ⟨[],hs,rfl,hi,rfl,rfl⟩
 . rintro x rest b s' ⟨done,left,rfl,hl,hb,rfl⟩
   cases hl with
   | @cons _ k _ ks' h1 hl' =>
     refine wpAny_bind (h1 _ _ _ rfl ?_)
     first
       | exact wpAny_pure ⟨done ++ [k],ks',by simp,hl',by simp [hb],by simp [Vk]⟩
       | exact wpAny_bind (wpAny_pure (wpAny_pure ⟨done ++ [k],ks',by simp,hl',by simp [hb],by simp [Vk]⟩))
 . rintro b s' ⟨done,left,rfl,hl,hb,rfl⟩
   cases hl;rw [vS] at h
   show wpAny _ _ (retInt (vA b.toList)) _ _ _
   rw [hb];refine wpAny_ret_mkInt ?_
   show wpAny _ _ (if (decide (-(2 : Int) ^ 63 <= vA (done.map (·.1))) && decide (vA (done.map (·.1)) < 2 ^ 63)) = true then _ else _) Q E _
   unfold reduceHash at h
   by_cases hr : (decide (-(2 : Int) ^ 63 <= vA (done.map (·.1))) && decide (vA (done.map (·.1)) < 2 ^ 63)) = true
   . rw [if_pos hr]
     rw [if_pos hr] at h;exact wpAny_pure (by simpa [Vk] using h)
   . rw [if_neg hr]
     rw [if_neg hr] at h;exact wpAny_bind (wpAny_rule (wpAny_pure (by simpa [Vk] using h)))
theorem zrX {a b : Addr} {oa ob : Obj} {xs ys : Array Value} {na nb : Nat} {bs : List Bool} {P : Qr -> Shared -> Prop} (hoa : s.heap.get? a = some oa) (hda : oa.data = .seq xs na) (hob : s.heap.get? b = some ob) (hcb : ob.cls = .type "tuple") (hdb : ob.data = .seq ys nb)
   (hi : Al2 (λ (p : Value × Value) (c : Bool)=>∀ (E : Value -> Shared -> Prop) (Q : Bool -> Shared -> Prop),Q c s -> wpAny (model prog w) A (eqBool p.1 p.2) Q E s) (xs.toList.zip ys.toList) bs)
   (h : P (.done (.ret (.bool (bs.all id && xs.size == ys.size)))) s) :
   wpAny (model prog w) A (Builtin.«tuple.__eq__» ⟨[.ref a,.ref b],[]⟩) P E s:=by
 have hTb : s.TypeIs (.ref b) "tuple":=⟨ob,hob,hcb⟩
 show wpAny _ _ (isInstance (.ref b) (.type "tuple") >>= _) _ _ s
 refine wpAny_bind (wpAny_isInstance hTb isSubtype_tuple_tuple ?_);simp only [Wf,wN,if_false];refine wpAny_bind (wpAny_tupleItemsOf hoa hda ?_);refine wpAny_bind (wpAny_tupleItemsOf hob hdb ?_);refine wpAny_bind ?_
 refine wpAny_forIn_list _
   (λ rest r s'=>r.1 = none /\ s' = s /\ ∃ cs,Al2 (λ (p : Value × Value) (c : Bool)=>∀ (E : Value -> Shared -> Prop) (Q : Bool -> Shared -> Prop),Q c s -> wpAny (model prog w) A (eqBool p.1 p.2) Q E s) rest cs /\ bs.all id = cs.all id)
   _ ?_ ?_ _ _ ⟨rfl,rfl,bs,hi,rfl⟩
 . rintro ⟨u,v⟩ rest r s' ⟨hr,rfl,cs,hcs,hall⟩
   cases hcs with
   | @cons _ c _ cs' h1 h2 =>
     refine wpAny_bind (h1 _ _ ?_);cases c with
     | true =>
       simp only [Wf,wN,if_false];exact wpAny_pure ⟨rfl,rfl,cs',h2,by rw [hall]; simp⟩
     | false =>
       simp only [xC,if_true];have hf : bs.all id = false:=by rw [hall]; simp
       rw [hf,WQ] at h;exact wpAny_bind (wpAny_pure (wpAny_pure (wpAny_pure h)))
 . rintro ⟨r1,r2⟩ s' ⟨hr,rfl,cs,hcs,hall⟩
   simp only at hr;subst hr;refine wpAny_pure ?_;cases hcs;rw [hall] at h;have h' : P (.done (.ret (.bool (xs.size == ys.size)))) s':=by simpa using h
   exact h'
theorem zif {a : Addr} {o : Obj} {items : Array Value} {n m : Nat} {Q : Bool -> Shared -> Prop} (ho : s.heap.get? a = some o) (hc : o.cls = .type "tuple") (hd : o.data = .seq items n)
   (hi : ∀ v ∈ items.toList,∀ (E : Value -> Shared -> Prop) (Q : Bool -> Shared -> Prop),Q true s -> wpAny (model prog w) A (eqIsQuiet m v) Q E s) (h : Q true s) : wpAny (model prog w) A (eqIsQuiet (m + 1) (.ref a)) Q E s:=by
 have hT : s.TypeIs (.ref a) "tuple":=⟨o,ho,hc⟩;unfold eqIsQuiet;refine wpAny_bind (wpAny_specialOf hT qC.lookup ?_)
 show wpAny _ _ (isInstance (.ref a) (.type "tuple") >>= _) _ _ s
 refine wpAny_bind (wpAny_isInstance hT isSubtype_tuple_tuple ?_);simp only [Wf,wN,if_false];refine wpAny_bind (wpAny_seqItems ho hd ?_);refine wpAny_bind ?_
 show wpAny _ _ (forIn items _ _) _ _ s
 rw [<- Vs];refine wpAny_forIn_list _ (λ rest r s'=>r.1 = none /\ s' = s /\ ∀ v ∈ rest,v ∈ items.toList) _ ?_ ?_ _ _ ⟨rfl,rfl,λ _ h=>h⟩
 . rintro v rest r s' ⟨hr,rfl,hall⟩
   refine wpAny_bind (hi v (hall v wO) _ _ ?_);simp only [Wf,wN,if_false];exact wpAny_pure ⟨rfl,rfl,λ u hu'=>hall u (wI _ hu')⟩
 . rintro ⟨r1,r2⟩ s' ⟨hr,rfl,_⟩
   simp only at hr;subst hr;exact wpAny_pure h
theorem zlU {a b : Addr} {oa ob : Obj} {xs ys : Array Value} {na nb : Nat} {bs : List Bool} {Q : Bool -> Shared -> Prop} (hu : A.units < cLine) (hoa : s.heap.get? a = some oa) (hca : oa.cls = .type "tuple") (hda : oa.data = .seq xs na) (hob : s.heap.get? b = some ob) (hcb : ob.cls = .type "tuple") (hdb : ob.data = .seq ys nb)
   (he : a = b -> (bs.all id && xs.size == ys.size) = true)
   (hi : Al2 (λ (p : Value × Value) (c : Bool)=>∀ (E : Value -> Shared -> Prop) (Q : Bool -> Shared -> Prop),Q c s -> wpAny (model prog w) A.in1 (eqBool p.1 p.2) Q E s) (xs.toList.zip ys.toList) bs)
   (h : Q (bs.all id && xs.size == ys.size) s) : wpAny (model prog w) A (eqBool (.ref a) (.ref b)) Q E s:=by
 unfold eqBool
 try with_reducible refine wpAny_holding ?_
 show wpAny _ _ (if (Value.ref a == Value.ref b) = true then _ else _) Q E s
 by_cases hab : (Value.ref a == Value.ref b) = true
 . rw [if_pos hab]
   have e : a = b:=by have:=eq_of_beq hab; injection this
   rw [he e] at h;exact wpAny_bind (wpAny_rule (wpAny_pure h))
 . rw [if_neg hab]
   have ta : s.TypeIs (.ref a) "tuple":=⟨oa,hoa,hca⟩;have tb : s.TypeIs (.ref b) "tuple":=⟨ob,hob,hcb⟩
   exact wpAny_bind (wpAny_richCompare_same_room (op:=.Eq) ta tb qC
     (wpAny_call_entry qC ta F.entry_tuple_eq (zrX hoa hda hob hcb hdb hi ⟨_,rfl,(λ e=>nomatch e),wpAny_truthy_bool h⟩) (F.args_tuple_eq_2 _ _)) hu)
end
def Tup (R : List Value -> Prop) (h : Heap) (v : Value) : Prop:=∃ a o items n,v = .ref a /\ h.get? a = some o /\ o.cls = .type "tuple" /\ o.data = .seq items n /\ R items.toList
theorem Tup.inj {R S : List Value -> Prop} {h : Heap} {v : Value} (x : Tup R h v) (y : Tup S h v) : ∃ l,R l /\ S l:=by
 obtain ⟨a,o,items,n,rfl,ho,_,hd,hi⟩:=x;obtain ⟨a',o',items',n',e,ho',_,hd',hi'⟩:=y;cases e;obtain rfl : o = o':=wH (ho.symm.trans ho');rw [hd] at hd'
 injection hd' with h1 _
 subst h1;exact ⟨_,hi,hi'⟩
theorem Tup.keeps {R S : List Value -> Prop} {h h' : Heap} {v : Value} {d : Addr} {o : Obj} {es ep} (x : Tup R h v) (ho : h.get? d = some o) (hd : o.data = .dict es ep) (hs : vg d h h') (r : ∀ l,R l -> S l) : Tup S h' v:=by
 obtain ⟨a,o',items,n,rfl,ho',hc,hd',hi⟩:=x
 have hne : a ≠ d:=by
   rintro rfl;obtain rfl : o' = o:=wH (ho'.symm.trans ho);rw [hd] at hd'; exact nomatch hd'
 exact ⟨a,o',items,n,rfl,(hs.2 a hne).trans ho',hc,hd',r _ hi⟩
def zh8 (prog : Program) (w : World) : HV prog w Int where
 is:=λ _ k v=>∃ t,v = .int k t
 hash:=hashInt
 draws:=λ _=>1
 deep:=0
 inj:=λ ⟨t,e⟩ ⟨u,f⟩=>by subst e; injection f
 keeps:=λ h _ _ _=>h
 pyHash:=λ _ ⟨t,e⟩ h=>by subst e; exact wpAny_pyHash_int h
 eqBool:=λ _ ⟨t,e⟩ ⟨u,f⟩ h=>by subst e f; exact wpAny_eqBool_int h
 quiet:=λ n _ ⟨t,e⟩ h=>by subst e; rw [eqIsQuiet_byValue n rfl]; exact wpAny_pure h
section
variable {prog : Program} {w : World} {K : Type} [DecidableEq K] (e : HV prog w K)
theorem zkk {A : Around} {s : Shared} (hu : A.in1.units + e.deep < cLine) : ∀ {ks : List K} {vs : List Value},Al2 (e.is s.heap) ks vs ->
   Al2 (λ v (x : Int × Nat)=>∀ (E : Value -> Shared -> Prop) (Q : Int -> Shared -> Prop) (s' : Shared),s'.heap = s.heap -> Q x.1 { s' with toks:=s'.toks + x.2 } -> wpAny (model prog w) A.in1 (pyHash v) Q E s') vs (ks.map λ k=>(e.hash k,e.draws k))
 | _,_,.nil=>.nil
 | _,_,.cons h t=>.cons (λ E Q s' he q=>e.pyHash hu (he ▸ h) q) (zkk hu t)
theorem znM {A : Around} {s : Shared} (hu : A.in1.units + e.deep < cLine) : ∀ {ks js : List K} {us vs : List Value},Al2 (e.is s.heap) ks us -> Al2 (e.is s.heap) js vs ->
   ∃ bs,Al2 (λ (p : Value × Value) (c : Bool)=>∀ (E : Value -> Shared -> Prop) (Q : Bool -> Shared -> Prop),Q c s -> wpAny (model prog w) A.in1 (eqBool p.1 p.2) Q E s) (us.zip vs) bs /\ (bs.all id && us.length == vs.length) = decide (ks = js)
 | _,_,_,_,.nil,.nil=>⟨[],.nil,by simp⟩
 | _,_,_,_,.nil,.cons _ _=>⟨[],.nil,by simp⟩
 | _,_,_,_,.cons _ _,.nil=>⟨[],.nil,by simp⟩
 | k :: ks,j :: js,_,_,.cons h t,.cons h' t'=>by
   obtain ⟨bs,b1,b2⟩:=znM hu t t';refine ⟨decide (k = j) :: bs,.cons (λ E Q q=>e.eqBool hu h h' q) b1,?_⟩;rw [qZ,Bool.and_assoc,wU,wU,show ∀ a b : Nat,(a + 1 == b + 1) = (a == b) from λ a b=>by simp,b2]
   by_cases h1 : k = j <;> by_cases h2 : ks = js <;> simp [h1,h2]
theorem ziZ {h : Heap} : ∀ {ks js : List K} {vs : List Value},Al2 (e.is h) ks vs -> Al2 (e.is h) js vs -> ks = js
 | _,_,_,.nil,.nil=>rfl
 | _,_,_,.cons h t,.cons h' t'=>by rw [e.inj h h',ziZ t t']
theorem zl4 {α β : Type} {R S : α -> β -> Prop} (f : ∀ a b,R a b -> S a b) : ∀ {l : List α} {m : List β},Al2 R l m -> Al2 S l m
 | _,_,.nil=>.nil
 | _,_,.cons h t=>.cons (f _ _ h) (zl4 f t)
theorem zlV {α β : Type} {R : α -> β -> Prop} : ∀ {l : List α} {m : List β},Al2 R l m -> ∀ y ∈ m,∃ x,R x y
 | _,_,.nil,y,hy=>by cases hy
 | _,_,.cons h t,y,hy=>by
   rcases wm.mp hy with rfl | hy
   . exact ⟨_,h⟩
   . exact zlV t y hy
def zit : HV prog w (List K) where
 is:=λ h ks v=>Tup (Al2 (e.is h) ks) h v
 hash:=λ ks=>reduceHash (vA ((ks.map λ k=>(e.hash k,e.draws k)).map (·.1)))
 draws:=λ ks=>((ks.map λ k=>(e.hash k,e.draws k)).map (·.2)).sum + 1
 deep:=e.deep + 1
 inj:=λ x y=>by
   obtain ⟨l,h1,h2⟩:=x.inj y;exact ziZ e h1 h2
 keeps:=λ x ho hd hs=>x.keeps ho hd hs λ l h=>zl4 (λ a b r=>e.keeps r ho hd hs) h
 pyHash:=λ {A E s k v Q} hu x h=>by
   obtain ⟨a,o,items,n,rfl,ho,hc,hd,hi⟩:=x;exact zkm (by omega) ho hc hd (zkk e (show A.units + 1 + e.deep < cLine by omega) hi) h
 eqBool:=λ {A E s x y u v Q} hu hx hy h=>by
   have hj : u = v -> x = y:=λ ev=>by
     subst ev;obtain ⟨l,h1,h2⟩:=hx.inj hy;exact ziZ e h1 h2
   obtain ⟨a,o,items,n,rfl,ho,hc,hd,hi⟩:=hx;obtain ⟨a',o',items',n',rfl,ho',hc',hd',hi'⟩:=hy;obtain ⟨bs,b1,b2⟩:=znM e (A:=A) (show A.units + 1 + e.deep < cLine by omega) hi hi';have b3 : (bs.all id && items.size == items'.size) = decide (x = y):=by rw [<- b2]; rfl
   refine zlU (by omega) ho hc hd ho' hc' hd' (λ ea=>?_) b1 (by rw [b3]; exact h);rw [b3];exact decide_eq_true (hj (by rw [ea]))
 quiet:=λ {A E s k v Q} n hn x h=>by
   obtain ⟨a,o,items,m,rfl,ho,hc,hd,hi⟩:=x;obtain ⟨j,rfl⟩ : ∃ j,n = j + 1:=⟨n - 1,by omega⟩
   exact zif ho hc hd (λ u hu E Q q=>by
     obtain ⟨x,hx⟩:=zlV hi u hu;exact e.quiet j (by omega) hx q) h
end
section
variable {prog : Program} {w : World} {J K : Type} [DecidableEq J] [DecidableEq K] (d : HV prog w J) (e : HV prog w K)
def Two (h : Heap) (k : J × K) (l : List Value) : Prop:=∃ u v,l = [u,v] /\ d.is h k.1 u /\ e.is h k.2 v
def znG : HV prog w (J × K) where
 is:=λ h k v=>Tup (Two d e h k) h v
 hash:=λ k=>reduceHash (vA ([(d.hash k.1,d.draws k.1),(e.hash k.2,e.draws k.2)].map (·.1)))
 draws:=λ k=>([(d.hash k.1,d.draws k.1),(e.hash k.2,e.draws k.2)].map (·.2)).sum + 1
 deep:=max d.deep e.deep + 1
 inj:=λ {h v x y} hx hy=>by
   obtain ⟨l,⟨u,v,rfl,h1,h2⟩,u',v',e',h3,h4⟩:=hx.inj hy;cases e';exact Xb (d.inj h1 h3) (e.inj h2 h4)
 keeps:=λ x ho hd hs=>x.keeps ho hd hs λ l ⟨u,v,r,h1,h2⟩=>⟨u,v,r,d.keeps h1 ho hd hs,e.keeps h2 ho hd hs⟩
 pyHash:=λ {A E s k v Q} hu x h=>by
   obtain ⟨a,o,items,n,rfl,ho,hc,hd,u,v,hl,h1,h2⟩:=x
   exact zkm (by omega) ho hc hd (by
     rw [hl];exact .cons (λ E Q s' he q=>d.pyHash (show A.units + 1 + d.deep < cLine by omega) (he ▸ h1) q) (.cons (λ E Q s' he q=>e.pyHash (show A.units + 1 + e.deep < cLine by omega) (he ▸ h2) q) .nil)) h
 eqBool:=λ {A E s x y u v Q} hu hx hy h=>by
   have hj : u = v -> x = y:=λ ev=>by
     subst ev;obtain ⟨l,⟨u,v,rfl,h1,h2⟩,u',v',e',h3,h4⟩:=hx.inj hy;cases e';exact Xb (d.inj h1 h3) (e.inj h2 h4)
   obtain ⟨a,o,items,n,rfl,ho,hc,hd,u,v,hl,h1,h2⟩:=hx;obtain ⟨a',o',items',n',rfl,ho',hc',hd',u',v',hl',h1',h2'⟩:=hy
   have b3 : ([decide (x.1 = y.1),decide (x.2 = y.2)].all id && items.size == items'.size) = decide (x = y):=by
     rw [<- wu,<- wu,hl,hl'];obtain ⟨x1,x2⟩:=x;obtain ⟨y1,y2⟩:=y
     by_cases h1 : x1 = y1 <;> by_cases h2 : x2 = y2 <;> simp [h1,h2]
   refine zlU (bs:=[decide (x.1 = y.1),decide (x.2 = y.2)]) (by omega) ho hc hd ho' hc' hd' (λ ea=>?_) ?_ (by rw [b3]; exact h)
   . rw [b3]
     exact decide_eq_true (hj (by rw [ea]))
   . rw [hl,hl']
     exact .cons (λ E Q q=>d.eqBool (show A.units + 1 + d.deep < cLine by omega) h1 h1' q) (.cons (λ E Q q=>e.eqBool (show A.units + 1 + e.deep < cLine by omega) h2 h2' q) .nil)
 quiet:=λ {A E s k v Q} n hn x h=>by
   obtain ⟨a,o,items,m,rfl,ho,hc,hd,u,v,hl,h1,h2⟩:=x;obtain ⟨j,rfl⟩ : ∃ j,n = j + 1:=⟨n - 1,by omega⟩
   exact zif ho hc hd (λ u hu E Q q=>by
     rw [hl] at hu;rcases wm.mp hu with rfl | hu
     . exact d.quiet j (by omega) h1 q
     . rw [wz] at hu
       subst hu;exact e.quiet j (by omega) h2 q) h
end
abbrev SK:=List Int × List (List Int)
def zjt (prog : Program) (w : World) : HV prog w SK:=znG (zit (zh8 prog w)) (zit (zit (zh8 prog w)))
def zdL (prog : Program) (w : World) : HeapKind prog w SK where
 is:=λ h k a=>(zjt prog w).is h k (.ref a)
 hash:=(zjt prog w).hash
 draws:=(zjt prog w).draws
 room:=λ A=>A.units + 3 < cLine
 inj:=λ x y=>(zjt prog w).inj x y
 keeps:=λ x ho hd hs=>(zjt prog w).keeps x ho hd hs
 pyHash:=λ hu hk h=>(zjt prog w).pyHash hu hk h
 eqBool:=λ hu hx hy h=>(zjt prog w).eqBool hu hx hy h
 quiet:=λ hk h=>(zjt prog w).quiet 8 (by show 3 <= 8; decide) hk h
end TB
namespace L2
open PySem PySem.Spec PyProof.Rows GM
open TB (SK zdL zjt zit zh8 znG Al2)
theorem zkq {P : Program} {w : World} {h : Heap} : ∀ {us : List Value} {ns : List Int},IntsAre us ns -> Al2 ((zh8 P w).is h) ns us
 | _,_,.nil=>.nil
 | _,_,.cons n t r=>.cons ⟨t,rfl⟩ (zkq r)
section
variable {X : Cx} {pins : List (Addr × Obj)} {σ : St} {H : Hp} {s : Shared}
theorem Inv.rowK (I : Inv X pins σ H s) {v : V} {u : Value} {k : List Int} (h : Is X.K H v (TZ k)) (r : zaQ v u) : (zit (zh8 X.prog X.w)).is s.heap k u:=by
 obtain ⟨q,rfl,hs⟩:=zct.mp h;obtain ⟨its,r',⟨o,e,hc,n,hd⟩,_⟩:=I.tuple hs;cases (show u = Value.ref q from r);exact ⟨q,o,its.toArray,n,rfl,e,hc,hd,zkq (zfg r')⟩
theorem Inv.rowsK (I : Inv X pins σ H s) : ∀ {ks : List (List Int)} {ws : List V} {us : List Value},IsAll X.K H ws (ks.map TZ) -> zaG ws us -> Al2 ((zit (zh8 X.prog X.w)).is s.heap) ks us
 | [],ws,us,h,r=>by
   rw [za3.mp h] at r;cases r;exact .nil
 | k :: ks,ws,us,h,r=>by
   rw [wv] at h;obtain ⟨x,t,rfl,q,g⟩:=zaE.mp h;cases r with
   | cons r1 r2=>exact .cons (I.rowK q r1) (I.rowsK g r2)
theorem Inv.stK (I : Inv X pins σ H s) {a : Addr} {ps : List Int} {cm : List (List Int)} (h : Is X.K H (.ref a) (StD ps cm)) : (zdL X.prog X.w).is s.heap (ps,cm) a:=by
 obtain ⟨q,ws,e,hs,t⟩:=zaI.mp h;cases e;obtain ⟨x,t1,rfl,h1,g1⟩:=zaE.mp t;obtain ⟨y,t2,rfl,h2,g2⟩:=zaE.mp g1;rw [za3.mp g2] at hs;obtain ⟨its,r',⟨o,e,hc,n,hd⟩,_⟩:=I.tuple hs;cases r' with
 | @cons _ u _ r0 rx r' =>
   cases r' with
   | @cons _ v _ _ ry r' =>
     cases r';refine ⟨a,o,#[u,v],n,rfl,e,hc,hd,u,v,rfl,I.rowK h1 rx,?_⟩;obtain ⟨q2,ws2,rfl,hs2,t2⟩:=zaI.mp h2;obtain ⟨its2,r2,⟨o2,e2,hc2,n2,hd2⟩,_⟩:=I.tuple hs2;cases (show v = Value.ref q2 from ry);exact ⟨q2,o2,its2.toArray,n2,rfl,e2,hc2,hd2,I.rowsK t2 r2⟩
end
def zou (l : List (Int × Nat)) : Int:=reduceHash (vA (l.map (·.1)))
def zn6 (ks : List Int) : Int:=zou (ks.map λ k=>(hashInt k,1))
def zn2 (ks : List Int) : Nat:=((ks.map λ k=>(hashInt k,1)).map (·.2)).sum + 1
def zom (k : SK) : Int:=zou [(zn6 k.1,zn2 k.1),(zou (k.2.map λ k=>(zn6 k,zn2 k)),((k.2.map λ k=>(zn6 k,zn2 k)).map (·.2)).sum + 1)]
theorem zof (P : Program) (w : World) (k : SK) : (zdL P w).hash k = zom k:=rfl
def zpI (x : SK × Addr × Int) (e : DictEntry) : Prop:=∃ t,e = ⟨zom x.1,.ref x.2.1,.int x.2.2 t⟩
def zc1 (a : Addr) (xs : List (SK × Addr × Int)) : HO:=.ext λ h=>xs.length <= 100000 /\ (a == sysModules) = false /\ (xs.map (·.1)).Nodup /\ ∃ o es ep,h.get? a = some o /\ o.ExactDict /\ o.data = .dict es ep /\ Paired zpI xs es.toList
def zbW (K : wa) (H : Hp) (xs : List (SK × Addr × Int)) : Prop:=∀ x ∈ xs,Is K H (.ref x.2.1) (StD x.1.1 x.1.2)
def zbQ (xs : List (SK × Addr × Int)) (k : SK) : Option Int:=(xs.find? λ x=>decide (x.1 = k)).map (·.2.2)
theorem zos (P : Program) (w : World) (k : SK) (b : Addr) (v : Value) : entryOfKey (zdL P w) (k,b,v) = ⟨zom k,.ref b,v⟩:=by
 unfold entryOfKey;rw [zof]
theorem zqy {P : Program} {w : World} {xs : List (SK × Addr × Int)} {es : List DictEntry} (r : Paired zpI xs es) : ∃ zs : List (SK × Addr × Value),es = zs.map (entryOfKey (zdL P w)) /\ zs.map (·.1) = xs.map (·.1) /\ zs.map (·.2.1) = xs.map (·.2.1) /\ ∀ k,((zbQ xs k) = none /\ atKey zs k = none) \/ ∃ n p t,zbQ xs k = some n /\ atKey zs k = some (p,.int n t):=by
 induction r with
 | nil=>exact ⟨[],rfl,rfl,rfl,λ k=>.inl ⟨rfl,rfl⟩⟩
 | @cons x e xs es hx r ih =>
   obtain ⟨t,e⟩:=hx;obtain ⟨zs,h1,h2,h3,h4⟩:=ih;refine ⟨(x.1,x.2.1,.int x.2.2 t) :: zs,by rw [wv,<- h1,e,zos],by rw [wv,wv,h2],by rw [wv,wv,h3],λ k=>?_⟩
   by_cases hk : x.1 = k
   . exact .inr ⟨x.2.2,x.2.1,t,by simp [zbQ,hk],by simp [atKey,hk]⟩
   . have e1 : zbQ (x :: xs) k = zbQ xs k:=by simp [zbQ,Wv,hk]
     have e2 : atKey ((x.1,x.2.1,Value.int x.2.2 t) :: zs) k = atKey zs k:=by simp [atKey,Wv,hk]
     rw [e1,e2];exact h4 k
theorem zlR {α β γ : Type} : ∀ {zs : List (α × β × γ)} {xs : List (α × β × Int)},zs.map (·.1) = xs.map (·.1) -> zs.map (·.2.1) = xs.map (·.2.1) -> ∀ z ∈ zs,∃ x ∈ xs,x.1 = z.1 /\ x.2.1 = z.2.1
 | [],_,_,_,z,hz=>by cases hz
 | _ :: _,[],h,_,_,_=>by simp at h
 | y :: zs,x :: xs,h1,h2,z,hz=>by
   rw [wv,wv,List.cons.injEq] at h1 h2;rcases wm.mp hz with rfl | hz
   . exact ⟨x,wO ..,h1.1.symm,h2.1.symm⟩
   . obtain ⟨x',m,r⟩:=zlR h1.2 h2.2 z hz
     exact ⟨x',wI _ m,r⟩
theorem zlG {P : Program} {w : World} {H : Hp} {h : Heap} {a : Addr} {xs : List (SK × Addr × Int)} (z : xs.length <= 100000) (hd : (a == sysModules) = false) (nd : (xs.map (·.1)).Nodup) {o : Obj} {es : Array DictEntry} {ep} (ho : h.get? a = some o) (hx : o.ExactDict) (hda : o.data = .dict es ep) (r : Paired zpI xs es.toList) :
   za9 P w H h a (zc1 a xs):=⟨⟨z,hd,nd,o,es,ep,ho,hx,hda,r⟩,⟨o,ho⟩,λ h1 h2 ⟨z,hd,nd,o,es,ep,ho,q⟩ k=>⟨z,hd,nd,o,es,ep,k _ ho,q⟩⟩
section
variable {X : Cx} {pins : List (Addr × Obj)} {σ : St} {H : Hp} {s : Shared} {a b : Addr} {xs : List (SK × Addr × Int)} {ps : List Int} {cm : List (List Int)} {A : Around} {E : Value -> Shared -> Prop}
theorem Inv.dicS (I : Inv X pins σ H s) (e : H a = some (zc1 a xs)) (hk : zbW X.K H xs) : xs.length <= 100000 /\ (a == sysModules) = false /\ (xs.map (·.1)).Nodup /\ ∃ zs : List (SK × Addr × Value),s.heap.DictOfH (zdL X.prog X.w) a zs /\ zs.length = xs.length /\
   Paired zpI xs (zs.map (entryOfKey (zdL X.prog X.w))) /\ ∀ k,((zbQ xs k) = none /\ atKey zs k = none) \/ ∃ n p t,zbQ xs k = some n /\ atKey zs k = some (p,.int n t):=by
 obtain ⟨⟨z,hd,nd,o,es,ep,ho,hx,hda,r⟩,_,_⟩:=(show za9 X.prog X.w H s.heap a (zc1 a xs) from I.hok a _ e);obtain ⟨zs,h1,h2,h3,h4⟩:=zqy (P:=X.prog) (w:=X.w) r;refine ⟨z,hd,nd,zs,⟨o,es,ep,ho,hx,hda,h1,λ x hx=>?_,by rw [h2]; exact nd⟩,by rw [<- wd (f:=λ z : SK × Addr × Value=>z.1),h2,wd],h1 ▸ r,h4⟩;obtain ⟨y,hy,e1,e2⟩:=zlR h2 h3 x hx;have:=I.stK (hk y hy);rw [<- e1,<- e2];exact this
theorem znd {Q : Value -> Shared -> Prop} (hu : A.units + 4 < cLine) (I : Inv X pins σ H s) (e : H a = some (zc1 a xs)) (hk : zbW X.K H xs) (hb : Is X.K H (.ref b) (StD ps cm)) (h : ∀ s',Inv X pins σ H s' -> Q (.bool (!(zbQ xs (ps,cm)).isSome)) s') :
   wpAny (model X.prog X.w) A (compareOp .NotIn (.ref b) (.ref a)) Q E s:=by
 obtain ⟨z,hd,nd,zs,dd,_,_,l⟩:=I.dicS e hk;refine wpAny_notIn_heap (knd:=zdL X.prog X.w) (show A.units + 1 + 3 < cLine by omega) (I.stK hb) hd dd ?_;rcases l (ps,cm) with ⟨l1,l2⟩ | ⟨n,p,t,l1,l2⟩
 . rw [l2]; rw [l1] at h; exact h _ (I.tok _)
 . rw [l2]; rw [l1] at h; exact h _ (I.tok _)
theorem zro {n : Int} {Q : Value -> Shared -> Prop} (hu : A.units + 4 < cLine) (I : Inv X pins σ H s) (e : H a = some (zc1 a xs)) (hk : zbW X.K H xs) (hb : Is X.K H (.ref b) (StD ps cm)) (hl : zbQ xs (ps,cm) = some n) (h : ∀ t s',Inv X pins σ H s' -> Q (.int n t) s') :
   wpAny (model X.prog X.w) A (getItem (.ref a) (.ref b)) Q E s:=by
 obtain ⟨z,hd,nd,zs,dd,_,_,l⟩:=I.dicS e hk;rcases l (ps,cm) with ⟨l1,l2⟩ | ⟨n',p,t,l1,l2⟩
 . rw [hl] at l1; cases l1
 . rw [hl] at l1
   cases l1;exact wpAny_getItem_heap (knd:=zdL X.prog X.w) (show A.units + 1 + 3 < cLine by omega) (I.stK hb) dd l2 (h t _ (I.tok _))
theorem zrH {n : Int} {r : Value} {Q : Unit -> Shared -> Prop} (hu : A.units + 4 < cLine) (I : Inv X pins σ H s) (e : H a = some (zc1 a xs)) (hk : zbW X.K H xs) (hb : Is X.K H (.ref b) (StD ps cm)) (hl : zbQ xs (ps,cm) = none) (hz : xs.length < 100000) (rv : zaQ (.int n) r)
   (h : ∀ s',Inv X pins σ (upd H a (zc1 a (xs ++ [((ps,cm),b,n)]))) s' -> Q () s') : wpAny (model X.prog X.w) A (setItem (.ref a) (.ref b) r) Q E s:=by
 obtain ⟨z,hd,nd,zs,dd,zl,rr,l⟩:=I.dicS e hk
 have l2 : atKey zs (ps,cm) = none:=by
   rcases l (ps,cm) with ⟨l1,l2⟩ | ⟨n',p,t,l1,l2⟩
   . exact l2
   . rw [hl] at l1; cases l1
 have hsz : zs.length <= sizeLine:=by rw [zl,sizeLine_eq]; omega
 refine wpAny_setItem_heap (knd:=zdL X.prog X.w) (show A.units + 1 + 3 < cLine by omega) (I.stK hb) dd (λ h' dd' hs=>h _ ?_) hsz;rw [storedH_new l2] at dd';obtain ⟨o',es',ep',ho',hx',hda',he',_,_⟩:=dd'
 have nn : ((xs ++ [((ps,cm),b,n)]).map (·.1)).Nodup:=by
   rw [wB,WM];refine ⟨nd,by simp,λ c hc d hd'=>?_⟩;rw [wv,WE,wz] at hd';subst hd';rintro rfl;obtain ⟨x,hx,e1⟩:=wT.mp hc;unfold zbQ at hl;rw [qK,V4] at hl;exact hl x hx (decide_eq_true e1)
 refine zi5 I (by rw [e]; exact True.intro) hs ⟨o',ho'⟩ (zlG (by rw [wf,vq]; omega) hd nn ho' hx' hda' ?_);rw [he',wB,wv,WE,zos];obtain ⟨t,rfl⟩:=rv;exact QW rr ⟨t,rfl⟩
end
def znJ : TE:=λ _ H Q=>∀ p,H p = none -> Q (.ref p) (upd H p (zc1 p []))
def zki (K : wa) (ty td : TE) : TE:=λ σ H Q=>ty σ H λ y H1=>td σ H1 λ x H2=>∃ a b xs ps cm,x = .ref a /\ y = .ref b /\ H2 a = some (zc1 a xs) /\ zbW K H2 xs /\ Is K H2 (.ref b) (StD ps cm) /\ Q (.bl (!(zbQ xs (ps,cm)).isSome)) H2
def zqZ (K : wa) (td ty : TE) : TE:=λ σ H Q=>td σ H λ x H1=>ty σ H1 λ y H2=>∃ a b xs ps cm n,x = .ref a /\ y = .ref b /\ H2 a = some (zc1 a xs) /\ zbW K H2 xs /\ Is K H2 (.ref b) (StD ps cm) /\ zbQ xs (ps,cm) = some n /\ Q (.int n) H2
def zoX (K : wa) (td ty tv : TE) : TS:=λ D σ H=>tv σ H λ v H1=>td σ H1 λ x H2=>ty σ H2 λ y H3=>∃ a b xs ps cm n,x = .ref a /\ y = .ref b /\ v = .int n /\ H3 a = some (zc1 a xs) /\ zbW K H3 xs /\ Is K H3 (.ref b) (StD ps cm) /\ zbQ xs (ps,cm) = none /\ xs.length < 100000 /\ D.nx σ (upd H3 a (zc1 a (xs ++ [((ps,cm),b,n)])))
section
variable {X : Cx} {pos pos' : Pos} {i o value : Expr} {ty td tv : TE}
theorem zkM {P : Program} {w : World} {H : Hp} (h : Heap) (hb : sysModules < h.objs.size) : za9 P w H (h.push { cls:=.type "dict",data:=.dict #[] }) h.objs.size (zc1 h.objs.size []) :=
 zlG (vB _) (beq_eq_false_iff_ne.mpr (vH (wF hb))) WR (wj _ rfl) ⟨rfl,rfl,rfl⟩ rfl .nil
theorem znR : PE X (.Dict [] [] pos) znJ:=λ pins s σ H Q I h =>
 wpAny_Dict_empty ⟨.ref s.heap.objs.size,_,I.laid (a:=s.heap.objs.size) (o:=zc1 s.heap.objs.size []) (t':=s.toks) (λ _ _ q=>wb _ q) (wg _) (zkM s.heap I.big),rfl,h _ (I.hok.fresh (wg _))⟩
theorem zlk (hu : X.A.units + 4 < cLine) (hi : PE X i ty) (ho : PE X o td) : PC X .NotIn i o (zki X.K ty td):=by
 intro pins s σ H Q I h;refine thn (hi pins s σ H _ I h) λ iv s1 ⟨y,H1,I1,ry,q1⟩=>thn (ho pins s1 σ H1 _ I1 q1) λ u s2 ⟨x,H2,I2,rx,a,b,xs,ps,cm,ex,ey,e,hk,hb,q2⟩=>?_
 subst ex ey;obtain rfl : u = Value.ref a:=rx;obtain rfl : iv = Value.ref b:=ry;exact znd hu I2 e hk hb λ s3 I3=>⟨.bl (!(zbQ xs (ps,cm)).isSome),H2,I3,rfl,q2⟩
theorem zo2 (hu : X.A.units + 4 < cLine) (ho : PE X o td) (hi : PE X i ty) (hs : zrn i) : PE X (.Subscript o i pos) (zqZ X.K td ty):=by
 intro pins s σ H Q I h;refine zlP qi.lookup hs (thn (ho pins s σ H _ I h) λ u s1 ⟨x,H1,I1,rx,q1⟩=>thn (hi pins s1 σ H1 _ I1 q1) λ iv s2 ⟨y,H2,I2,ry,a,b,xs,ps,cm,n,ex,ey,e,hk,hb,hl,q2⟩=>?_);subst ex ey;obtain rfl : u = Value.ref a:=rx;obtain rfl : iv = Value.ref b:=ry;exact ⟨(I2.dicS e hk).2.2.2.elim λ _ d=>d.1.typeIs,zro hu I2 e hk hb hl λ t s3 I3=>⟨.int n,H2,I3,⟨t,rfl⟩,q2⟩⟩
theorem zpf (hu : X.A.units + 4 < cLine) (ho : PE X o td) (hi : PE X i ty) (hv : PE X value tv) (hs : swapsWith value (some (.Subscript o i pos')) pos.line X.env = pure false) :
   PS X (.Assign [.Subscript o i pos'] value pos) (zoX X.K td ty tv):=by
 intro pins s σ H D I h;refine wpAny_Assign_Subscript (thn (hv pins s σ H _ I h) λ r s1 ⟨v,H1,I1,rv,q1⟩=>thn (ho pins s1 σ H1 _ I1 q1) λ u s2 ⟨x,H2,I2,rx,q2⟩=>thn (hi pins s2 σ H2 _ I2 q2) λ iv s3 ⟨y,H3,I3,ry,a,b,xs,ps,cm,n,ex,ey,ev,e,hk,hb,hl,hz,q3⟩=>?_) hs;subst ex ey ev;obtain rfl : u = Value.ref a:=rx;obtain rfl : iv = Value.ref b:=ry;exact zrH hu I3 e hk hb hl hz rv λ s4 I4=>⟨σ,_,I4,q3⟩
end
section
variable {K : wa} {H H' : Hp} {Q : VK} {D : zcc} {σ : St} {td ty tv : TE} {a b : Addr} {xs : List (SK × Addr × Int)} {ps : List Int} {cm : List (List Int)} {n : Int}
theorem zo9 (q : ∀ p H',H p = none -> zag H H' -> H' p = some (zc1 p []) -> Q (.ref p) H') : znJ σ H Q:=λ p hp=>q p _ hp (zag.upd hp) zar
theorem zkF (h : ty σ H λ y H1=>td σ H1 λ x H2=>∃ a b xs ps cm,x = .ref a /\ y = .ref b /\ H2 a = some (zc1 a xs) /\ zbW K H2 xs /\ Is K H2 (.ref b) (StD ps cm) /\ Q (.bl (!(zbQ xs (ps,cm)).isSome)) H2) : zki K ty td σ H Q:=h
theorem zoD (h : td σ H λ x H1=>ty σ H1 λ y H2=>∃ a b xs ps cm n,x = .ref a /\ y = .ref b /\ H2 a = some (zc1 a xs) /\ zbW K H2 xs /\ Is K H2 (.ref b) (StD ps cm) /\ zbQ xs (ps,cm) = some n /\ Q (.int n) H2) : zqZ K td ty σ H Q:=h
theorem zng (h : tv σ H λ v H1=>td σ H1 λ x H2=>ty σ H2 λ y H3=>∃ a b xs ps cm n,x = .ref a /\ y = .ref b /\ v = .int n /\ H3 a = some (zc1 a xs) /\ zbW K H3 xs /\ Is K H3 (.ref b) (StD ps cm) /\ zbQ xs (ps,cm) = none /\ xs.length < 100000 /\ D.nx σ (upd H3 a (zc1 a (xs ++ [((ps,cm),b,n)])))) : zoX K td ty tv D σ H:=h
theorem zbW.nil : zbW K H []:=λ _ h=>by cases h
theorem zbW.thru (h : zbW K H xs) (k : zaM H H') : zbW K H' xs:=λ x hx=>(h x hx).thruS k
theorem zbW.snoc (h : zbW K H xs) (i : Is K H (.ref b) (StD ps cm)) : zbW K H (xs ++ [((ps,cm),b,n)]):=λ x hx=>by
 rcases wJ.mp hx with hx | hx
 . exact h x hx
 . rw [wz] at hx
   subst hx;exact i
theorem ziw (e : H a = some (zc1 a xs)) (o : HO) : zaM H (upd H a o) :=
 ⟨λ b ys hb=>by rw [zbj (λ z=>by subst z; rw [e] at hb; cases hb)]; exact hb,λ b o' u hb=>by rw [zbj (λ z=>by subst z; rw [e] at hb; cases hb)]; exact hb⟩
theorem zpL {R : Hp -> Prop} (e : H a = some (zc1 a xs)) (hk : zbW K H xs) (hb : Is K H (.ref b) (StD ps cm)) (hl : zbQ xs (ps,cm) = none) (hz : xs.length < 100000)
   (q : ∀ H',Exc a H H' -> zaM H H' -> H' a = some (zc1 a (xs ++ [((ps,cm),b,n)])) -> zbW K H' (xs ++ [((ps,cm),b,n)]) -> R H') :
   ∃ a' b' xs' ps' cm' n',V.ref a = .ref a' /\ V.ref b = .ref b' /\ V.int n = .int n' /\ H a' = some (zc1 a' xs') /\ zbW K H xs' /\ Is K H (.ref b') (StD ps' cm') /\ zbQ xs' (ps',cm') = none /\ xs'.length < 100000 /\ R (upd H a' (zc1 a' (xs' ++ [((ps',cm'),b',n')]))) :=
 ⟨a,b,xs,ps,cm,n,rfl,rfl,rfl,e,hk,hb,hl,hz,q _ (Exc.upd a H _) (ziw e _) zar ((hk.snoc hb).thru (ziw e _))⟩
theorem zkI {l : Addr} {ws : List V} {y : V} (h : H l = some (.lst ws)) (z : ws.length <= 100000) (q : ∀ H',Exc l H H' -> H' l = some (.lst (ws ++ [y])) -> Q .non H') : zju (.ref l) [y] H Q:=⟨l,ws,y,rfl,rfl,h,by rw [sizeLine_eq]; omega,q _ (Exc.upd l H _) zar⟩
end
def zg4 (kind : ScopeKind) (inner outer : List (Str × NameKind)) : List (Str × NameKind):=inner.map λ (n,k)=>if (k == .free && kind == .function && outer.lookup n == some .cell) then (n,.cell) else (n,k)
section
variable {X : Cx} {N' : List Str} {scope : Scope} {cl : List (Str × Addr)} {src : List (Option Nat)} {elt tgt iter : Expr} {ifs : List Expr} {pos : Pos} {wi : TI} {g : TG} {tt : TT} {te : TE}
theorem zpe (hc : X.calm = true) (ok : zaO X N' scope cl src) (hi : PI X tgt iter wi)
   (hg : ∀ C s₀ H₀ fp pins,PG (zbp X N' scope cl C s₀ H₀ fp pins) tgt g) (ht : ∀ C s₀ H₀ fp pins,PTs (zbp X N' scope cl C s₀ H₀ fp pins) ifs tt)
   (he : (∀ x,(relabel scope X.env).names.lookup x = some .cell -> ∃ c,cl.lookup x = some c) -> ∀ C s₀ H₀ fp pins,PE (zbp X N' scope cl C s₀ H₀ fp pins) elt te)
   (hs : ∀ x,foldedSetIterable iter X.env x = pure x:=by intro _; rfl) : PE X (.ListComp elt [⟨tgt,iter,ifs,0⟩] scope pos) (ze2 src wi g tt te) :=
 zaV hc ok hi hg ht (he λ x h=>ok.clos.has x (.inl h)) hs
theorem zmq {scope : Scope} {env : Env} : (relabel scope env).names = zg4 env.scope.kind scope.names env.scope.names:=rfl
theorem zaO.by2 {N2 : List Str} {scope2 : Scope} {src2 : List (Option Nat)} {C : Addr} {s₀ : Shared} {H₀ : Hp} {fp : List Addr} {pins : List (Addr × Obj)} (hk : scope2.kind = .function) (hc : zaK scope2.names (zg4 X.env.scope.kind scope.names X.env.scope.names) N' N2 src2 = true)
   (hf : ∀ x,(relabel scope X.env).names.lookup x = some .cell -> ∃ c,cl.lookup x = some c) : zaO (zbp X N' scope cl C s₀ H₀ fp pins) N2 scope2 (zfU cl scope2.names []) src2 :=
 zaO.by (X:=zbp X N' scope cl C s₀ H₀ fp pins) hk (by rw [<- zmq] at hc; exact hc) hf
end
theorem zkR {X : Cx} {body rest : List Stmt} {s1 s2 : Stmt} {t1 t2 : TS} {es : List Expr} {ts : List TE} {y : Str} {p1 p2 p3 : Pos} {i : Nat} {tr : TS} (e : body = s1 :: s2 :: .Assign [.Name y p1] (.List es p2) p3 :: rest) (h1 : PS X s1 t1) (h2 : PS X s2 t2) (A : zg7 X es ts) (hN : X.N.Nodup) (hi : X.N[i]? = some y) (hx : Loc X.env.scope y)
   (hr : PSs X rest tr) (hf : X.fn y = true \/ X.env.scope.names.lookup y = some .local:=by first | exact .inl rfl | exact .inr rfl | assumption) : PSs X body (zo5 t1 (zo5 t2 (zo5 (zo1 (zks X.K (zk1 ts)) (zeY i)) tr))):=by
 subst e;exact zac h1 (zac h2 (zac (zam hN hi hx (zpQ A) rfl hf) hr))
def zg5 (K : wa) : List V -> Hp -> VK -> Prop:=λ xs H Q=>∃ v,xs = [v] /\ ((∃ i : Int,v = .int i /\ i.natAbs < 1000000 /\ ∀ x : Str,x.length <= 10000 -> Q (.str x) H) \/ ∃ d,Is K H v d /\ zrG d = true /\ Rp 60 600 d /\ ∀ x : Str,x.length <= 10000 -> Q (.str x) H)
theorem zhF {X : Cx} (hg : X.A.guards = some []) (hu : X.A.units + 64 < cLine) : zal X (.type "str") (zg5 X.K):=by
 intro pins s σ H xs us Q I r h;obtain ⟨v,rfl,h⟩:=h;obtain ⟨u,rfl,rx⟩:=zdE r;rcases h with ⟨i,rfl,hi,q⟩ | ⟨d,hd,sq,rp,q⟩
 . obtain ⟨t,rfl⟩:=rx
   refine PySem.P.str_of_int (by have:=zfS hi; omega) ⟨.str (Ww (toString i)),H,I.tok _,⟨_,rfl⟩,q _ ?_⟩;have:=Qd (i:=i) (wL hi (by decide));exact wV this (by decide)
 . obtain ⟨a,rfl⟩:=zqC hd sq
   obtain ⟨as,h1⟩:=I.reads d _ u rp.sh.1 hd rx;cases rx;have hdp:=rp.sh.2;have sl:=PyData.leavesShort_of_canLay0 13 d rp.sh.1 rp.is;have hl:=PyData.shown_le 13 (by decide) d sl;have hw:=rp.wt;refine str_of_reads h1 rp.si (PyData.noDict_hsm (PyData.hasDict_of_canLay d rp.sh.1)) hg (by omega) (λ b o e=>e) (λ h' u tk hk=>⟨.str d.shown,H,I.kept (t':=tk) hk,⟨_,rfl⟩,q _ (by omega)⟩) ?_;exact PyData.shown_fits (B:=13) (by decide) (by decide) sl (wV hw (by decide))
theorem zl5 : ∀ {ts : List Str} {us : List Value},zaG (ts.map V.str) us -> ∃ l : List (Str × Tok),us = strValues l /\ l.map (·.1) = ts
 | [],us,h=>by
   cases h;exact ⟨[],rfl,rfl⟩
 | t :: ts,us,h=>by
   cases h with
   | cons r rr =>
     obtain ⟨tk,rfl⟩:=r;obtain ⟨l,e1,e2⟩:=zl5 rr;exact ⟨(t,tk) :: l,by rw [e1]; rfl,by rw [wv,e2]⟩
def zoT (K : wa) : V -> List V -> Hp -> VK -> Prop:=λ x vs H Q=>∃ (sep : Str) (l : Addr) (ts : List Str) (B : Nat),x = .str sep /\ vs = [.ref l] /\ SqL K H l (ts.map V.str) /\ (∀ y ∈ ts,y.length <= B) /\ ts.length * B + ts.length * sep.length <= 16777216 /\ ∀ t,Q (.str t) H
theorem zqr {X : Cx} : MtM X "str.join" (zoT X.K):=by
 intro pins s σ H x vs v us Q I rx rv h;obtain ⟨sep,l,ts,B,rfl,rfl,hl,hB,hz,q⟩:=h;obtain ⟨tk,rfl⟩:=rx;obtain ⟨u,rfl,ru⟩:=rv.one;cases ru;obtain ⟨its,r,p,_⟩:=I.list hl;obtain ⟨lt,rfl,e2⟩:=zl5 r;refine SC.join p.isList e2 ?_ (λ t' k=>⟨.str _,H,I.tok _,⟨_,rfl⟩,q _⟩);unfold JoinOk;rw [StrLaws.joinFits hB hz]
 rfl
section
variable {K : wa} {H H' : Hp} {Q : VK} {D : zcc} {σ : St} {g : TG} {tb : TS} {ta td ty : TE} {tA : TA} {v : V} {d : PyData} {a : Addr} {kvs : List (Key × V)} {x : Str} {i : Int} {xs : List V}
theorem zpt (h : i.natAbs < 1000000) (q : ∀ x : Str,x.length <= 10000 -> Q (.str x) H) : zg5 K [.int i] H Q:=⟨_,rfl,.inl ⟨i,rfl,h,q⟩⟩
theorem zqx {n m : Nat} (h : Is K H v d) (s : zrG d = true) (r : Rp n m d) (hn : n <= 60) (hm : m <= 600) (q : ∀ x : Str,x.length <= 10000 -> Q (.str x) H) : zg5 K [v] H Q:=⟨_,rfl,.inr ⟨d,h,s,r.mono hn hm,q⟩⟩
theorem zsb {R : Prop} (q : R) : tyV K "str" (.str x) H /\ R:=⟨rfl,q⟩
theorem zpH {ts : List Str} {B : Nat} (h : SqL K H a (ts.map V.str)) (hB : ∀ y ∈ ts,y.length <= B) (hz : ts.length * B + ts.length * x.length <= 16777216) (q : ∀ t,Q (.str t) H) : zoT K (.str x) [.ref a] H Q:=⟨x,a,ts,B,rfl,rfl,h,hB,hz,q⟩
theorem zp3 (h : td σ H λ x H1=>ty σ H1 λ y H2=>∃ a v,x = .ref a /\ zf2 H2 a y (some v) /\ Q v H2) : zq0 td ty σ H Q:=h
theorem zqA {R : Option V -> Prop} (e : H a = some (.dK kvs)) (q : R (zeT kvs (.inr x))) : ∃ a' o,V.ref a = .ref a' /\ zf2 H a' (.str x) o /\ R o:=⟨a,_,rfl,zf2.k (k:=.inr x) e,q⟩
theorem zhG {R : V -> Prop} (e : H a = some (.dK kvs)) (h : zeT kvs (.inr x) = some v) (q : R v) : ∃ a' v,V.ref a = .ref a' /\ zf2 H a' (.str x) (some v) /\ R v:=⟨a,v,rfl,by rw [<- h]; exact zf2.k (k:=.inr x) e,q⟩
theorem zjZ {R : Hp -> Prop} (e : H a = some (.dK kvs)) (hl : kvs.length <= 1000) (q : ∀ H',Exc a H H' -> H' a = some (.dK (zdX kvs (.inr x) v)) -> R H') : ∃ a' H4,V.ref a = .ref a' /\ zlh H a' (.str x) v H4 /\ R H4 :=
 ⟨a,_,rfl,zlh.k (k:=.inr x) e (zb4 hl),q _ (Exc.upd a H _) zar⟩
theorem zoU (k : Key) (w : V) : (zdX kvs k w).length <= kvs.length + 1:=by
 unfold zdX
 split
 . rw [wd]; omega
 . rw [wf,vq]; exact wg _
theorem zpb {P : V -> Prop} {k : Key} {w : V} (h : ∀ kv ∈ kvs,P kv.2) (hw : P w) : ∀ kv ∈ zdX kvs k w,P kv.2:=by
 unfold zdX;intro kv hk
 split at hk
 . obtain ⟨x,hx,rfl⟩:=wT.mp hk
   split
   . exact hw
   . exact h x hx
 . rcases wJ.mp hk with hk | hk
   . exact h kv hk
   . rw [wz] at hk
     subst hk;exact hw
theorem znl {P : V -> Prop} {k : Key} {w : V} (h : ∀ kv ∈ kvs,P kv.2) (e : zeT kvs k = some w) : P w:=by
 unfold zeT at e;obtain ⟨kv,h1,h2⟩:=W6.mp e;rw [<- h2];exact h kv (qk h1)
def zrg (K : wa) (g : TG) (tb : TS) (D : zcc) (σ : St) (vs : List V) (H1 : Hp) : Prop:=∃ a,vs = [.ref a] /\ (∃ xs,SqL K H1 a xs) /\
 ∃ W : Nat -> Nat -> St -> Hp -> Prop,(∃ m,W 0 m σ H1) /\ ∀ i m σ H,W i m σ H ->
   ((zn8 K a).stop i H /\ D.nx σ H) \/ ((zn8 K a).go i H /\ ∃ M : St -> Hp -> Prop,(∀ σ' H',M σ' H' -> ∃ m',m' < m /\ W (i + 1) m' σ' H') /\ ∀ x H',(zn8 K a).yld i H x H' -> g x σ H' λ σ2 H2=>tb { D with nx:=M,ct:=M,bk:=D.nx } σ2 H2)
theorem zok (h : tA σ H λ vs H1=>zrg K g tb D σ vs H1) : zjQ (zoG K tA) g tb D σ H:=h
theorem zkX (hx : SqL K H a xs) (Pv : Nat -> St -> Hp -> Prop) (h0 : Pv 0 σ H) (hl : ∀ i σ H,i <= xs.length -> Pv i σ H -> SqL K H a xs)
   (hs : ∀ i x σ H t H',xs[i]? = some x -> Pv i σ H -> H t = none -> zag H H' -> H' t = some (.tup [.int (i : Int),x]) -> g (.ref t) σ H' λ σ2 H2=>tb { D with nx:=Pv (i + 1),ct:=Pv (i + 1),bk:=D.nx } σ2 H2) (hd : ∀ σ H,Pv xs.length σ H -> D.nx σ H) : zrg K g tb D σ [.ref a] H:=by
 refine ⟨a,rfl,⟨xs,hx⟩,λ i m σ H=>i + m = xs.length /\ Pv i σ H,⟨xs.length,by omega,h0⟩,?_⟩;rintro i m σ H ⟨him,hp⟩;have hq:=hl i σ H (by omega) hp
 by_cases hm : m = 0
 . have e : i = xs.length:=by omega
   subst e;exact .inl ⟨⟨xs,hq,wg _⟩,hd _ _ hp⟩
 . have hi : i < xs.length:=by omega
   refine .inr ⟨⟨xs,xs[i],hq,by simp [hi]⟩,λ σ' H'=>Pv (i + 1) σ' H',λ σ' H' h=>⟨m - 1,by omega,by omega,h⟩,?_⟩;rintro y H' ⟨t,x,rfl,hn,hx',rfl⟩;exact hs i x σ H t _ (hx' xs hq) hp hn (zag.upd hn) zar
end
end L2
namespace G
open PySem PySem.Spec PyProof.Rows L2 GM
def top (i : Nat) : Stmt:=WS.main.body.getD i (.Pass ⟨0,0,0,0⟩)
abbrev zcL : Stmt:=top 4
theorem zkg : zaB ["thing"] ["thing"] (zae zcL):=⟨rfl,rfl,rfl,by decide +kernel,rfl,by decide +kernel,by decide +kernel⟩
abbrev zbt : Stmt:=top 5
theorem zfV : zaB ["least","most","thing"] ["least","most","thing"] (zae zbt):=⟨rfl,rfl,rfl,by decide +kernel,rfl,by decide +kernel,by decide +kernel⟩
abbrev zcp : Stmt:=top 12
theorem zi2 : zaB ["thing"] ["thing"] (zae zcp):=⟨rfl,rfl,rfl,by decide +kernel,rfl,by decide +kernel,by decide +kernel⟩
abbrev za6 : Stmt:=top 13
theorem zfo : zaB ["least","most","thing"] ["least","most","thing"] (zae za6):=⟨rfl,rfl,rfl,by decide +kernel,rfl,by decide +kernel,by decide +kernel⟩
abbrev zb5 : Stmt:=top 14
theorem zhZ : zaB ["thing"] ["thing"] (zae zb5):=⟨rfl,rfl,rfl,by decide +kernel,rfl,by decide +kernel,by decide +kernel⟩
abbrev zcB : Stmt:=top 15
theorem zld : zaB ["thing","rounds"] ["thing","rounds"] (zae zcB):=⟨rfl,rfl,rfl,by decide +kernel,rfl,by decide +kernel,by decide +kernel⟩
abbrev zdQ : Stmt:=top 16
theorem zm1 : zaB ["thing","worms"] ["thing","worms"] (zae zdQ):=⟨rfl,rfl,rfl,by decide +kernel,rfl,by decide +kernel,by decide +kernel⟩
abbrev zbX : Stmt:=top 17
theorem zj5 : zaB ["thing","worms"] ["thing","worms"] (zae zbX):=⟨rfl,rfl,rfl,by decide +kernel,rfl,by decide +kernel,by decide +kernel⟩
abbrev zcR : Stmt:=top 18
theorem zmo : zaB ["rounds","ups","ties"] ["rounds","ups","ties"] (zae zcR):=⟨rfl,rfl,rfl,by decide +kernel,rfl,by decide +kernel,by decide +kernel⟩
abbrev zbD : Stmt:=top 19
theorem zhm : zaB ["web"] ["web"] (zae zbD):=⟨rfl,rfl,rfl,by decide +kernel,rfl,by decide +kernel,by decide +kernel⟩
abbrev zcI : Stmt:=top 21
theorem zex : zaB ["count","ups","phase","many","done"] ["count","ups","phase","many"] (zae zcI):=⟨rfl,rfl,rfl,by decide +kernel,rfl,by decide +kernel,by decide +kernel⟩
abbrev zef : Stmt:=top 22
theorem zoO : zaB ["web","worms","phases"] ["web","worms","phases"] (zae zef):=⟨rfl,rfl,rfl,by decide +kernel,rfl,by decide +kernel,by decide +kernel⟩
abbrev zbV : Stmt:=top 23
theorem ziR : zaB ["web","worms"] ["web","worms"] (zae zbV):=⟨rfl,rfl,rfl,by decide +kernel,rfl,by decide +kernel,by decide +kernel⟩
abbrev zci : Stmt:=top 24
theorem zjT : zaB ["ties","worm","delay"] ["ties","worm","delay"] (zae zci):=⟨rfl,rfl,rfl,by decide +kernel,rfl,by decide +kernel,by decide +kernel⟩
abbrev zbe : Stmt:=top 25
theorem zbJ : zaB ["web","coming","glowed","ties","told","delay","row"] ["web","coming","glowed"] (zae zbe):=⟨rfl,rfl,rfl,by decide +kernel,rfl,by decide +kernel,by decide +kernel⟩
abbrev zbc : Stmt:=top 26
theorem zbM : zaB ["web","stand","told","worm","many"] ["web","stand"] (zae zbc):=⟨rfl,rfl,rfl,by decide +kernel,rfl,by decide +kernel,by decide +kernel⟩
abbrev zed : Stmt:=top 27
theorem zcg : zaB ["web","stand","phases","worms","left","waves","wave","ties","worm","anew","glowed"] ["web","stand"] (zae zed):=⟨rfl,rfl,rfl,by decide +kernel,rfl,by decide +kernel,by decide +kernel⟩
abbrev zdd : Stmt:=top 29
theorem zdo : zaB ["web","stand","told","stands","following","one","other"] ["web","stand","told"] (zae zdd):=⟨rfl,rfl,rfl,by decide +kernel,rfl,by decide +kernel,by decide +kernel⟩
abbrev zdc : Stmt:=top 31
theorem ze8 : zaB ["_law_script","_law_k","_law_cell"] ["_law_script","_law_k"] (zae zdc):=⟨rfl,rfl,rfl,by decide +kernel,rfl,by decide +kernel,by decide +kernel⟩
abbrev zcE : Stmt:=top 32
theorem zeE : zaB ["_law_pen_here","_law_many","_law_digit","_law_mixed"] ["_law_pen_here","_law_many"] (zae zcE):=⟨rfl,rfl,rfl,by decide +kernel,rfl,by decide +kernel,by decide +kernel⟩
abbrev zck : Stmt:=top 33
theorem zbL : zaB ["_law_pen_here","_law_many","_law_great","_law_left","_law_delay","_law_a","_law_near","_law_ties_here","_law_k"] ["_law_pen_here","_law_many","_law_great"] (zae zck):=⟨rfl,rfl,rfl,by decide +kernel,rfl,by decide +kernel,by decide +kernel⟩
abbrev zcm : Stmt:=top 34
theorem zcl : zaB ["_law_pen_here","_law_most","_law_great","_law_many","_law_sizes","_law_ups","_law_size","_law_high"] ["_law_pen_here","_law_most"] (zae zcm):=⟨rfl,rfl,rfl,by decide +kernel,rfl,by decide +kernel,by decide +kernel⟩
abbrev zbE : Stmt:=top 35
theorem zdz : zaB ["_law_pen_here","_law_sizes","_law_ups","_law_ties_here"] ["_law_pen_here"] (zae zbE):=⟨rfl,rfl,rfl,by decide +kernel,rfl,by decide +kernel,by decide +kernel⟩
abbrev zcn : Stmt:=top 36
theorem zc3 : zaB ["_law_web_here","_law_worm","_law_phase_here","_law_many"] ["_law_web_here","_law_worm","_law_phase_here","_law_many"] (zae zcn):=⟨rfl,rfl,rfl,by decide +kernel,rfl,by decide +kernel,by decide +kernel⟩
abbrev zbk : Stmt:=top 37
theorem zcd : zaB ["_law_web_here","_law_coming_here","_law_gone","_law_rows","_law_a","_law_b","_law_delay"] ["_law_web_here","_law_coming_here","_law_gone"] (zae zbk):=⟨rfl,rfl,rfl,by decide +kernel,rfl,by decide +kernel,by decide +kernel⟩
abbrev zbN : Stmt:=top 38
theorem zaZ : zaB ["_law_web_here","_law_stand","_law_many","_law_counts","_law_waves","_law_gone","_law_fresh","_law_here","_law_a","_law_b","_law_delay","_law_left"] ["_law_web_here","_law_stand"] (zae zbN):=⟨rfl,rfl,rfl,by decide +kernel,rfl,by decide +kernel,by decide +kernel⟩
abbrev zco : Stmt:=top 39
theorem zcy : zaB ["_law_pen_here","_law_web_here","_law_way","_law_found","_law_size","_law_drawn"] ["_law_pen_here","_law_web_here"] (zae zco):=⟨rfl,rfl,rfl,by decide +kernel,rfl,by decide +kernel,by decide +kernel⟩
abbrev zb1 : Stmt:=top 40
theorem zcM : zaB ["_law_web_here","_law_stand","_law_most","_law_places","_law_stands_here"] ["_law_web_here","_law_stand","_law_most"] (zae zb1):=⟨rfl,rfl,rfl,by decide +kernel,rfl,by decide +kernel,by decide +kernel⟩
abbrev zcD : Stmt:=top 41
theorem zbK : zaB ["_law_pen_here","_law_lead","_law_again","_law_way","_law_at","_law_row","_law_spot","_law_other"] ["_law_pen_here","_law_lead","_law_again"] (zae zcD):=⟨rfl,rfl,rfl,by decide +kernel,rfl,by decide +kernel,by decide +kernel⟩
abbrev zbl : Stmt:=top 42
theorem zhq : zaB ["_law_stand"] ["_law_stand"] (zae zbl):=⟨rfl,rfl,rfl,by decide +kernel,rfl,by decide +kernel,by decide +kernel⟩
abbrev zcq : Stmt:=top 43
theorem zb2 : zaB ["_law_lead","_law_again","_law_row","_law_seen","_law_at","_law_stand","_law_text"] ["_law_lead","_law_again"] (zae zcq):=⟨rfl,rfl,rfl,by decide +kernel,rfl,by decide +kernel,by decide +kernel⟩
abbrev zcK : Stmt:=top 44
theorem zgU : zaB ["_law_web_here","_law_stand","_law_told","_law_row"] ["_law_web_here","_law_stand","_law_told"] (zae zcK):=⟨rfl,rfl,rfl,by decide +kernel,rfl,by decide +kernel,by decide +kernel⟩
abbrev zcG : Stmt:=top 45
theorem zj6 : zaB ["_law_found","_law_due_here"] ["_law_found","_law_due_here"] (zae zcG):=⟨rfl,rfl,rfl,by decide +kernel,rfl,by decide +kernel,by decide +kernel⟩
abbrev zh7 : Stmt:=top 46
theorem zca : zaB ["_law_script","_law_is_long","_law_drawn","_law_web_here","_law_stand","_law_stands_here","_law_at","_law_lead","_law_again","_law_k","_law_pen_here","_law_told","_law_asked","_law_handed","_law_found"] ["_law_script"] (zae zh7):=⟨rfl,rfl,rfl,by decide +kernel,rfl,by decide +kernel,by decide +kernel⟩
set_option genInjectivity false in
structure Ad where
 is_whole : Addr
 fd_is_whole : FuncData
 is_whole_from : Addr
 fd_is_whole_from : FuncData
 is_listed : Addr
 fd_is_listed : FuncData
 are_whole_from : Addr
 fd_are_whole_from : FuncData
 are_rounds : Addr
 fd_are_rounds : FuncData
 are_ups : Addr
 fd_are_ups : FuncData
 is_tie : Addr
 fd_is_tie : FuncData
 are_ties : Addr
 fd_are_ties : FuncData
 web_of : Addr
 fd_web_of : FuncData
 none_coming : Addr
 fd_none_coming : FuncData
 moved_up : Addr
 fd_moved_up : FuncData
 ended : Addr
 fd_ended : FuncData
 ties_from : Addr
 fd_ties_from : FuncData
 count_to : Addr
 fd_count_to : FuncData
 coming_behind : Addr
 fd_coming_behind : FuncData
 phases_at_first : Addr
 fd_phases_at_first : FuncData
 tick : Addr
 fd_tick : FuncData
 is_ring : Addr
 fd_is_ring : FuncData
 law_pen : Addr
 fd_law_pen : FuncData
 law_draw : Addr
 fd_law_draw : FuncData
 law_ties : Addr
 fd_law_ties : FuncData
 law_web : Addr
 fd_law_web : FuncData
 law_long : Addr
 fd_law_long : FuncData
 law_phase : Addr
 fd_law_phase : FuncData
 law_coming : Addr
 fd_law_coming : FuncData
 law_tick : Addr
 fd_law_tick : FuncData
 law_begin : Addr
 fd_law_begin : FuncData
 law_stands : Addr
 fd_law_stands : FuncData
 law_bent : Addr
 fd_law_bent : FuncData
 law_written : Addr
 fd_law_written : FuncData
 law_twins : Addr
 fd_law_twins : FuncData
 law_due : Addr
 fd_law_due : FuncData
 law_same : Addr
 fd_law_same : FuncData
 law : Addr
 fd_law : FuncData
 C_NoWeb : Addr
structure Txt (K : wa) (mg : Str -> Option Value) (a : Ad) : Prop where
 F_is_whole : Fun K "is_whole" "is_whole" zcL a.is_whole a.fd_is_whole
 g_is_whole : mg "is_whole" = some (.ref a.is_whole)
 b_is_whole : za1 K a.fd_is_whole ["thing"] []
 F_is_whole_from : Fun K "is_whole_from" "is_whole_from" zbt a.is_whole_from a.fd_is_whole_from
 g_is_whole_from : mg "is_whole_from" = some (.ref a.is_whole_from)
 b_is_whole_from : za1 K a.fd_is_whole_from ["least","most","thing"] []
 F_is_listed : Fun K "is_listed" "is_listed" zcp a.is_listed a.fd_is_listed
 g_is_listed : mg "is_listed" = some (.ref a.is_listed)
 b_is_listed : za1 K a.fd_is_listed ["thing"] []
 F_are_whole_from : Fun K "are_whole_from" "are_whole_from" za6 a.are_whole_from a.fd_are_whole_from
 g_are_whole_from : mg "are_whole_from" = some (.ref a.are_whole_from)
 b_are_whole_from : za1 K a.fd_are_whole_from ["least","most","thing"] []
 F_are_rounds : Fun K "are_rounds" "are_rounds" zb5 a.are_rounds a.fd_are_rounds
 g_are_rounds : mg "are_rounds" = some (.ref a.are_rounds)
 b_are_rounds : za1 K a.fd_are_rounds ["thing"] []
 F_are_ups : Fun K "are_ups" "are_ups" zcB a.are_ups a.fd_are_ups
 g_are_ups : mg "are_ups" = some (.ref a.are_ups)
 b_are_ups : za1 K a.fd_are_ups ["thing","rounds"] []
 F_is_tie : Fun K "is_tie" "is_tie" zdQ a.is_tie a.fd_is_tie
 g_is_tie : mg "is_tie" = some (.ref a.is_tie)
 b_is_tie : za1 K a.fd_is_tie ["thing","worms"] []
 F_are_ties : Fun K "are_ties" "are_ties" zbX a.are_ties a.fd_are_ties
 g_are_ties : mg "are_ties" = some (.ref a.are_ties)
 b_are_ties : za1 K a.fd_are_ties ["thing","worms"] []
 F_web_of : Fun K "web_of" "web_of" zcR a.web_of a.fd_web_of
 g_web_of : mg "web_of" = some (.ref a.web_of)
 b_web_of : za1 K a.fd_web_of ["rounds","ups","ties"] []
 F_none_coming : Fun K "none_coming" "none_coming" zbD a.none_coming a.fd_none_coming
 g_none_coming : mg "none_coming" = some (.ref a.none_coming)
 b_none_coming : za1 K a.fd_none_coming ["web"] []
 F_moved_up : Fun K "moved_up" "moved_up" zcI a.moved_up a.fd_moved_up
 g_moved_up : mg "moved_up" = some (.ref a.moved_up)
 b_moved_up : za1 K a.fd_moved_up ["count","ups","phase","many"] []
 F_ended : Fun K "ended" "ended" zef a.ended a.fd_ended
 g_ended : mg "ended" = some (.ref a.ended)
 b_ended : za1 K a.fd_ended ["web","worms","phases"] []
 F_ties_from : Fun K "ties_from" "ties_from" zbV a.ties_from a.fd_ties_from
 g_ties_from : mg "ties_from" = some (.ref a.ties_from)
 b_ties_from : za1 K a.fd_ties_from ["web","worms"] []
 F_count_to : Fun K "count_to" "count_to" zci a.count_to a.fd_count_to
 g_count_to : mg "count_to" = some (.ref a.count_to)
 b_count_to : za1 K a.fd_count_to ["ties","worm","delay"] []
 F_coming_behind : Fun K "coming_behind" "coming_behind" zbe a.coming_behind a.fd_coming_behind
 g_coming_behind : mg "coming_behind" = some (.ref a.coming_behind)
 b_coming_behind : za1 K a.fd_coming_behind ["web","coming","glowed"] []
 F_phases_at_first : Fun K "phases_at_first" "phases_at_first" zbc a.phases_at_first a.fd_phases_at_first
 g_phases_at_first : mg "phases_at_first" = some (.ref a.phases_at_first)
 b_phases_at_first : za1 K a.fd_phases_at_first ["web","stand"] []
 F_tick : Fun K "tick" "tick" zed a.tick a.fd_tick
 g_tick : mg "tick" = some (.ref a.tick)
 b_tick : za1 K a.fd_tick ["web","stand"] []
 F_is_ring : Fun K "is_ring" "is_ring" zdd a.is_ring a.fd_is_ring
 g_is_ring : mg "is_ring" = some (.ref a.is_ring)
 b_is_ring : za1 K a.fd_is_ring ["web","stand","told"] []
 F_law_pen : Fun K "_law_pen" "_law_pen" zdc a.law_pen a.fd_law_pen
 g_law_pen : mg "_law_pen" = some (.ref a.law_pen)
 b_law_pen : za1 K a.fd_law_pen ["_law_script","_law_k"] []
 F_law_draw : Fun K "_law_draw" "_law_draw" zcE a.law_draw a.fd_law_draw
 g_law_draw : mg "_law_draw" = some (.ref a.law_draw)
 b_law_draw : za1 K a.fd_law_draw ["_law_pen_here","_law_many"] []
 F_law_ties : Fun K "_law_ties" "_law_ties" zck a.law_ties a.fd_law_ties
 g_law_ties : mg "_law_ties" = some (.ref a.law_ties)
 b_law_ties : za1 K a.fd_law_ties ["_law_pen_here","_law_many","_law_great"] []
 F_law_web : Fun K "_law_web" "_law_web" zcm a.law_web a.fd_law_web
 g_law_web : mg "_law_web" = some (.ref a.law_web)
 b_law_web : za1 K a.fd_law_web ["_law_pen_here","_law_most"] []
 F_law_long : Fun K "_law_long" "_law_long" zbE a.law_long a.fd_law_long
 g_law_long : mg "_law_long" = some (.ref a.law_long)
 b_law_long : za1 K a.fd_law_long ["_law_pen_here"] []
 F_law_phase : Fun K "_law_phase" "_law_phase" zcn a.law_phase a.fd_law_phase
 g_law_phase : mg "_law_phase" = some (.ref a.law_phase)
 b_law_phase : za1 K a.fd_law_phase ["_law_web_here","_law_worm","_law_phase_here","_law_many"] []
 F_law_coming : Fun K "_law_coming" "_law_coming" zbk a.law_coming a.fd_law_coming
 g_law_coming : mg "_law_coming" = some (.ref a.law_coming)
 b_law_coming : za1 K a.fd_law_coming ["_law_web_here","_law_coming_here","_law_gone"] []
 F_law_tick : Fun K "_law_tick" "_law_tick" zbN a.law_tick a.fd_law_tick
 g_law_tick : mg "_law_tick" = some (.ref a.law_tick)
 b_law_tick : za1 K a.fd_law_tick ["_law_web_here","_law_stand"] []
 F_law_begin : Fun K "_law_begin" "_law_begin" zco a.law_begin a.fd_law_begin
 g_law_begin : mg "_law_begin" = some (.ref a.law_begin)
 b_law_begin : za1 K a.fd_law_begin ["_law_pen_here","_law_web_here"] []
 F_law_stands : Fun K "_law_stands" "_law_stands" zb1 a.law_stands a.fd_law_stands
 g_law_stands : mg "_law_stands" = some (.ref a.law_stands)
 b_law_stands : za1 K a.fd_law_stands ["_law_web_here","_law_stand","_law_most"] []
 F_law_bent : Fun K "_law_bent" "_law_bent" zcD a.law_bent a.fd_law_bent
 g_law_bent : mg "_law_bent" = some (.ref a.law_bent)
 b_law_bent : za1 K a.fd_law_bent ["_law_pen_here","_law_lead","_law_again"] []
 F_law_written : Fun K "_law_written" "_law_written" zbl a.law_written a.fd_law_written
 g_law_written : mg "_law_written" = some (.ref a.law_written)
 b_law_written : za1 K a.fd_law_written ["_law_stand"] []
 F_law_twins : Fun K "_law_twins" "_law_twins" zcq a.law_twins a.fd_law_twins
 g_law_twins : mg "_law_twins" = some (.ref a.law_twins)
 b_law_twins : za1 K a.fd_law_twins ["_law_lead","_law_again"] []
 F_law_due : Fun K "_law_due" "_law_due" zcK a.law_due a.fd_law_due
 g_law_due : mg "_law_due" = some (.ref a.law_due)
 b_law_due : za1 K a.fd_law_due ["_law_web_here","_law_stand","_law_told"] []
 F_law_same : Fun K "_law_same" "_law_same" zcG a.law_same a.fd_law_same
 g_law_same : mg "_law_same" = some (.ref a.law_same)
 b_law_same : za1 K a.fd_law_same ["_law_found","_law_due_here"] []
 F_law : Fun K "law" "law" zh7 a.law a.fd_law
 g_law : mg "law" = some (.ref a.law)
 b_law : za1 K a.fd_law ["_law_script"] []
 z_all : mg "all" = none
 z_bool : mg "bool" = none
 z_enumerate : mg "enumerate" = none
 z_int : mg "int" = none
 z_isinstance : mg "isinstance" = none
 z_len : mg "len" = none
 z_list : mg "list" = none
 z_min : mg "min" = none
 z_range : mg "range" = none
 z_set : mg "set" = none
 z_sorted : mg "sorted" = none
 z_str : mg "str" = none
 z_tuple : mg "tuple" = none
 z_zip : mg "zip" = none
 g_NoWeb : mg "NoWeb" = some (.ref a.C_NoWeb)
 x_NoWeb : VJ K a.C_NoWeb zoK "ValueError.__new__" = true
 c_MOST_WORMS : ∃ t,mg "MOST_WORMS" = some (.int 8 t)
 c_MOST_ROUND : ∃ t,mg "MOST_ROUND" = some (.int 60 t)
 c_MOST_UP : ∃ t,mg "MOST_UP" = some (.int 60 t)
 c_MOST_TIES : ∃ t,mg "MOST_TIES" = some (.int 60 t)
 c_MOST_DELAY : ∃ t,mg "MOST_DELAY" = some (.int 4 t)
end G
open L2 GM in
local macro_rules | `(tactic| wtm_at "is")=>`(tactic| first
 | assumption
 | exact zbf.mpr rfl
 | exact zc6.mpr rfl
 | exact zd8.mpr rfl
 | exact zf0.mpr rfl
 | exact Is.thru (by assumption) (by wtm_at "same")
 | exact Is.thruN (by assumption) (by wtm_at "keep")
 | exact Is.thruR (by assumption) (by wtm_at "keep")
 | ((with_reducible apply is_tupAt); (focus assumption); (focus wtm_at "isall"); wtm_at "same")
 | ((with_reducible apply is_lstAt); (focus assumption); (focus wtm_at "isall"); wtm_at "same")
 | ((with_reducible apply is_dctAt); (focus assumption); wtm_at "same")
 | fail "is")
open L2 GM in
local macro_rules | `(tactic| wtm_at "isall")=>`(tactic| first
 | exact IsAll.nil
 | exact IsAll.cons (by wtm_at "is") (by wtm_at "isall")
 | fail "isall")
open L2 GM in
local macro_rules | `(tactic| wtm_at "ne")=>`(tactic| first
 | assumption
 | (apply vH; assumption))
/- a list that stands at an address -/
open L2 GM in
local macro_rules | `(tactic| wtm_at "lst")=>`(tactic| first
 | assumption
 | exact zag.at (by assumption) (by wtm_at "lst")
 | exact Exc.at (by assumption) (by wtm_at "ne") (by wtm_at "lst")
 | fail "lst")
open L2 GM in
local macro_rules | `(tactic| wtm_at "same")=>`(tactic| first
 | assumption
 | exact zag.refl _
 | exact zag.back (by assumption) (by wtm_at "same")
 | fail "same")
open L2 GM in
local macro_rules | `(tactic| wtm_at "keep")=>`(tactic| first
 | assumption
 | exact zaM.refl _
 | exact zag.keep (by assumption)
 | exact zaM.back (by assumption) (by wtm_at "keep")
 | exact zaM.back (zag.keep (by assumption)) (by wtm_at "keep")
 | fail "keep")
open L2 GM in
local macro_rules | `(tactic| wtm_at "exc")=>`(tactic| first
 | assumption
 | exact Exc.refl _ _
 | exact Exc.back (by assumption) (by wtm_at "exc")
 | exact Exc.back (zag.exc (by assumption)) (by wtm_at "exc")
 | fail "exc")
open L2 GM in
local macro_rules | `(tactic| wtm_at "sqf")=>`(tactic| first
 | assumption
 | exact zaM.sqF (by wtm_at "keep") (by assumption)
 | fail "sqf")
/- how great -/
open L2 GM in
local macro_rules | `(tactic| wtm_at "bd")=>`(tactic| first
 | assumption
 | exact Bd.mk (n:=128) (by decide)
 | exact Bd.mono (m:=128) ⟨by decide⟩ (by decide)
 | exact Bdr.t (by assumption)
 | exact Bdr.b (by assumption)
 | exact Bd.of128 (by omega) (by omega)
 | (apply Bd.neg; wtm_at "bd")
 | (apply Bd.mul; (focus wtm_at "bd"); wtm_at "bd")
 | (apply Bd.add; (focus wtm_at "bd"); wtm_at "bd")
 | (apply Bd.sub; (focus wtm_at "bd"); wtm_at "bd"))
open L2 GM PySem in
local macro_rules | `(tactic| wtm_at "mulok")=>`(tactic| first
 | exact QU (by decide)
 | exact Q9 (by decide)
 | exact QU (intBits_le_64 (by omega) (by omega))
 | exact Q9 (intBits_le_64 (by omega) (by omega))
 | (apply L2.MulBd; (focus wtm_at "bd"); (focus wtm_at "bd"); (focus decide); decide))
open L2 GM PySem in
local macro_rules | `(tactic| wtm_at "side")=>`(tactic| first
 | assumption
 | decide
 | omega
 | wtm_at "mulok"
 | (refine And.intro ?_ ?_ <;> wtm_at "side")
 | wtm_at "bd")
open L2 GM in
local macro_rules | `(tactic| wtm_at "gs")=>`(tactic| first
 | wtm_at "sq"
 | with_reducible (first | refine zr6 ?_ | refine zrP ?_ | refine zrZ ?_ | refine zra ?_)
 | ((with_reducible apply zho); (focus rfl))
 | with_reducible (first | refine ztz ?_ | refine zl6 ?_ | refine znZ ?_ | refine zl1 ?_ | refine zto ?_ | refine zog ?_ | refine zp1 ?_ | refine zq5 ?_ | refine zr5 ?_ | refine zrr ?_ | refine zrM ?_ | refine zqm ?_)
 | ((with_reducible apply zoH); (focus wtm_at "side"))
 | with_reducible (first | refine zth ?_ | refine zsB ?_ | refine zpO ?_ | refine zsy ?_ | refine zss ?_ | refine zrs ?_ | refine zmM ?_ | refine zpT ?_)
 | with_reducible refine zqa (λ _=>?_) (λ _=>?_)
 | with_reducible refine znc (λ _=>?_) (λ _=>?_)
 | with_reducible refine zqn (λ _=>?_) (λ _=>?_)
 | with_reducible (first | refine zrD ?_ | refine zsJ ?_ | refine zrF ?_ | refine zp0 ?_ | refine zqe ?_ | refine zr7 ?_ | refine zpU ?_ | refine zqG ?_ | refine zpK ?_ | refine zp4 ?_ | refine zqs ?_ | refine zsg ?_ | refine zhE ?_ | refine zo4 ?_ | refine zpJ ?_ | refine zpw ?_)
 | ((with_reducible apply zcb); (focus (apply SqL.of; wtm_at "lst")); (focus rfl))
 | ((with_reducible apply zds); (focus assumption); (focus rfl); intro hN eN lN; dsimp only [Int.reduceToNat,Qv,Qw] at lN)
 | ((with_reducible apply zo6); (focus wtm_at "is"))
 | ((with_reducible apply zkt); (focus wtm_at "is"))
 | dsimp only [Qv,Qw])
/- one statement behind another: what follows stands behind a name -/
set_option hygiene false in
open L2 GM in
local macro_rules | `(tactic| wtm_at "sq")=>`(tactic| with_reducible refine zqu (λ tl_ htl_=>?_))
set_option hygiene false in
open L2 GM in
local macro_rules | `(tactic| wtm_at "tl")=>`(tactic| ((with_reducible refine zjg.go (by assumption) ?_); (try clear htl_ tl_)))
/- how great a number is -/
open L2 GM in
local macro_rules | `(tactic| wtm_at "bdr0")=>`(tactic| first
 | assumption
 | exact Bdr.zero
 | exact Bdr.one
 | exact Bdr.four
 | (apply Bdr.add; (focus wtm_at "bdr0"); wtm_at "bdr0")
 | (apply Bdr.sub; (focus wtm_at "bdr0"); wtm_at "bdr0")
 | (apply Bdr.mul; (focus wtm_at "bdr0"); wtm_at "bdr0"))
open L2 GM in
local macro_rules | `(tactic| wtm_at "bdr")=>`(tactic| first
 | assumption
 | (apply Bdr.mono; (focus wtm_at "bdr0"); (first | decide | omega)))
/- .. with new tuples,lists,dicts -/
open L2 GM in
local macro_rules | `(tactic| wtm_at "ga1")=>`(tactic| first
 | wtm_at "gs"
 | ((with_reducible apply zbh); (focus (simp only [wU,VQ]; decide)); (focus wtm_at "isall"); intro _ _ _ _)
 | ((with_reducible apply zcX); (focus (simp only [wU,VQ]; decide)); intro _ _ _ _ _)
 | with_reducible refine zmc (λ _ _ _ _ _=>?_)
 | ((with_reducible apply zby); (focus wtm_at "lst"); (focus wtm_at "lst"); (focus (simp only [wf,wU,VQ]; decide)); intro _ _ _ _ _))
local macro_rules | `(tactic| wtm_at "ga")=>`(tactic| repeat' (first | wtm_at "ga1" | wtm_at "tl"))
local macro_rules | `(tactic| wtm_at "gg")=>`(tactic| repeat' (first | wtm_at "gs" | wtm_at "tl"))
local macro_rules | `(tactic| wtm_at "gt")=>`(tactic| repeat' (wtm_at "gs"))
open L2 GM in
local macro_rules | `(tactic| wtm_at "bd128")=>`(tactic| first
 | exact Bd.mono (m:=128) ⟨by decide⟩ (by decide)
 | exact (Bd.of128 (by omega) (by omega)).mono (by decide))
open L2 GM in
local macro_rules | `(tactic| wtm_at "gs")=>`(tactic| first
 | with_reducible (first | refine ztg ?_ | refine zml ?_ | refine zmA ?_ | refine zts ?_ | refine zmw ?_ | refine zoE ?_ | refine zjW ?_ | refine zeo ?_ | refine zo3 ?_ | refine zoi ?_ | refine zsC ?_ | refine zp7 ?_ | refine zpx ?_ | refine zoj ?_ | refine zmP ?_ | refine zrC ?_ | refine zpE ?_ | refine zr9 ?_ | refine ziH ?_)
 | with_reducible refine zp5 (λ _ _ _ _=>?_)
 | with_reducible (first | refine znA ?_ | refine zru ?_ | refine zpn ?_ | refine zmE ?_ | refine zoY ?_ | refine zok ?_ | refine vc_compV ?_ | refine vc_setD ?_ | refine zp3 ?_ | refine zry ?_ | refine znB ?_ | refine zm7 ?_ | refine zqB ?_ | refine zoq ?_)
 | ((with_reducible apply zcb); (focus (apply SqL.of; wtm_at "lst")); (focus rfl))
 | ((with_reducible apply zqq); (focus wtm_at "lst"); (focus omega); (focus omega); intro _ _)
 | ((with_reducible apply zqI); (focus wtm_at "lst"); (focus omega); (focus omega); intro _ _)
 | ((with_reducible apply zp2); (focus wtm_at "lst"); (focus omega); (focus omega); intro _ _))
namespace G
open PySem PySem.Spec PyProof.Rows L2 GM
section
variable {P : Program} {w : World} {K : wa} {mg : Str -> Option Value} {base : Heap} {a : Ad}
def isInt : PyData -> Bool
 | .int _=>true
 | _=>false
def zgs (K : wa) : Sp:=λ vs H Q _=>∃ x0,vs = [x0] /\ ∃ d,Is K H x0 d /\ Q (.bl (isInt d)) H
theorem zkf {K : wa} {H : Hp} {Q : VK} {E : XK} {v : V} {d : PyData} (h : Is K H v d) (q : Q (.bl (isInt d)) H) : zgs K [v] H Q E:=⟨v,rfl,d,h,q⟩
local macro_rules | `(tactic| wtm_at "gs")=>`(tactic| ((with_reducible apply zkf); (focus wtm_at "is")))
set_option maxHeartbeats 4000000 in
theorem zjJ (T : Txt K mg a) : zbB P w K mg base CX0 1 a.is_whole a.fd_is_whole ["thing"] (zgs K):=by
 refine T.F_is_whole.ok zkg (λ vs H Q E h=>by obtain ⟨_,rfl,_⟩:=h; rfl) (λ cdv A outer s H vs Q E hr h=>?_);obtain ⟨x0,rfl,h⟩:=h;have hu:=hr.units;refine ⟨_,(zaf (zas (zfh (zao (show zal _ (.builtin "isinstance") (zgu K) from zf6) rfl T.z_isinstance zcP (zaa (pv 0) (zaa (zfv (v:=.ty "int") rfl T.z_int zfj rfl) zab))) (zff (zrY (zao (show zal _ (.builtin "isinstance") (zgu K) from zf6) rfl T.z_isinstance zcP (zaa (pv 0) (zaa (zfv (v:=.ty "bool") rfl T.z_bool zl0 rfl) zab)))))))),?_⟩;clear hu
 try clear hgd
 try dsimp only [zbz,zbb]
 rw [show start ["thing"] [x0] = [some x0] from rfl];obtain ⟨d,hd,q⟩:=h;wtm_at "gg"
 all_goals (cases d <;> simp_all [isInt,zky,zrA])
def zfe (l m : Int) : PyData -> Bool
 | .int i=>decide (l <= i) && decide (i <= m)
 | _=>false
theorem zle {l m : Int} {d : PyData} (h : isInt d = false) : zfe l m d = false:=by cases d <;> first | rfl | cases h
def zdY (K : wa) : Sp:=λ vs H Q _=>∃ x0 x1 x2,vs = [x0,x1,x2] /\ ∃ (l m : Int) (d : PyData),x0 = .int l /\ x1 = .int m /\ Is K H x2 d /\ Q (.bl (zfe l m d)) H
theorem zdS {K : wa} {H : Hp} {Q : VK} {E : XK} {l m : Int} {v : V} {d : PyData} (h : Is K H v d) (q : Q (.bl (zfe l m d)) H) : zdY K [.int l,.int m,v] H Q E:=⟨_,_,_,rfl,l,m,d,rfl,rfl,h,q⟩
set_option maxHeartbeats 4000000 in
theorem zdP (T : Txt K mg a) : zbB P w K mg base CX0 2 a.is_whole_from a.fd_is_whole_from ["least","most","thing"] (zdY K):=by
 refine T.F_is_whole_from.ok zfV (λ vs H Q E h=>by obtain ⟨_,_,_,rfl,_⟩:=h; rfl) (λ cdv A outer s H vs Q E hr h=>?_);obtain ⟨x0,x1,x2,rfl,h⟩:=h;have hu:=hr.units;refine ⟨_,(zaf (zas (zfh (zai (zjJ T) (hr.mono (by decide)) rfl T.g_is_whole T.F_is_whole.kp T.b_is_whole .nil zaq (zaa (pv 2) zab)) (zff (zj7 zl8 zl8 (pv 0) (pv 2) (pv 1)))))),?_⟩;clear hu
 try clear hgd
 try dsimp only [zbz,zbb]
 rw [show start ["least","most","thing"] [x0,x1,x2] = [some x0,some x1,some x2] from rfl];obtain ⟨l,m,d,rfl,rfl,hd,q⟩:=h;have hc : (∃ i,d = .int i) \/ isInt d = false:=by cases d <;> simp [isInt]
 rcases hc with ⟨i,rfl⟩ | hn
 . cases zbf.mp hd
   have q : Q (.bl (decide (l <= i) && decide (i <= m))) H:=q;wtm_at "gg"
   . rename_i z
     rw [decide_eq_true z,Wx] at q;exact q
   . rename_i z
     rw [decide_eq_false z,WQ] at q;exact q
   . rename_i z; cases (show true = false from z)
 . rw [zle hn] at q
   wtm_at "gg"
   . rename_i z1; rw [hn] at z1; cases z1
   . exact q
def zdx (d : PyData) : Bool:=znv d || zow d
def zfH (K : wa) : Sp:=λ vs H Q _=>∃ x0,vs = [x0] /\ ∃ (d : PyData),Is K H x0 d /\ ∀ H',zag H H' -> Q (.bl (zdx d)) H'
theorem zc7 {K : wa} {H : Hp} {Q : VK} {E : XK} {v : V} {d : PyData} (h : Is K H v d) (q : ∀ H',zag H H' -> Q (.bl (zdx d)) H') : zfH K [v] H Q E:=⟨_,rfl,d,h,q⟩
set_option maxHeartbeats 4000000 in
theorem zc8 (T : Txt K mg a) : zbB P w K mg base CX0 1 a.is_listed a.fd_is_listed ["thing"] (zfH K):=by
 refine T.F_is_listed.ok zi2 (λ vs H Q E h=>by obtain ⟨_,rfl,_⟩:=h; rfl) (λ cdv A outer s H vs Q E hr h=>?_);obtain ⟨x0,rfl,h⟩:=h;have hu:=hr.units;refine ⟨_,(zaf (zas (zao (show zal _ (.builtin "isinstance") (zkB K) from zkK) rfl T.z_isinstance zcP (zaa (pv 0) (zaa (zaD (zaa (zfv (v:=.ty "list") rfl T.z_list zc9 rfl) (zaa (zfv (v:=.ty "tuple") rfl T.z_tuple zaN rfl) zab))) zab))))),?_⟩;clear hu
 try clear hgd
 try dsimp only [zbz,zbb]
 rw [show start ["thing"] [x0] = [some x0] from rfl];obtain ⟨d,hd,q⟩:=h;wtm_at "gg";refine zbC (by simp) (λ tp H1 _ S1 e1=>?_);wtm_at "gg";refine zmI (hd.by S1) e1 ?_;exact q H1 S1
def zbO : PyData -> List PyData
 | .list ds=>ds
 | .tuple ds=>ds
 | _=>[]
theorem zid {K : wa} {H : Hp} {v : V} {d : PyData} (h : Is K H v d) (e : zdx d = true) : Is K H v (.list (zbO d)) \/ Is K H v (.tuple (zbO d)):=by
 cases d <;> first | exact .inl h | exact .inr h | cases e
theorem zl3 {K : wa} {g : TG} {tt : TT} {te : TE} {src : List (Option Nat)} {σ : L2.St} {H : Hp} {Q : VK} {v : V} {ds : List PyData} {o0 : Option V} {tl : L2.St} (p : PyData -> Bool) (h : Is K H v (.list ds) \/ Is K H v (.tuple ds)) (hsrc : za0 src σ = o0 :: tl)
   (hs : ∀ D i x ys o H1,i < ds.length -> Is K H1 x (ds.getD i .none) -> zbZ H tl (λ (j : Nat) (y : V) (_ : Hp)=>y = V.bl (p (ds.getD j .none))) D i ys (o :: tl) H1 -> zeh (zbZ H tl (λ (j : Nat) (y : V) (_ : Hp)=>y = V.bl (p (ds.getD j .none)))) g tt te D i x (o :: tl) H1)
   (hd : ∀ D H',H D = none -> zag H H' -> H' D = some (.lst ((ds.map p).map V.bl)) -> Q (.ref D) H') : zha K g tt te src σ v H Q \/ ziy K g tt te src σ v H Q:=by
 have fin : ∀ (us : List V),us.length = ds.length -> ∀ (D : Addr) (ys : List V) (H' : Hp),H D = none -> zag H H' -> H' D = some (.lst ys) -> ys.length = us.length -> (∀ (j : Nat) (y : V),ys[j]? = some y -> y = V.bl (p (ds.getD j .none))) -> Q (.ref D) H':=λ us hul D ys H' hn S hD hl hr=>by
   have hys : ys = (ds.map p).map V.bl:=by
     refine We (by rw [hl,hul,wd,wd]) λ j h1 h2=>?_
     have:=hr j ys[j] (we h1);rw [this,vU,vU,wc,we]
     rfl
   subst hys;exact hd D H' hn S hD
 rcases h with h | h
 . obtain ⟨ap,us,rfl,hs',tu⟩:=zaF.mp h
   refine .inl (zgE hs' hsrc _ (λ D i x ys o H1 hx inv=>?_) λ D ys H' hn S hD hl hr=>fin us tu.length D ys H' hn S hD hl hr);obtain ⟨hi,ix⟩:=zd0 tu hx;exact hs D i x ys o H1 hi (ix.by inv.same) inv
 . obtain ⟨ap,us,rfl,hs',tu⟩:=zaI.mp h
   refine .inr (zeM hs' hsrc _ (λ D i x ys o H1 hx inv=>?_) λ D ys H' hn S hD hl hr=>fin us tu.length D ys H' hn S hD hl hr);obtain ⟨hi,ix⟩:=zd0 tu hx;exact hs D i x ys o H1 hi (ix.by inv.same) inv
theorem zhH {α : Type} (ds : List α) (p : α -> Bool) : (ds.map p).all id = ds.all p:=by rw [Xd]; rfl
def zdD (l m : Int) (d : PyData) : Bool:=zdx d && (zbO d).all (zfe l m)
def zdC (K : wa) : Sp:=λ vs H Q _=>∃ x0 x1 x2,vs = [x0,x1,x2] /\ ∃ (l m : Int) (d : PyData),x0 = .int l /\ x1 = .int m /\ Is K H x2 d /\ (zbO d).length <= 1000 /\ ∀ H',zag H H' -> Q (.bl (zdD l m d)) H'
theorem zcx {K : wa} {H : Hp} {Q : VK} {E : XK} {l m : Int} {v : V} {d : PyData} (h : Is K H v d) (z : (zbO d).length <= 1000) (q : ∀ H',zag H H' -> Q (.bl (zdD l m d)) H') : zdC K [.int l,.int m,v] H Q E:=⟨_,_,_,rfl,l,m,d,rfl,rfl,h,z,q⟩
set_option maxHeartbeats 4000000 in
theorem zcu (T : Txt K mg a) : zbB P w K mg base CX0 3 a.are_whole_from a.fd_are_whole_from ["least","most","thing"] (zdC K):=by
 refine T.F_are_whole_from.ok zfo (λ vs H Q E h=>by obtain ⟨_,_,_,rfl,_⟩:=h; rfl) (λ cdv A outer s H vs Q E hr h=>?_);obtain ⟨x0,x1,x2,rfl,h⟩:=h;have hu:=hr.units;refine ⟨_,(zaf (zas (zfh (zai (zc8 T) (hr.mono (by decide)) rfl T.g_is_listed T.F_is_listed.kp T.b_is_listed .nil zaq (zaa (pv 2) zab)) (zff (zao (show zal _ (.builtin "all") (zh6 K) from zeP rfl) rfl T.z_all ziP (zaa (zaV rfl (zaO.by (N':=["one","least","most"]) (src:=[none,some 0,some 1]) rfl (show zaK _ (zae za6).names ["least","most","thing"] ["one","least","most"] [none,some 0,some 1] = true from by decide +kernel)) (zgR (pv 2)) (λ _ _ _ _ _=>(zan (i:=0) (show (["one","least","most"] : List Str).Nodup from by decide) rfl (Or.inl rfl))) (λ _ _ _ _ _=>za7) (λ _ _ _ _ _=>(zai (zdP (K:=K) (mg:=mg) (a:=a) T) (hr.mono (by decide)) rfl T.g_is_whole_from T.F_is_whole_from.kp T.b_is_whole_from .nil zaq (zaa (pv 1) (zaa (pv 2) (zaa (pv 0) zab)))))) zab)))))),?_⟩;clear hu
 try clear hgd
 try dsimp only [zbz,zbb]
 rw [show start ["least","most","thing"] [x0,x1,x2] = [some x0,some x1,some x2] from rfl];obtain ⟨l,m,d,rfl,rfl,hd,hz,q⟩:=h;wtm_at "gg";refine zc7 hd (λ H1 S1=>?_);unfold zdD at q;cases e : zdx d with
 | false =>
   rw [e] at q;wtm_at "gg";exact q H1 S1
 | true =>
   rw [e] at q;wtm_at "gg";refine zl3 (zfe l m) (o0:=none) (tl:=[some (.int l),some (.int m)]) (zid (hd.by S1) e) rfl ?_ ?_
   . intro D i x ys o H2 hi ix inv
     wtm_at "gg";refine zdS ix ?_;wtm_at "gg";exact zbG inv (by omega) (λ _ _ _ _ _ z=>z) ⟨_,rfl⟩ (zag.refl _) rfl
   . intro D H2 hn S2 hD
     wtm_at "gg";refine zgJ (.of hD) ?_;rw [zhH];exact q H2 (S1.trans S2)
def zfA (d : PyData) : Bool:=zdD 1 60 d && (decide (1 <= (zbO d).length) && decide ((zbO d).length <= 8))
def zeZ (K : wa) : Sp:=λ vs H Q _=>∃ x0,vs = [x0] /\ ∃ (d : PyData),Is K H x0 d /\ (zbO d).length <= 1000 /\ ∀ H',zag H H' -> Q (.bl (zfA d)) H'
theorem zhS {K : wa} {H : Hp} {Q : VK} {E : XK} {v : V} {d : PyData} (h : Is K H v d) (z : (zbO d).length <= 1000) (q : ∀ H',zag H H' -> Q (.bl (zfA d)) H') : zeZ K [v] H Q E:=⟨_,rfl,d,h,z,q⟩
theorem zcS {K : wa} {H : Hp} {Q : VK} {v : V} {ds : List PyData} (h : Is K H v (.list ds) \/ Is K H v (.tuple ds)) (q : Q (.int (ds.length : Int)) H) : zb7 K [v] H Q:=by
 rcases h with h | h
 . obtain ⟨a,xs,rfl,hs,t⟩:=zaF.mp h
   exact zaS hs (by rw [t.length]; exact q)
 . exact zlN h q
set_option maxHeartbeats 4000000 in
theorem zhP (T : Txt K mg a) : zbB P w K mg base CX0 4 a.are_rounds a.fd_are_rounds ["thing"] (zeZ K):=by
 refine T.F_are_rounds.ok zhZ (λ vs H Q E h=>by obtain ⟨_,rfl,_⟩:=h; rfl) (λ cdv A outer s H vs Q E hr h=>?_);obtain ⟨x0,rfl,h⟩:=h;have hu:=hr.units;refine ⟨_,(zaf (zas (zfh (zai (zcu T) (hr.mono (by decide)) rfl T.g_are_whole_from T.F_are_whole_from.kp T.b_are_whole_from .nil zaq (zaa zad (zaa (zeq rfl T.c_MOST_ROUND) (zaa (pv 0) zab)))) (zff (zj7 zl8 zl8 zad (zao (show zal _ (.builtin "len") (zb7 K) from zax) rfl T.z_len za2 (zaa (pv 0) zab)) (zeq rfl T.c_MOST_WORMS)))))),?_⟩;clear hu
 try clear hgd
 try dsimp only [zbz,zbb]
 rw [show start ["thing"] [x0] = [some x0] from rfl];obtain ⟨d,hd,hz,q⟩:=h;wtm_at "gg";refine zcx hd hz (λ H1 S1=>?_);unfold zfA at q;cases e : zdD 1 60 d with
 | false =>
   rw [e] at q;wtm_at "gg";exact q H1 S1
 | true =>
   rw [e] at q
   have e1 : zdx d = true:=by
     unfold zdD at e;rw [wX] at e;exact e.1
   have q1:=q H1 S1;wtm_at "gg";refine zcS (zid (hd.by S1) e1) ?_;wtm_at "gg"
   . rename_i z1
     rw [decide_eq_true (show 1 <= (zbO d).length by omega),Wx,Wx,show decide ((zbO d).length <= 8) = decide (((zbO d).length : Int) <= 8) from decide_eq_decide.mpr (by omega)] at q1;exact q1
   . rename_i z1
     rw [decide_eq_false (show ¬ 1 <= (zbO d).length by omega),WQ,Wi] at q1;exact q1
def zdB (d : PyData) (ns : List Int) : Prop:=d = .list (ns.map .int) \/ d = .tuple (ns.map .int)
theorem zdB.listed {d : PyData} {ns : List Int} (h : zdB d ns) : zdx d = true /\ zbO d = ns.map .int:=by rcases h with rfl | rfl <;> exact ⟨rfl,rfl⟩
theorem zdB.is {K : wa} {H : Hp} {v : V} {d : PyData} {ns : List Int} (h : zdB d ns) (i : Is K H v d) : Is K H v (.list (ns.map .int)) \/ Is K H v (.tuple (ns.map .int)):=by rcases h with rfl | rfl; exact .inl i; exact .inr i
theorem zlr {l m : Int} {ns : List Int} (h : ∀ n ∈ ns,l <= n /\ n <= m) : (ns.map PyData.int).all (zfe l m) = true:=by
 rw [Xd,Wc];intro n hn
 show (decide (l <= n) && decide (n <= m)) = true
 rw [decide_eq_true (h n hn).1,decide_eq_true (h n hn).2]; rfl
theorem zdB.wholes {d : PyData} {ns : List Int} {l m : Int} (h : zdB d ns) (hn : ∀ n ∈ ns,l <= n /\ n <= m) : zdD l m d = true:=by
 unfold zdD;rw [h.listed.1,h.listed.2,zlr hn]; rfl
def ze0 (ds : List PyData) (rows : List (List Int)) : Prop:=ds.length = rows.length /\ ∀ i,i < rows.length -> zdB (ds.getD i .none) (rows.getD i [])
def zdM (d : PyData) (ds : List PyData) : Prop:=d = .list ds \/ d = .tuple ds
theorem zdM.is {K : wa} {H : Hp} {v : V} {d : PyData} {ds : List PyData} (h : zdM d ds) (i : Is K H v d) : Is K H v (.list ds) \/ Is K H v (.tuple ds):=by rcases h with rfl | rfl; exact .inl i; exact .inr i
theorem zdM.listed {d : PyData} {ds : List PyData} (h : zdM d ds) : zdx d = true /\ zbO d = ds:=by rcases h with rfl | rfl <;> exact ⟨rfl,rfl⟩
def zgK (K : wa) : Sp:=λ vs H Q _=>∃ x0 x1,vs = [x0,x1] /\ ∃ (d e : PyData) (ds : List PyData) (rs : List Int) (us : List (List Int)),Is K H x0 d /\ zdM d ds /\ ze0 ds us /\ Is K H x1 e /\ zdB e rs /\ us.length = rs.length /\ rs.length <= 8 /\ (∀ i,i < rs.length -> ((us.getD i []).length : Int) = rs.getD i 0 /\ (us.getD i []).length <= 60 /\ ∀ x ∈ us.getD i [],0 <= x /\ x <= 60) /\ ∀ H',zag H H' -> Q (.bl true) H'
theorem zkW {K : wa} {H : Hp} {Q : VK} {E : XK} {v w : V} {d e : PyData} {ds : List PyData} {rs : List Int} {us : List (List Int)} (h1 : Is K H v d) (h2 : zdM d ds) (h3 : ze0 ds us) (h4 : Is K H w e) (h5 : zdB e rs) (h6 : us.length = rs.length) (h7 : rs.length <= 8) (h8 : ∀ i,i < rs.length -> ((us.getD i []).length : Int) = rs.getD i 0 /\ (us.getD i []).length <= 60 /\ ∀ x ∈ us.getD i [],0 <= x /\ x <= 60) (q : ∀ H',zag H H' -> Q (.bl true) H') : zgK K [v,w] H Q E:=⟨_,_,rfl,d,e,ds,rs,us,h1,h2,h3,h4,h5,h6,h7,h8,q⟩
theorem zmh {ys : List V} (h : ∀ (j : Nat) (y : V),ys[j]? = some y -> y = .bl true) : ∃ bs : List Bool,ys = bs.map V.bl /\ bs.all id = true:=by
 refine ⟨wl ys.length true,We (by simp) λ j h1 h2=>?_,?_⟩
 . rw [h j ys[j] (we h1),vU,VG]
 . rw [Wc]
   intro b hb;exact (List.mem_replicate.mp hb).2
set_option maxHeartbeats 4000000 in
theorem zkx (T : Txt K mg a) : zbB P w K mg base CX0 4 a.are_ups a.fd_are_ups ["thing","rounds"] (zgK K):=by
 refine T.F_are_ups.ok zld (λ vs H Q E h=>by obtain ⟨_,_,rfl,_⟩:=h; rfl) (λ cdv A outer s H vs Q E hr h=>?_);obtain ⟨x0,x1,rfl,h⟩:=h;have hu:=hr.units
 refine ⟨_,(zac (zbm (PW.pt (zhO (zcW (zcY (zai (zc8 T) (hr.mono (by decide)) rfl T.g_is_listed T.F_is_listed.kp T.b_is_listed .nil zaq (zaa (pv 0) zab)))) (zgS (zau (show OpR _ (compareOp .NotEq) (zek K) from zdK hu) (zao (show zal _ (.builtin "len") (zb7 K) from zax) rfl T.z_len za2 (zaa (pv 0) zab)) (zao (show zal _ (.builtin "len") (zb7 K) from zax) rfl T.z_len za2 (zaa (pv 1) zab)) (zaH _))))) (zaf (zas zdq)) zaL)
     (zaf (zas (zao (show zal _ (.builtin "all") (zh6 K) from zeP rfl) rfl T.z_all ziP (zaa (zaV rfl (zaO.by (N':=["own","count"]) (src:=[none,none]) rfl (show zaK _ (zae zcB).names ["thing","rounds"] ["own","count"] [none,none] = true from by decide +kernel)) (zps rfl T.z_zip (zaa (pv 0) (zaa (pv 1) zab))) (λ _ _ _ _ _=>by exact (show PG _ _ (zmp K 2 _) from zcZ (n:=2) rfl (zaJ (zan (i:=0) (show (["own","count"] : List Str).Nodup from by decide) rfl (Or.inl rfl)) (zaJ (zan (i:=1) (show (["own","count"] : List Str).Nodup from by decide) rfl (Or.inl rfl)) zcf)))) (λ _ _ _ _ _=>za7) (λ _ _ _ _ _=>(zfh (zai (zcu (K:=K) (mg:=mg) (a:=a) T) (hr.mono (by decide)) rfl T.g_are_whole_from T.F_are_whole_from.kp T.b_are_whole_from .nil zaq (zaa zad (zaa (zeq rfl T.c_MOST_UP) (zaa (pv 0) zab)))) (zff (zdv (show OpR _ (compareOp .Eq) (zcV K) from zbI hu) (zao (show zal _ (.builtin "len") (zb7 K) from zax) rfl T.z_len za2 (zaa (pv 0) zab)) (pv 1) (zaH _)))))) zab))))),?_⟩
 clear hu
 try clear hgd
 try dsimp only [zbz,zbb]
 rw [show start ["thing","rounds"] [x0,x1] = [some x0,some x1] from rfl];obtain ⟨d,e,ds,rs,us,i0,sd,rd,i1,ie,hl,h8,hu,q⟩:=h;wtm_at "gg";refine zc7 i0 (λ H1 S1=>?_);rw [sd.listed.1];wtm_at "gg";refine zcS (sd.is (i0.by S1)) ?_;wtm_at "gg";refine zcS (ie.is (i1.by S1)) ?_;rw [wd,rd.1,hl];wtm_at "gg"
 . obtain ⟨t,a,xs,rfl,hx,tx⟩:=zo0 (sd.is (i0.by S1))
   obtain ⟨u,b,ys,rfl,hy,ty⟩:=zo0 (ie.is (i1.by S1));have lx:=tx.length;have ly:=ty.length;rw [wd] at ly;refine ⟨t,u,zlQ hx hy (by rw [lx,ly,rd.1,hl]) (o0:=none) (o0':=none) (tl:=[]) rfl (λ j y H'=>y = .bl true) (λ _ _ _ _ _ z=>z) ?_ ?_⟩
   . intro D i x y zs o1 o2 H2 c hx' hy' inv ec
     obtain ⟨hi,ix⟩:=zd0 tx hx';obtain ⟨hj,iy⟩:=zd0 ty hy';rw [wd] at hj
     have iyv : y = .int (rs.getD i 0):=by
       rw [wc,wE,we hj] at iy;rw [wc,we hj];exact zbf.mp iy
     subst iyv;have S2:=inv.2.2.1;obtain ⟨g1,g2,g3⟩:=hu i hj;have di:=rd.2 i (by omega);refine zeo (zcw (.of ec) rfl ?_);wtm_at "gg";refine zcx (ix.by S2) (by rw [di.listed.2,wd]; omega) (λ H3 S3=>?_);rw [di.wholes g3];wtm_at "gg";refine zcS (di.is ((ix.by S2).by S3)) ?_;rw [wd,g1];wtm_at "gg";exact ziz inv (by omega) (λ _ _ _ _ _ z=>z) ⟨_,_,rfl⟩ S3 (by rw [decide_eq_true rfl])
   . intro D zs H2 hn S2 hD hl2 hr
     obtain ⟨bs,rfl,hb⟩:=zmh hr;wtm_at "gg";refine zgJ (.of hD) ?_;rw [hb];exact q H2 (S1.trans S2)
def zh9 (K : wa) : Sp:=λ vs H Q _=>∃ x0 x1,vs = [x0,x1] /\ ∃ (d : PyData) (t : List Int) (n : Nat),Is K H x0 d /\ zdB d t /\ x1 = .int (n : Int) /\ zdh n t /\ ∀ H',zag H H' -> Q (.bl true) H'
theorem zmY {K : wa} {H : Hp} {Q : VK} {E : XK} {v : V} {d : PyData} {t : List Int} {n : Nat} (h1 : Is K H v d) (h2 : zdB d t) (h3 : zdh n t) (q : ∀ H',zag H H' -> Q (.bl true) H') : zh9 K [v,.int (n : Int)] H Q E:=⟨_,_,rfl,d,t,n,h1,h2,rfl,h3,q⟩
theorem ziX {K : wa} {H : Hp} {Q : VK} {v : V} {ns : List Int} {m : Int} (h : Is K H v (.list (ns.map .int)) \/ Is K H v (.tuple (ns.map .int))) (h0 : 0 <= m) (h1 : m < ns.length) (q : Q (.int (ns.getD m.toNat 0)) H) : rIx K v (.int m) H Q:=by
 rcases h with h | h
 . obtain ⟨a,xs,rfl,hs,t⟩:=zaF.mp h
   rw [zbA.mp t] at hs;obtain ⟨n,rfl⟩ : ∃ n : Nat,m = (n : Int):=⟨m.toNat,by omega⟩;refine zcb hs (zbP (j:=n) (v:=.int (ns.getD n 0)) ?_) q;rw [wE,wc,we (by omega)]
   rfl
 . exact zb6 h h0 h1 q
theorem zrS {K : wa} {H : Hp} {Q : VK} {v : V} {x y z : Int} (h : Is K H v (.list [.int x,.int y,.int z]) \/ Is K H v (.tuple [.int x,.int y,.int z])) (q : ∀ w e H',zag H H' -> Is K H' w e -> zdB e [x,y] -> Q w H') : zpk K v none (some 2) H Q:=by
 have ec : zfi [PyData.int x,.int y,.int z] none (some 2) = [.int x,.int y]:=rfl;rcases h with h | h
 . refine zlF h λ l H' ys hn S e t=>?_
   rw [ec] at t;exact q _ _ H' S (zaF.mpr ⟨l,ys,rfl,.of e,t⟩) (.inl rfl)
 . refine zjd h (show ¬ (HT.sIx 3 0 none = 0 /\ HT.sIx 3 3 (some 2) = 3) from by decide) λ w H' S i=>?_
   rw [ec] at i;exact q _ _ H' S i (.inr rfl)
set_option maxHeartbeats 4000000 in
theorem zmG (T : Txt K mg a) : zbB P w K mg base CX0 4 a.is_tie a.fd_is_tie ["thing","worms"] (zh9 K):=by
 refine T.F_is_tie.ok zm1 (λ vs H Q E h=>by obtain ⟨_,_,rfl,_⟩:=h; rfl) (λ cdv A outer s H vs Q E hr h=>?_);obtain ⟨x0,x1,rfl,h⟩:=h;have hu:=hr.units
 refine ⟨_,(zac (zbm (PW.pt (zhO (zcW (zcY (zai (zc8 T) (hr.mono (by decide)) rfl T.g_is_listed T.F_is_listed.kp T.b_is_listed .nil zaq (zaa (pv 0) zab)))) (zhO (zau (show OpR _ (compareOp .NotEq) (zek K) from zdK hu) (zao (show zal _ (.builtin "len") (zb7 K) from zax) rfl T.z_len za2 (zaa (pv 0) zab)) zad (zaH _)) (zgS (zcW (zcY (zai (zcu T) (hr.mono (by decide)) rfl T.g_are_whole_from T.F_are_whole_from.kp T.b_are_whole_from .nil zaq (zaa zad (zaa (zaw zf5 (pv 1) zad) (zaa (zaT zbq (pv 0) za5 (za4 zad)) zab)))))))))) (zaf (zas zdq)) zaL)
     (zaf (zas (zfh (zdv (show OpR _ (compareOp .NotEq) (zek K) from zdK hu) (zaj zah (pv 0) zad (λ _ _=>rfl)) (zaj zah (pv 0) zad (λ _ _=>rfl)) (zaH _)) (zff (zai (zdP T) (hr.mono (by decide)) rfl T.g_is_whole_from T.F_is_whole_from.kp T.b_is_whole_from .nil zaq (zaa zad (zaa (zeq rfl T.c_MOST_DELAY) (zaa (zaj zah (pv 0) zad (λ _ _=>rfl)) zab))))))))),?_⟩
 clear hu
 try clear hgd
 try dsimp only [zbz,zbb]
 rw [show start ["thing","worms"] [x0,x1] = [some x0,some x1] from rfl];obtain ⟨d,t,n,hd,di,rfl,⟨ta,tb,td,rfl,ha,hb,hab,hdl⟩,q⟩:=h;wtm_at "gg";refine zc7 hd (λ H1 S1=>?_);rw [di.listed.1];wtm_at "gg";refine zcS (di.is (hd.by S1)) ?_;rw [wd];wtm_at "gg"
 . rename_i z; exact absurd rfl z
 . refine zrS (di.is (hd.by S1)) (λ w e H2 S2 iw ie=>?_)
   wtm_at "gg";refine zcx iw (by rw [ie.listed.2]; simp) (λ H3 S3=>?_)
   rw [ie.wholes (λ x hx=>by
     simp only [wm,vI,or_false] at hx;rcases hx with rfl | rfl <;> omega)]
   have T3:=S1.trans (S2.trans S3);wtm_at "gg";refine ziX (di.is (hd.by T3)) (by decide) (by simp) ?_;wtm_at "gg";refine ziX (di.is (hd.by T3)) (by decide) (by simp) ?_;wtm_at "gg"
   . refine ziX (di.is (hd.by T3)) (by decide) (by simp) ?_
     wtm_at "gg";refine zdS (d:=.int (td : Int)) (zbf.mpr rfl) ?_
     rw [show zfe 0 4 (.int (td : Int)) = true from by
       show (decide ((0 : Int) <= (td : Int)) && decide ((td : Int) <= 4)) = true
       rw [decide_eq_true (by omega),decide_eq_true (by omega)]; rfl]
     exact q H3 T3
   . rename_i z
     exact absurd z (by simp; omega)
theorem ze0.at {ds : List PyData} {rows : List (List Int)} (h : ze0 ds rows) {i : Nat} (hi : i < ds.length) : i < rows.length /\ zdB (ds.getD i .none) (rows.getD i []):=⟨by rw [<- h.1]; exact hi,h.2 i (by rw [<- h.1]; exact hi)⟩
theorem zpF {rows : List (List Int)} {P : List Int -> Prop} (h : ∀ t ∈ rows,P t) {i : Nat} (hi : i < rows.length) : P (rows.getD i []):=by
 rw [wc,we hi];exact h _ (vb hi)
theorem zfT {K : wa} {src : List (Option Nat)} {σ : L2.St} {H : Hp} {Q : VK} {v : V} {ds : List PyData} {rows : List (List Int)} (h : Is K H v (.list ds) \/ Is K H v (.tuple ds)) (rd : ze0 ds rows) (z : ds.length <= 1000) (hsrc : za0 src σ = [none])
   (hd : ∀ D us H',H D = none -> zag H H' -> H' D = some (.lst us) -> IsAll K H' us (rows.map TZ) -> Q (.ref D) H') : zha K (zeY 0) zj9 (tCB (zaz K) (ziu (zjh 0) zmL)) src σ v H Q \/ ziy K (zeY 0) zj9 (tCB (zaz K) (ziu (zjh 0) zmL)) src σ v H Q:=by
 have st : ∀ D i x ys o H1,i < ds.length -> Is K H1 x (ds.getD i .none) -> zbZ H [] (λ (j : Nat) (y : V) (H' : Hp)=>Is K H' y (TZ (rows.getD j []))) D i ys (o :: []) H1 -> zeh (zbZ H [] (λ (j : Nat) (y : V) (H' : Hp)=>Is K H' y (TZ (rows.getD j [])))) (zeY 0) zj9 (tCB (zaz K) (ziu (zjh 0) zmL)) D i x (o :: []) H1:=λ D i x ys o H1 hi ix inv=>by
   refine zeo (zhE (zjW (zmM (zq5 (zl6 (zho rfl (znZ ?_)))))));rcases (rd.at hi).2 with e | e
   . rw [e] at ix
     exact zbn ix λ w H2 S2 i2=>zbG inv (by omega) (λ _ _ _ _ k z=>z.thruI k) ⟨_,rfl⟩ S2 i2
   . rw [e] at ix
     exact zhg ix (zbG inv (by omega) (λ _ _ _ _ k z=>z.thruI k) ⟨_,rfl⟩ (zag.refl _) ix)
 have fin : ∀ (us : List V),us.length = ds.length -> ∀ (D : Addr) (ys : List V) (H' : Hp),H D = none -> zag H H' -> H' D = some (.lst ys) -> ys.length = us.length -> (∀ (j : Nat) (y : V),ys[j]? = some y -> Is K H' y (TZ (rows.getD j []))) -> Q (.ref D) H':=λ us hul D ys H' hn S hD hl hr=>by
   refine hd D ys H' hn S hD (zfZ (by rw [wd,hl,hul,rd.1]) λ i x hx=>?_);have hi : i < rows.length:=by have:=zes hx; rw [hl,hul,rd.1] at this; exact this
   rw [wc,wE,we hi];have:=hr i x hx;rw [wc,we hi] at this;exact this
 rcases h with h | h
 . obtain ⟨ap,us,rfl,hs',tu⟩:=zaF.mp h
   refine .inl (zgE hs' (o0:=none) (tl:=[]) hsrc _ (λ D i x ys o H1 hx inv=>?_) λ D ys H' hn S hD hl hr=>fin us tu.length D ys H' hn S hD hl hr);obtain ⟨hi,ix⟩:=zd0 tu hx;exact st D i x ys o H1 hi (ix.by inv.same) inv
 . obtain ⟨ap,us,rfl,hs',tu⟩:=zaI.mp h
   refine .inr (zeM hs' (o0:=none) (tl:=[]) hsrc _ (λ D i x ys o H1 hx inv=>?_) λ D ys H' hn S hD hl hr=>fin us tu.length D ys H' hn S hD hl hr);obtain ⟨hi,ix⟩:=zd0 tu hx;exact st D i x ys o H1 hi (ix.by inv.same) inv
theorem zqj {K : wa} {w : World} {H : Hp} {Q : VK} {v : V} {ks : List (List Int)} (h : Is K H v (.list (ks.map TZ))) (z : ks.length <= 999) (nd : ks.Nodup) (q : ∀ (l : Addr) (H' : Hp) (ws : List V),H l = none -> zag H H' -> H' l = some (SetO w l ws) -> ws.length = ks.length -> Q (.ref l) H') : znN K w [v] H Q:=by
 obtain ⟨p,vs,rfl,hs,t⟩:=zaF.mp h;have hl:=t.length;rw [wd] at hl;refine ⟨p,vs,λ j=>ks.getD j [],rfl,hs,by omega,λ j v hv=>?_,λ l ws js h1 h2 h3 h4 h5=>?_⟩
 . obtain ⟨hj,ij⟩:=zd0 t hv
   rw [wd] at hj;rw [wc,wE,we hj] at ij
   show TpI K H v (ks.getD j [])
   rw [wc,we hj];exact zct.mp ij
 . refine q l _ ws h1 (zag.upd h1) zar ?_
   rw [h2]
   have pm : js.Perm ks:=by
     refine (qa h4 nd).mpr λ x=>(h5 x).trans ?_
     constructor
     . rintro ⟨j,hj,rfl⟩; exact GM.getD_mem (by omega)
     . intro hx
       obtain ⟨j,hj,e⟩:=zem [] hx;exact ⟨j,by omega,e⟩
   exact pm.length_eq
def zgr (K : wa) : Sp:=λ vs H Q _=>∃ x0 x1,vs = [x0,x1] /\ ∃ (d : PyData) (ds : List PyData) (ts : List (List Int)) (n : Nat),Is K H x0 d /\ zdM d ds /\ ze0 ds ts /\ x1 = .int (n : Int) /\ ts.length <= 60 /\ (∀ t ∈ ts,zdh n t) /\ ts.Nodup /\ ∀ H',zag H H' -> Q (.bl true) H'
theorem zjX {K : wa} {H : Hp} {Q : VK} {E : XK} {v : V} {d : PyData} {ds : List PyData} {ts : List (List Int)} {n : Nat} (h1 : Is K H v d) (h2 : zdM d ds) (h3 : ze0 ds ts) (h4 : ts.length <= 60) (h5 : ∀ t ∈ ts,zdh n t) (h6 : ts.Nodup) (q : ∀ H',zag H H' -> Q (.bl true) H') : zgr K [v,.int (n : Int)] H Q E:=⟨_,_,rfl,d,ds,ts,n,h1,h2,h3,rfl,h4,h5,h6,q⟩
set_option maxHeartbeats 4000000 in
theorem zkr (T : Txt K mg a) : zbB P w K mg base CX0 5 a.are_ties a.fd_are_ties ["thing","worms"] (zgr K):=by
 refine T.F_are_ties.ok zj5 (λ vs H Q E h=>by obtain ⟨_,_,rfl,_⟩:=h; rfl) (λ cdv A outer s H vs Q E hr h=>?_);obtain ⟨x0,x1,rfl,h⟩:=h;have hu:=hr.units
 refine ⟨_,(zac (zbm (PW.pt (zhO (zcW (zcY (zai (zc8 T) (hr.mono (by decide)) rfl T.g_is_listed T.F_is_listed.kp T.b_is_listed .nil zaq (zaa (pv 0) zab)))) (zhO (zau zlL (zao (show zal _ (.builtin "len") (zb7 K) from zax) rfl T.z_len za2 (zaa (pv 0) zab)) (zeq rfl T.c_MOST_TIES) (zaH _)) (zgS (zcW (zcY (zao (show zal _ (.builtin "all") (zh6 K) from zeP rfl) rfl T.z_all ziP (zaa (zaV rfl (zaO.by (N':=["tie","worms"]) (src:=[none,some 1]) rfl (show zaK _ (zae zbX).names ["thing","worms"] ["tie","worms"] [none,some 1] = true from by decide +kernel)) (zgR (pv 0)) (λ _ _ _ _ _=>(zan (i:=0) (show (["tie","worms"] : List Str).Nodup from by decide) rfl (Or.inl rfl))) (λ _ _ _ _ _=>za7) (λ _ _ _ _ _=>(zai (zmG (K:=K) (mg:=mg) (a:=a) T) (hr.mono (by decide)) rfl T.g_is_tie T.F_is_tie.kp T.b_is_tie .nil zaq (zaa (pv 0) (zaa (pv 1) zab))))) zab)))))))) (zaf (zas zdq)) zaL)
     (zaf (zas (zdv (show OpR _ (compareOp .Eq) (zcV K) from zbI hu) (zao (show zal _ (.builtin "len") (zre w) from zms) rfl T.z_len za2 (zaa (zak (show zal _ (.type "set") (znN K w) from zlm hu rfl) rfl T.z_set zrz (zaa (zaV rfl (zaO.by (N':=["tie"]) (src:=[none]) rfl (show zaK _ (zae zbX).names ["thing","worms"] ["tie"] [none] = true from by decide +kernel)) (zgR (pv 0)) (λ _ _ _ _ _=>(zan (i:=0) (show (["tie"] : List Str).Nodup from by decide) rfl (Or.inl rfl))) (λ _ _ _ _ _=>za7) (λ _ _ _ _ _=>(zak (show zal _ (.type "tuple") (zaz K) from zap) rfl T.z_tuple zaN (zaa (pv 0) zab)))) zab)) zab)) (zao (show zal _ (.builtin "len") (zb7 K) from zax) rfl T.z_len za2 (zaa (pv 0) zab)) (zaH _))))),?_⟩
 clear hu
 try clear hgd
 try dsimp only [zbz,zbb]
 rw [show start ["thing","worms"] [x0,x1] = [some x0,some x1] from rfl];obtain ⟨d,ds,ts,n,hd,sd,rd,rfl,hl,ht,nd,q⟩:=h;wtm_at "gg";refine zc7 hd (λ H1 S1=>?_);rw [sd.listed.1];wtm_at "gg";refine zcS (sd.is (hd.by S1)) ?_;rw [rd.1];wtm_at "gg"
 . rename_i z; exact absurd z (by omega)
 . refine zl3 (λ _=>true) (o0:=none) (tl:=[some (.int (n : Int))]) (sd.is (hd.by S1)) rfl ?_ ?_
   . intro D i x ys o H2 hi ix inv
     obtain ⟨hi',di⟩:=rd.at hi;wtm_at "gg";refine zmY ix di (zpF ht hi') (λ H3 S3=>?_);wtm_at "gg";exact zbG inv (by omega) (λ _ _ _ _ _ z=>z) ⟨_,rfl⟩ S3 rfl
   . intro D H2 hn S2 hD
     have T2:=S1.trans S2;wtm_at "gg";refine zgJ (.of hD) ?_;rw [zhH,show (ds.all λ _=>true) = true from by rw [Wc]; intros; rfl];wtm_at "gg";refine zfT (sd.is (hd.by T2)) rd (by rw [rd.1]; omega) rfl (λ D3 us H3 n3 S3 e3 t3=>?_);have T3:=T2.trans S3;wtm_at "gg";refine zqj (zaF.mpr ⟨D3,us,rfl,.of e3,t3⟩) (by omega) nd (λ l4 H4 ws n4 S4 e4 hw=>?_);wtm_at "gg";refine ⟨l4,ws,rfl,e4,?_⟩;wtm_at "gg";refine zcS (sd.is (hd.by (T3.trans S4))) ?_;rw [hw,rd.1];wtm_at "gg";rw [decide_eq_true rfl];exact q H4 (T3.trans S4)
structure zn5 (K : wa) (H : Hp) (v0 v1 v2 : V) (rs : List Int) (us ts : List (List Int)) : Prop where
 r : ∃ d,Is K H v0 d /\ zdB d rs
 u : ∃ d ds,Is K H v1 d /\ zdM d ds /\ ze0 ds us
 t : ∃ d ds,Is K H v2 d /\ zdM d ds /\ ze0 ds ts
 ok : zaU rs us ts
def ziv (K : wa) (a : Ad) : Sp:=λ vs H Q E=>∃ x0 x1 x2,vs = [x0,x1,x2] /\ ∃ (rs : List Int) (us ts : List (List Int)),zn5 K H x0 x1 x2 rs us ts /\ ∀ v H' ts',zag H H' -> ts'.Perm ts -> Is K H' v (zbF rs us ts') -> Q v H'
theorem zmR {K : wa} {a : Ad} {H : Hp} {Q : VK} {E : XK} {x y z : V} {rs : List Int} {us ts : List (List Int)} (h : zn5 K H x y z rs us ts) (q : ∀ v H' ts',zag H H' -> ts'.Perm ts -> Is K H' v (zbF rs us ts') -> Q v H') : ziv K a [x,y,z] H Q E:=⟨_,_,_,rfl,rs,us,ts,h,q⟩
theorem zlq {K : wa} {H : Hp} {Q : VK} {v : V} {ds : List PyData} (h : Is K H v (.list ds) \/ Is K H v (.tuple ds)) (q : ∀ w H',zag H H' -> Is K H' w (.tuple ds) -> Q w H') : zaz K [v] H Q:=by
 rcases h with h | h
 . exact zbn h q
 . exact zhg h (q v H (zag.refl _) h)
theorem zkc (rows : List (List Int)) : ze0 (rows.map TZ) rows:=⟨by rw [wd],λ i hi=>.inr (by rw [wc,wE,we hi,wc,we hi]; rfl)⟩
theorem zo7 {K : wa} {H : Hp} {x y z : V} {rs : List Int} {us ts : List (List Int)} (h0 : Is K H x (TZ rs)) (h1 : Is K H y (TTr us)) (h2 : Is K H z (TTr ts)) (ok : zaU rs us ts) : zn5 K H x y z rs us ts :=
 ⟨⟨_,h0,.inr rfl⟩,⟨_,_,h1,.inr rfl,zkc us⟩,⟨_,_,h2,.inr rfl,zkc ts⟩,ok⟩
set_option maxHeartbeats 4000000 in
theorem zmV (T : Txt K mg a) : zbB P w K mg base (CX1 P w) 6 a.web_of a.fd_web_of ["rounds","ups","ties"] (ziv K a):=by
 refine T.F_web_of.ok1 zmo (λ vs H Q E h=>by obtain ⟨_,_,_,rfl,_⟩:=h; rfl) (λ cdv A outer s H vs Q E hr h=>?_);obtain ⟨x0,x1,x2,rfl,h⟩:=h;have hu:=hr.units
 refine ⟨_,(zac (zbm (zcW (zcY (zai (zhP T) (hr.mono (by decide)) rfl T.g_are_rounds T.F_are_rounds.kp T.b_are_rounds .nil zaq (zaa (pv 0) zab)))) (zaf (zhs T.x_NoWeb rfl rfl T.g_NoWeb zkQ (zaa ziT zab))) zaL)
     (zac (zbm (zcW (zcY (zai (zkx T) (hr.mono (by decide)) rfl T.g_are_ups T.F_are_ups.kp T.b_are_ups .nil zaq (zaa (pv 1) (zaa (pv 0) zab))))) (zaf (zhs T.x_NoWeb rfl rfl T.g_NoWeb zkQ (zaa ziT zab))) zaL)
     (zac (zbm (zcW (zcY (zai (zkr T) (hr.mono (by decide)) rfl T.g_are_ties T.F_are_ties.kp T.b_are_ties .nil zaq (zaa (pv 2) (zaa (zao (show zal _ (.builtin "len") (zb7 K) from zax) rfl T.z_len za2 (zaa (pv 0) zab)) zab))))) (zaf (zhs T.x_NoWeb rfl rfl T.g_NoWeb zkQ (zaa ziT zab))) zaL)
     (zaf (zas (zaD (zaa (zak (show zal _ (.type "tuple") (zaz K) from zap) rfl T.z_tuple zaN (zaa (pv 0) zab)) (zaa (zak (show zal _ (.type "tuple") (zaz K) from zap) rfl T.z_tuple zaN (zaa (zaV rfl (zaO.by (N':=["own"]) (src:=[none]) rfl (show zaK _ (zae zcR).names ["rounds","ups","ties"] ["own"] [none] = true from by decide +kernel)) (zgR (pv 1)) (λ _ _ _ _ _=>(zan (i:=0) (show (["own"] : List Str).Nodup from by decide) rfl (Or.inl rfl))) (λ _ _ _ _ _=>za7) (λ _ _ _ _ _=>(zak (show zal _ (.type "tuple") (zaz K) from zap) rfl T.z_tuple zaN (zaa (pv 0) zab)))) zab)) (zaa (zak (show zal _ (.type "tuple") (zaz K) from zap) rfl T.z_tuple zaN (zaa (zao (show zal _ (.builtin "sorted") (zkN K) from zli) rfl T.z_sorted zmi (zaa (zaV rfl (zaO.by (N':=["tie"]) (src:=[none]) rfl (show zaK _ (zae zcR).names ["rounds","ups","ties"] ["tie"] [none] = true from by decide +kernel)) (zgR (pv 2)) (λ _ _ _ _ _=>(zan (i:=0) (show (["tie"] : List Str).Nodup from by decide) rfl (Or.inl rfl))) (λ _ _ _ _ _=>za7) (λ _ _ _ _ _=>(zak (show zal _ (.type "tuple") (zaz K) from zap) rfl T.z_tuple zaN (zaa (pv 0) zab)))) zab)) zab)) zab))))))))),?_⟩
 clear hu
 try clear hgd
 try dsimp only [zbz,zbb]
 rw [show start ["rounds","ups","ties"] [x0,x1,x2] = [some x0,some x1,some x2] from rfl];obtain ⟨rs,us,ts,⟨⟨d0,i0,e0⟩,⟨d1,ds1,i1,s1,r1⟩,⟨d2,ds2,i2,s2,r2⟩,ok⟩,q⟩:=h;have n8:=ok.n8;have n1:=ok.n1;wtm_at "gg";refine zhS i0 (by rw [e0.listed.2,wd]; omega) (λ H1 S1=>?_)
 rw [show zfA d0 = true from by
   unfold zfA;rw [e0.wholes ok.r,e0.listed.2,wd,decide_eq_true n1,decide_eq_true n8]; rfl]
 wtm_at "gg";refine zkW (i1.by S1) s1 r1 (i0.by S1) e0 ok.ul n8 (λ i hi=>?_) (λ H2 S2=>?_)
 . obtain ⟨h1,h2⟩:=ok.u i hi
   have:=ok.ri hi;exact ⟨h1,by omega,h2⟩
 have T2:=S1.trans S2;wtm_at "gg";refine zcS (e0.is (i0.by T2)) ?_;rw [wd];wtm_at "gg";refine zjX (i2.by T2) s2 r2 ok.tl ok.t ok.nd (λ H3 S3=>?_);have T3:=T2.trans S3;wtm_at "gg";refine zlq (e0.is (i0.by T3)) (λ w0 H4 S4 j0=>?_);have T4:=T3.trans S4;wtm_at "gg";refine zfT (s1.is (i1.by T4)) r1 (by rw [r1.1,ok.ul]; omega) rfl (λ D5 us5 H5 n5 S5 e5 t5=>?_);have T5:=T4.trans S5;wtm_at "gg";refine zbn (zaF.mpr ⟨D5,us5,rfl,.of e5,t5⟩) (λ w1 H6 S6 j1=>?_);have T6:=T5.trans S6;wtm_at "gg";refine zfT (s2.is (i2.by T6)) r2 (by have:=ok.tl; rw [r2.1]; omega) rfl (λ D7 us7 H7 n7 S7 e7 t7=>?_);have T7:=T6.trans S7;wtm_at "gg";refine zn4 (zaF.mpr ⟨D7,us7,rfl,.of e7,t7⟩) (by have:=ok.tl; omega) (λ k hk z=>?_) (λ l8 H8 us8 js n8' S8 e8 pm t8=>?_)
 . obtain ⟨x,y,c,e,_⟩:=ok.t k hk
   rw [e] at z; cases z
 wtm_at "gg";refine zbn (zaF.mpr ⟨l8,us8,rfl,.of e8,t8⟩) (λ w2 H9 S9 j2=>?_);wtm_at "gg";refine zbh (ds:=[TZ rs,TTr us,TTr js]) (by simp) (.cons (((j0.by S5).by S6).by (S7.trans (S8.trans S9))) (.cons (j1.by (S7.trans (S8.trans S9))) (.cons j2 .nil))) (λ v H10 S10 i10=>?_);exact q v H10 js (T7.trans (S8.trans (S9.trans S10))) pm i10
def zeI (K : wa) : Sp:=λ vs H Q _=>∃ x0,vs = [x0] /\ ∃ (rs : List Int) (us ts : List (List Int)),Is K H x0 (zbF rs us ts) /\ rs.length <= 8 /\ ∀ v H',zag H H' -> Is K H' v (TZ (wl rs.length 0)) -> Q v H'
theorem zhc {K : wa} {H : Hp} {Q : VK} {E : XK} {v : V} {rs : List Int} {us ts : List (List Int)} (h1 : Is K H v (zbF rs us ts)) (h8 : rs.length <= 8) (q : ∀ v H',zag H H' -> Is K H' v (TZ (wl rs.length 0)) -> Q v H') : zeI K [v] H Q E:=⟨_,rfl,rs,us,ts,h1,h8,q⟩
set_option maxHeartbeats 4000000 in
theorem zhf (T : Txt K mg a) : zbB P w K mg base CX0 1 a.none_coming a.fd_none_coming ["web"] (zeI K):=by
 refine T.F_none_coming.ok zhm (λ vs H Q E h=>by obtain ⟨_,rfl,_⟩:=h; rfl) (λ cdv A outer s H vs Q E hr h=>?_);obtain ⟨x0,rfl,h⟩:=h;have hu:=hr.units;refine ⟨_,(zaf (zas (zak (show zal _ (.type "tuple") (zaz K) from zap) rfl T.z_tuple zaN (zaa (zaV rfl (zaO.by (N':=["worm"]) (src:=[none]) rfl (show zaK _ (zae zbD).names ["web"] ["worm"] [none] = true from by decide +kernel)) (zdJ (zaj zah (pv 0) zad (λ _ _=>rfl))) (λ _ _ _ _ _=>(zan (i:=0) (show (["worm"] : List Str).Nodup from by decide) rfl (Or.inl rfl))) (λ _ _ _ _ _=>za7) (λ _ _ _ _ _=>zad)) zab)))),?_⟩;clear hu
 try clear hgd
 try dsimp only [zbz,zbb]
 rw [show start ["web"] [x0] = [some x0] from rfl];obtain ⟨rs,us,ts,hw,h8,q⟩:=h;wtm_at "gg";refine zcO hw (λ x ix=>?_);obtain ⟨b1,ys,rfl,hy,ty⟩:=zaI.mp ix;have ly:=ty.length;rw [wd] at ly;refine zeM hy (o0:=none) (tl:=[]) rfl (λ j y H'=>y = .int 0) ?_ ?_
 . intro D i x ys' o H2 hx inv
   have:=zes hx;wtm_at "gg";exact zbG inv (by omega) (λ _ _ _ _ _ z=>z) ⟨_,rfl⟩ (zag.refl _) rfl
 . intro D zs H2 hn S2 hD hl hr
   have hzs : zs = (wl rs.length (0 : Int)).map V.int:=by
     refine We (by rw [hl,ly,wd,VO]) λ j h1 h2=>?_
     have:=hr j zs[j] (we h1);rw [this,vU,VG]
   subst hzs;wtm_at "gg";refine zbr (.of hD) (λ l3 H3 n3 S3 e3=>?_);exact q _ H3 (S2.trans S3) (zct.mpr ⟨l3,rfl,.of e3⟩)
def zgi (K : wa) : Sp:=λ vs H Q _=>∃ x0 x1 x2 x3,vs = [x0,x1,x2,x3] /\ ∃ (u : List Int) (p m : Int),x0 = .int (u.length : Int) /\ Is K H x1 (TZ u) /\ x2 = .int p /\ x3 = .int m /\ 0 <= p /\ 0 <= m /\ m <= 1000 /\ (∀ x ∈ u,0 <= x /\ x <= 60) /\ Q (.int (zbg (u.length : Int) u m.toNat p)) H
theorem zgv {K : wa} {H : Hp} {Q : VK} {E : XK} {v : V} {u : List Int} {c p m : Int} (hc : c = (u.length : Int)) (h : Is K H v (TZ u)) (hp : 0 <= p) (h0 : 0 <= m) (h1 : m <= 1000) (hu : ∀ x ∈ u,0 <= x /\ x <= 60) (q : Q (.int (zbg c u m.toNat p)) H) : zgi K [.int c,v,.int p,.int m] H Q E:=by
 subst hc;exact ⟨_,_,_,_,rfl,u,p,m,rfl,h,rfl,rfl,hp,h0,h1,hu,q⟩
set_option maxHeartbeats 4000000 in
theorem zgc (T : Txt K mg a) : zbB P w K mg base CX0 1 a.moved_up a.fd_moved_up ["count","ups","phase","many"] (zgi K):=by
 refine T.F_moved_up.ok zex (λ vs H Q E h=>by obtain ⟨_,_,_,_,rfl,_⟩:=h; rfl) (λ cdv A outer s H vs Q E hr h=>?_);obtain ⟨x0,x1,x2,x3,rfl,h⟩:=h;have hu:=hr.units
 refine ⟨_,(zac (zcv wY rfl (zbv rfl T.z_range (zaa (pv 3) zab)) (zan (i:=4) zex.nd rfl (Or.inl rfl)) (zac (zbm (zau zlE (pv 2) (pv 0) (zaH _)) (zaf (zas (pv 2))) zaL)
     (zaf (zsu (i:=2) zex.nd rfl (Or.inl rfl) (zaj zah (pv 1) (pv 2) (λ _ _=>rfl)) zrp))))
     (zaf (zas (pv 2)))),?_⟩
 clear hu
 try clear hgd
 try dsimp only [zbz,zbb]
 rw [show start ["count","ups","phase","many","done"] [x0,x1,x2,x3] = [some x0,some x1,some x2,some x3,none] from rfl];obtain ⟨u,p,m,rfl,hu',rfl,rfl,hp,h0,h1,hu,q⟩:=h;wtm_at "gg";refine zdN (n:=m) (by omega) (by omega) (λ i σ H'=>∃ o4,σ = [some (.int (u.length : Int)),some x1,some (.int (zbg (u.length : Int) u i p)),some (.int m),o4] /\ H' = H) ⟨_,rfl,rfl⟩ ?_ ?_
 . rintro i σ H1 hi ⟨o4,rfl,rfl⟩
   have lo:=(zfm (c:=(u.length : Int)) hu i p).1;wtm_at "gg"
   . rename_i z
     have e : zbg (u.length : Int) u m.toNat p = zbg (u.length : Int) u i p:=by
       rw [show m.toNat = i + (m.toNat - i) by omega,<- zeL,zfW (by omega)]
     rw [e] at q;exact q
   . rename_i z
     refine zpR rfl ?_;wtm_at "gg";refine zb6 hu' (by omega) (by omega) ?_;refine zrW ?_;exact ⟨some (.int (i : Int)),by rw [zmg,if_neg (by omega)],rfl⟩
 . rintro σ H1 ⟨o4,rfl,rfl⟩
   wtm_at "gg";exact q
def zkh (K : wa) : Sp:=λ vs H Q _=>∃ x0 x1 x2,vs = [x0,x1,x2] /\ ∃ (rs ps : List Int) (us ts : List (List Int)) (lw lp : Addr) (l : List Nat),Is K H x0 (zbF rs us ts) /\ x1 = .ref lw /\ x2 = .ref lp /\ H lw = some (.lst (vz l)) /\ H lp = some (.lst (ps.map V.int)) /\ ps.length = rs.length /\ (∀ w ∈ l,w < rs.length) /\ l.length <= 8 /\ ∀ v H',zag H H' -> Is K H' v (TW (l.filter λ w=>decide (rs.getD w 0 <= ps.getD w 0))) -> Q v H'
theorem zj3 {K : wa} {H : Hp} {Q : VK} {E : XK} {v : V} {rs ps : List Int} {us ts : List (List Int)} {lw lp : Addr} {l : List Nat} (h : Is K H v (zbF rs us ts)) (h1 : H lw = some (.lst (vz l))) (h2 : H lp = some (.lst (ps.map V.int))) (h3 : ps.length = rs.length) (h4 : ∀ w ∈ l,w < rs.length) (h5 : l.length <= 8) (q : ∀ v H',zag H H' -> Is K H' v (TW (l.filter λ w=>decide (rs.getD w 0 <= ps.getD w 0))) -> Q v H') : zkh K [v,.ref lw,.ref lp] H Q E:=⟨_,_,_,rfl,rs,ps,us,ts,lw,lp,l,h,rfl,rfl,h1,h2,h3,h4,h5,q⟩
theorem zc4 {p : Nat -> Bool} {l : List Nat} {i : Nat} (h : i < l.length) : (l.take (i + 1)).filter p = (l.take i).filter p ++ if p l[i] then [l[i]] else []:=by
 rw [zjz h,W5];cases e : p l[i] <;> simp [e]
theorem zhh (a b : List Nat) : vz (a ++ b) = vz a ++ vz b:=wB ..
theorem zdF {K : wa} {H : Hp} {Q : VK} {p : Addr} {ns : List Int} {m : Int} (h : SqL K H p (ns.map V.int)) (h0 : 0 <= m) (h1 : m < ns.length) (q : Q (.int (ns.getD m.toNat 0)) H) : rIx K (.ref p) (.int m) H Q:=by
 obtain ⟨n,rfl⟩ : ∃ n : Nat,m = (n : Int):=⟨m.toNat,by omega⟩;refine zcb h (zbP (j:=n) (v:=.int (ns.getD n 0)) ?_) q;rw [wE,wc,we (by omega)]
 rfl
set_option maxHeartbeats 4000000 in
theorem zkp (T : Txt K mg a) : zbB P w K mg base CX0 1 a.ended a.fd_ended ["web","worms","phases"] (zkh K):=by
 refine T.F_ended.ok zoO (λ vs H Q E h=>by obtain ⟨_,_,_,rfl,_⟩:=h; rfl) (λ cdv A outer s H vs Q E hr h=>?_);obtain ⟨x0,x1,x2,rfl,h⟩:=h;have hu:=hr.units;refine ⟨_,(zaf (zas (zak (show zal _ (.type "tuple") (zaz K) from zap) rfl T.z_tuple zaN (zaa (zaV rfl (zaO.by (N':=["worm","phases","web"]) (src:=[none,some 2,some 0]) rfl (show zaK _ (zae zef).names ["web","worms","phases"] ["worm","phases","web"] [none,some 2,some 0] = true from by decide +kernel)) (zdt (pv 1)) (λ _ _ _ _ _=>(zan (i:=0) (show (["worm","phases","web"] : List Str).Nodup from by decide) rfl (Or.inl rfl))) (λ _ _ _ _ _=>(zd2 (zau zlE (zaj (show IxR _ (rIx K) from zah) (pv 1) (pv 0) (λ _ _=>rfl)) (zaj (show IxR _ (rIx K) from zah) (zaj (show IxR _ (rIx K) from zah) (pv 2) zad (λ _ _=>rfl)) (pv 0) (λ _ _=>rfl)) (zaH _)))) (λ _ _ _ _ _=>(pv 0))) zab)))),?_⟩;clear hu
 try clear hgd
 try dsimp only [zbz,zbb]
 rw [show start ["web","worms","phases"] [x0,x1,x2] = [some x0,some x1,some x2] from rfl];obtain ⟨rs,ps,us,ts,lw,lp,l,hw,rfl,rfl,ew,ep,hpl,hlt,h8,q⟩:=h;wtm_at "gg";refine zeg (.of ew) (λ D i ys σ' H'=>(∃ o,σ' = [o,some (.ref lp),some x0]) /\ H D = none /\ zag H H' /\ H' D = some (.lst ys) /\ ys = vz ((l.take i).filter λ w=>decide (rs.getD w 0 <= ps.getD w 0))) (λ D H' n s e=>⟨⟨_,rfl⟩,n,s,e,by simp [vz]⟩) (λ D i ys σ' H' h'=>.of (h'.2.2.1 _ _ ew)) ?_ ?_
 . rintro D i x ys σ' H1 hx ⟨⟨o,rfl⟩,nD,S1,eD,rfl⟩
   obtain ⟨hi,rfl⟩:=zjo hx;have hwl:=hlt _ (vb hi)
   have hz : (vz ((l.take i).filter λ w=>decide (rs.getD w 0 <= ps.getD w 0))).length <= 1000:=by
     have:=vO (λ w=>decide (rs.getD w 0 <= ps.getD w 0)) (l.take i);rw [wC] at this;rw [zcJ]; omega
   wtm_at "gg";refine zdF (.of (S1 _ _ ep)) (by omega) (by omega) ?_;wtm_at "gg";refine zcO (hw.by S1) (λ x2 i2=>?_);wtm_at "gg";refine zb6 i2 (by omega) (by omega) ?_;rw [wG];wtm_at "gg"
   . rename_i z
     refine zbS eD hz (λ H6 E6 e6=>⟨⟨_,rfl⟩,nD,S1.grow nD E6,e6,?_⟩);rw [zc4 hi,decide_eq_true (show rs.getD l[i] 0 <= ps.getD l[i] 0 by omega),zhh]; rfl
   . rename_i z
     refine ⟨_,⟨_,rfl⟩,nD,S1,eD,?_⟩;rw [zc4 hi,decide_eq_false (show ¬ rs.getD l[i] 0 <= ps.getD l[i] 0 by omega)]; simp
 . rintro D ys σ' H1 ⟨_,nD,S1,eD,rfl⟩
   rw [zcJ,Wd] at eD;wtm_at "gg";refine zbr (.of eD) (λ l2 H2 n2 S2 e2=>?_);exact q _ H2 (S1.trans S2) (znx.mpr ⟨l2,rfl,.of e2⟩)
def zc0 (ts : List (List Int)) (g : List Nat) : List (List Int):=ts.filter λ t=>decide ((t.getD 0 0).toNat ∈ g)
theorem zeb {p : List Int -> Bool} {l : List (List Int)} {i : Nat} (h : i < l.length) : (l.take (i + 1)).filter p = (l.take i).filter p ++ if p l[i] then [l[i]] else []:=by
 rw [qf,we h,W5];cases e : p l[i] <;> simp [e]
def zfx (K : wa) : Sp:=λ vs H Q _=>∃ x0 x1,vs = [x0,x1] /\ ∃ (rs : List Int) (us ts : List (List Int)) (lw : Addr) (g : List Nat),Is K H x0 (zbF rs us ts) /\ x1 = .ref lw /\ (SqL K H lw (vz g) \/ SqT K H lw (vz g)) /\ zaU rs us ts /\ ∀ l ks H',H l = none -> zag H H' -> H' l = some (.lst ks) -> IsAll K H' ks ((zc0 ts g).map TZ) -> Q (.ref l) H'
theorem zfJ {K : wa} {H : Hp} {Q : VK} {E : XK} {v : V} {rs : List Int} {us ts : List (List Int)} {lw : Addr} {g : List Nat} (h : Is K H v (zbF rs us ts)) (h1 : SqL K H lw (vz g) \/ SqT K H lw (vz g)) (ok : zaU rs us ts) (q : ∀ l ks H',H l = none -> zag H H' -> H' l = some (.lst ks) -> IsAll K H' ks ((zc0 ts g).map TZ) -> Q (.ref l) H') : zfx K [v,.ref lw] H Q E:=⟨_,_,rfl,rs,us,ts,lw,g,h,rfl,h1,ok,q⟩
theorem zi3 {K : wa} {H : Hp} {Q : VK} {p : Addr} {l : List Nat} {w : Nat} (h : SqL K H p (vz l) \/ SqT K H p (vz l)) (q : Q (.bl (decide (w ∈ l))) H) : rIn K false (.int (w : Int)) (.ref p) H Q:=by
 rcases h with h | h
 . exact zpB h q
 . exact zpC h q
theorem zeQ {K : wa} {H : Hp} {Q : VK} {p : Addr} {l : List Nat} {w : Nat} (h : SqL K H p (vz l) \/ SqT K H p (vz l)) (q : Q (.bl (!decide (w ∈ l))) H) : rIn K true (.int (w : Int)) (.ref p) H Q:=by
 rcases h with h | h
 . exact zkS h q
 . exact zk3 h q
theorem zoh {K : wa} {H H' : Hp} {p : Addr} {l : List Nat} (h : SqL K H p (vz l) \/ SqT K H p (vz l)) (s : zag H H') : SqL K H' p (vz l) \/ SqT K H' p (vz l):=h.imp (λ z=>s.seq z) (λ z=>s.sqT z)
theorem zi4 {K : wa} {H : Hp} {xs : List V} {ts : List (List Int)} {n i : Nat} {x : V} (t : IsAll K H xs (ts.map TZ)) (ok : ∀ t ∈ ts,zdh n t) (h : xs[i]? = some x) : ∃ (hi : i < ts.length) (a b d : Nat),ts[i] = [(a : Int),(b : Int),(d : Int)] /\ a < n /\ b < n /\ a ≠ b /\ d <= 4 /\ Is K H x (TZ [(a : Int),(b : Int),(d : Int)]):=by
 obtain ⟨hi,ix⟩:=zd0 t h;rw [wd] at hi;obtain ⟨a,b,d,e,h1,h2,h3,h4⟩:=ok _ (vb hi);refine ⟨hi,a,b,d,e,h1,h2,h3,h4,?_⟩;rw [wc,wE,we hi,e] at ix;exact ix
set_option maxHeartbeats 4000000 in
theorem zfz (T : Txt K mg a) : zbB P w K mg base CX0 1 a.ties_from a.fd_ties_from ["web","worms"] (zfx K):=by
 refine T.F_ties_from.ok ziR (λ vs H Q E h=>by obtain ⟨_,_,rfl,_⟩:=h; rfl) (λ cdv A outer s H vs Q E hr h=>?_);obtain ⟨x0,x1,rfl,h⟩:=h;have hu:=hr.units;refine ⟨_,(zaf (zas (zaV rfl (zaO.by (N':=["tie","worms"]) (src:=[none,some 1]) rfl (show zaK _ (zae zbV).names ["web","worms"] ["tie","worms"] [none,some 1] = true from by decide +kernel)) (zdJ (zaj zah (pv 0) zad (λ _ _=>rfl))) (λ _ _ _ _ _=>(zan (i:=0) (show (["tie","worms"] : List Str).Nodup from by decide) rfl (Or.inl rfl))) (λ _ _ _ _ _=>(zd2 (zau (show OpR _ (compareOp .In) (rIn K false) from zjp) (zaj (show IxR _ (rIx K) from zah) (pv 0) zad (λ _ _=>rfl)) (pv 1) (by with_unfolding_all rfl)))) (λ _ _ _ _ _=>(pv 0))))),?_⟩;clear hu
 try clear hgd
 try dsimp only [zbz,zbb]
 rw [show start ["web","worms"] [x0,x1] = [some x0,some x1] from rfl];obtain ⟨rs,us,ts,lw,g,hw,rfl,hg,ok,q⟩:=h;have tl:=ok.tl;wtm_at "gg";refine zgH hw (λ x2 i2=>?_);obtain ⟨at2,xs,rfl,hs2,t2⟩:=zaI.mp i2;have hxl:=t2.length;rw [wd] at hxl;refine zd7 hs2 (λ D i ys σ' H'=>(∃ o,σ' = [o,some (.ref lw)]) /\ H D = none /\ zag H H' /\ H' D = some (.lst ys) /\ IsAll K H' ys (((ts.take i).filter λ t=>decide ((t.getD 0 0).toNat ∈ g)).map TZ)) (λ D H' n s e=>⟨⟨_,rfl⟩,n,s,e,.nil⟩) (λ D i ys σ' H' h'=>h'.2.2.1.sqT hs2) ?_ ?_
 . rintro D i x ys σ' H1 hx ⟨⟨o,rfl⟩,nD,S1,eD,t1⟩
   obtain ⟨hi,ta,tb,td,et,h1,h2,h3,h4,ix⟩:=zi4 t2 ok.t hx
   have hz : ys.length <= 1000:=by
     have:=vO (λ t : List Int=>decide ((t.getD 0 0).toNat ∈ g)) (ts.take i);rw [wC] at this;rw [t1.length,wd]; omega
   have e0 : (([(ta : Int),(tb : Int),(td : Int)] : List Int).getD 0 0).toNat = ta:=by simp
   wtm_at "gg";refine zb6 (ix.by S1) (by decide) (by simp) ?_;rw [show ([(ta : Int),(tb : Int),(td : Int)] : List Int).getD (Qx 0) 0 = (ta : Int) from rfl];wtm_at "gg";refine zi3 (zoh hg S1) ?_;wtm_at "gg"
   . rename_i z
     refine zbS eD hz (λ H6 E6 e6=>⟨⟨_,rfl⟩,nD,S1.grow nD E6,e6,?_⟩);have k6:=E6.keep eD;rw [zeb hi,et,e0,decide_eq_true z,if_pos rfl,wB];exact (IsAll.keep k6 _ _ (zba _) t1).append (.cons ((ix.by S1).thruI k6) .nil)
   . rename_i z
     refine ⟨_,⟨_,rfl⟩,nD,S1,eD,?_⟩;rw [zeb hi,et,e0,decide_eq_false z,if_neg (by decide),vS];exact t1
 . rintro D ys σ' H1 ⟨_,nD,S1,eD,t1⟩
   rw [hxl,Wd] at t1;wtm_at "gg";exact q D ys H1 nD S1 eD t1
def zga (K : wa) : Sp:=λ vs H Q _=>∃ x0 x1 x2,vs = [x0,x1,x2] /\ ∃ (lt : Addr) (us : List V) (ts : List (List Int)) (g : List Nat) (n w d : Nat),x0 = .ref lt /\ x1 = .int (w : Int) /\ x2 = .int (d : Int) /\ H lt = some (.lst us) /\ IsAll K H us ((zc0 ts g).map TZ) /\ (∀ t ∈ ts,zdh n t) /\ ts.length <= 60 /\ ∀ H',zag H H' -> Q (.int (zcr ts g w d : Int)) H'
theorem zgo {K : wa} {H : Hp} {Q : VK} {E : XK} {lt : Addr} {us : List V} {ts : List (List Int)} {g : List Nat} {n w d : Nat} (e : H lt = some (.lst us)) (t : IsAll K H us ((zc0 ts g).map TZ)) (ok : ∀ t ∈ ts,zdh n t) (hl : ts.length <= 60) (q : ∀ H',zag H H' -> Q (.int (zcr ts g w d : Int)) H') : zga K [.ref lt,.int (w : Int),.int (d : Int)] H Q E:=⟨_,_,_,rfl,lt,us,ts,g,n,w,d,rfl,rfl,rfl,e,t,ok,hl,q⟩
theorem zr3 (ts : List (List Int)) (g : List Nat) (w d : Nat) : ((zc0 ts g).filter λ t=>decide (t.getD 1 0 = (w : Int)) && decide (t.getD 2 0 = (d : Int))).length = zcr ts g w d:=by
 unfold zc0 zcr;rw [V5]
 congr 1
 refine Vd λ t _=>?_
 unfold zdr;rw [xT]
set_option maxHeartbeats 4000000 in
theorem zgk (T : Txt K mg a) : zbB P w K mg base CX0 1 a.count_to a.fd_count_to ["ties","worm","delay"] (zga K):=by
 refine T.F_count_to.ok zjT (λ vs H Q E h=>by obtain ⟨_,_,_,rfl,_⟩:=h; rfl) (λ cdv A outer s H vs Q E hr h=>?_);obtain ⟨x0,x1,x2,rfl,h⟩:=h;have hu:=hr.units;refine ⟨_,(zaf (zas (zao (show zal _ (.builtin "len") (zb7 K) from zax) rfl T.z_len za2 (zaa (zaV rfl (zaO.by (N':=["tie","worm","delay"]) (src:=[none,some 1,some 2]) rfl (show zaK _ (zae zci).names ["ties","worm","delay"] ["tie","worm","delay"] [none,some 1,some 2] = true from by decide +kernel)) (zdt (pv 0)) (λ _ _ _ _ _=>(zan (i:=0) (show (["tie","worm","delay"] : List Str).Nodup from by decide) rfl (Or.inl rfl))) (λ _ _ _ _ _=>(zd2 (PW.pt (zeF (zau (show OpR _ (compareOp .Eq) (zcV K) from zbI hu) (zaj (show IxR _ (rIx K) from zah) (pv 0) zad (λ _ _=>rfl)) (pv 1) (zaH _)) (zd5 (zau (show OpR _ (compareOp .Eq) (zcV K) from zbI hu) (zaj (show IxR _ (rIx K) from zah) (pv 0) zad (λ _ _=>rfl)) (pv 2) (zaH _))))))) (λ _ _ _ _ _=>(pv 0))) zab)))),?_⟩;clear hu
 try clear hgd
 try dsimp only [zbz,zbb]
 rw [show start ["ties","worm","delay"] [x0,x1,x2] = [some x0,some x1,some x2] from rfl];obtain ⟨lt,us,ts,g,n,w,d,rfl,rfl,rfl,e0,t0,ok,hl,q⟩:=h;have ok' : ∀ t ∈ zc0 ts g,zdh n t:=λ t ht=>ok t (Wm.mp ht).1
 have hl' : (zc0 ts g).length <= 60:=wV (vO ..) hl;have hul : us.length = (zc0 ts g).length:=by rw [t0.length,wd]
 have hc:=zr3 ts g w d;generalize zc0 ts g = ks at *;wtm_at "gg";refine zeg (.of e0) (λ D i ys σ' H'=>(∃ o,σ' = [o,some (.int (w : Int)),some (.int (d : Int))]) /\ H D = none /\ zag H H' /\ H' D = some (.lst ys) /\ ys.length = ((ks.take i).filter λ t=>decide (t.getD 1 0 = (w : Int)) && decide (t.getD 2 0 = (d : Int))).length) (λ D H' n s e=>⟨⟨_,rfl⟩,n,s,e,rfl⟩) (λ D i ys σ' H' h'=>.of (h'.2.2.1 _ _ e0)) ?_ ?_
 . rintro D i x ys σ' H1 hx ⟨⟨o,rfl⟩,nD,S1,eD,t1⟩
   obtain ⟨hi,ta,tb,td,et,h1,h2,h3,h4,ix⟩:=zi4 t0 ok' hx
   have hz : ys.length <= 1000:=by
     have:=vO (λ t : List Int=>decide (t.getD 1 0 = (w : Int)) && decide (t.getD 2 0 = (d : Int))) (ks.take i);rw [wC] at this;omega
   have go : ∀ b : Bool,(decide ((tb : Int) = (w : Int)) && decide ((td : Int) = (d : Int))) = b -> ((ks.take (i + 1)).filter λ t=>decide (t.getD 1 0 = (w : Int)) && decide (t.getD 2 0 = (d : Int))).length = ((ks.take i).filter λ t=>decide (t.getD 1 0 = (w : Int)) && decide (t.getD 2 0 = (d : Int))).length + if b then 1 else 0:=λ b hb=>by
     rw [zeb hi,wf,et]
     show _ + QV (if (decide ((tb : Int) = (w : Int)) && decide ((td : Int) = (d : Int))) = true then [_] else []) = _
     rw [hb];cases b <;> rfl
   wtm_at "gg";refine zb6 (ix.by S1) (by decide) (by simp) ?_;rw [show ([(ta : Int),(tb : Int),(td : Int)] : List Int).getD (Qx 1) 0 = (tb : Int) from rfl];wtm_at "gg"
   . rename_i z
     refine zb6 (ix.by S1) (by decide) (by simp) ?_;rw [show ([(ta : Int),(tb : Int),(td : Int)] : List Int).getD (Qx 2) 0 = (td : Int) from rfl];wtm_at "gg"
     . rename_i z2
       refine zbS eD hz (λ H6 E6 e6=>⟨⟨_,rfl⟩,nD,S1.grow nD E6,e6,?_⟩);rw [go true (by rw [decide_eq_true z,decide_eq_true z2]; rfl),wf,t1]; rfl
     . rename_i z2
       refine ⟨_,⟨_,rfl⟩,nD,S1,eD,?_⟩;rw [go false (by rw [decide_eq_false z2,Wi]),t1]; rfl
   . rename_i z
     refine ⟨_,⟨_,rfl⟩,nD,S1,eD,?_⟩;rw [go false (by rw [decide_eq_false z,WQ]),t1]; rfl
 . rintro D ys σ' H1 ⟨_,nD,S1,eD,t1⟩
   rw [hul,Wd,hc] at t1;wtm_at "gg";refine zaS (.of eD) ?_;rw [t1];exact q H1 S1
def zdW (K : wa) : Sp:=λ vs H Q _=>∃ x0 x1 x2,vs = [x0,x1,x2] /\ ∃ (rs : List Int) (us ts cm : List (List Int)) (lg : Addr) (g : List Nat),Is K H x0 (zbF rs us ts) /\ zaU rs us ts /\ Is K H x1 (TTr cm) /\ cm.length = 4 /\ (∀ d,d < 4 -> (cm.getD d []).length = rs.length) /\ x2 = .ref lg /\ (SqL K H lg (vz g) \/ SqT K H lg (vz g)) /\ ∀ v H',zag H H' -> Is K H' v (TTr (zfN ts cm g rs.length)) -> Q v H'
theorem zfO {K : wa} {H : Hp} {Q : VK} {E : XK} {v w : V} {rs : List Int} {us ts cm : List (List Int)} {lg : Addr} {g : List Nat} (h : Is K H v (zbF rs us ts)) (ok : zaU rs us ts) (h2 : Is K H w (TTr cm)) (h3 : cm.length = 4) (h4 : ∀ d,d < 4 -> (cm.getD d []).length = rs.length) (h5 : SqL K H lg (vz g) \/ SqT K H lg (vz g)) (q : ∀ v H',zag H H' -> Is K H' v (TTr (zfN ts cm g rs.length)) -> Q v H') : zdW K [v,w,.ref lg] H Q E:=⟨_,_,_,rfl,rs,us,ts,cm,lg,g,h,ok,h2,h3,h4,rfl,h5,q⟩
def zbi (ts : List (List Int)) (g : List Nat) (row : List Int) (d n : Nat) : List Int:=(wo n).map λ w=>row.getD w 0 + (zcr ts g w d : Int)
theorem zlK {ts cm : List (List Int)} {g : List Nat} {n : Nat} (h4 : cm.length = 4) : zfN ts cm g n = (wo 4).map λ d=>zbi ts g ((cm.tail ++ [wl n 0]).getD d []) (d + 1) n:=by
 unfold zfN zbi;refine Wp λ d hd=>Wp λ w hw=>?_
 have hd:=wS.mp hd;have hw:=wS.mp hw
 congr 1
 obtain ⟨c0,cm,rfl⟩ : ∃ c0 r,cm = c0 :: r:=by
   cases cm with
   | nil=>cases h4
   | cons a b=>exact ⟨a,b,rfl⟩
 have h3 : cm.length = 3:=by simpa using h4
 rw [xz,List.getD_cons_succ];rcases wK d 3 with z | z
 . have e1 : (cm ++ [wl n (0 : Int)]).getD d [] = cm.getD d []:=by rw [wc,vv (by omega),wc]
   rw [e1]
 . have e : d = 3:=by omega
   subst e;have e1 : (cm ++ [wl n (0 : Int)]).getD 3 [] = wl n 0:=by rw [wc,vp (by omega),h3]; rfl
   have e2 : cm.getD 3 [] = []:=by rw [wc,wW (by omega)]; rfl
   rw [e1,e2,wc,wc,WZ,if_pos hw]; rfl
set_option maxHeartbeats 4000000 in
theorem zfQ (T : Txt K mg a) : zbB P w K mg base CX0 2 a.coming_behind a.fd_coming_behind ["web","coming","glowed"] (zdW K):=by
 refine T.F_coming_behind.ok zbJ (λ vs H Q E h=>by obtain ⟨_,_,_,rfl,_⟩:=h; rfl) (λ cdv A outer s H vs Q E hr h=>?_);obtain ⟨x0,x1,x2,rfl,h⟩:=h;have hu:=hr.units
 refine ⟨_,(zac (zam (i:=3) zbJ.nd rfl (Or.inr rfl) (zai (zfz T) (hr.mono (by decide)) rfl T.g_ties_from T.F_ties_from.kp T.b_ties_from .nil zaq (zaa (pv 0) (zaa (pv 2) zab))))
     (zac (zam (i:=4) zbJ.nd rfl (Or.inl rfl) (zaP zab))
     (zac (zcv wY rfl (zoC rfl T.z_enumerate (zaa (zaw (show OpR _ (binaryOp .Add) (zoc K) from zqz) (zaT zbq (pv 1) (za4 zad) za5) (zaD (zaa (zai (zhf T) (hr.mono (by decide)) rfl T.g_none_coming T.F_none_coming.kp T.b_none_coming .nil zaq (zaa (pv 0) zab)) zab))) zab)) (zcZ (n:=2) rfl (zaJ (zan (i:=5) zbJ.nd rfl (Or.inr rfl)) (zaJ (zan (i:=6) zbJ.nd rfl (Or.inl rfl)) zcf))) (zaf (zdw (ze3 vE vJ vK zb0 (pv 4) (zaa (zak (show zal _ (.type "tuple") (zaz K) from zap) rfl T.z_tuple zaN (zaa (zaV rfl (zaO.by (N':=["worm","many","ties","delay"]) (src:=[none,none,some 3,some 5]) rfl (show zaK _ (zae zbe).names ["web","coming","glowed","ties","told","delay","row"] ["worm","many","ties","delay"] [none,none,some 3,some 5] = true from by decide +kernel)) (zj1 rfl T.z_enumerate (zaa (pv 6) zab)) (λ _ _ _ _ _=>by exact (show PG _ _ (zmp K 2 _) from zcZ (n:=2) rfl (zaJ (zan (i:=0) (show (["worm","many","ties","delay"] : List Str).Nodup from by decide) rfl (Or.inl rfl)) (zaJ (zan (i:=1) (show (["worm","many","ties","delay"] : List Str).Nodup from by decide) rfl (Or.inl rfl)) zcf)))) (λ _ _ _ _ _=>za7) (λ _ _ _ _ _=>(zaw zaC (pv 1) (zai (zgk (K:=K) (mg:=mg) (a:=a) T) (hr.mono (by decide)) rfl T.g_count_to T.F_count_to.kp T.b_count_to .nil zaq (zaa (pv 2) (zaa (pv 0) (zaa (pv 3) zab))))))) zab)) zab)))))
     (zaf (zas (zak (show zal _ (.type "tuple") (zaz K) from zap) rfl T.z_tuple zaN (zaa (pv 4) zab))))))),?_⟩
 clear hu
 try clear hgd
 try dsimp only [zbz,zbb]
 rw [show start ["web","coming","glowed","ties","told","delay","row"] [x0,x1,x2] = [some x0,some x1,some x2,none,none,none,none] from rfl];obtain ⟨rs,us,ts,cm,lg,g,hw,ok,hc,h4,hrow,rfl,hg,q⟩:=h;have n8:=ok.n8;wtm_at "gg";refine zfJ hw hg ok (λ lt ks H1 n1 S1 e1 t1=>?_);wtm_at "ga";rename_i lo H2 n2 S2 e2;have nlt : lt ≠ lo:=λ z=>by subst z; rw [e1] at n2; cases n2
 have nlo0 : H lo = none:=zb3 S1 n2;have T2:=S1.trans S2;refine zjd (hc.by T2) (by rw [wd,h4]; decide) (λ w3 H3 S3 i3=>?_);rw [zio,<- xU] at i3;have T3:=T2.trans S3;wtm_at "gg";refine zhc (hw.by T3) n8 (λ w4 H4 S4 i4=>?_);have T4:=T3.trans S4;wtm_at "gg";refine zbh (ds:=[TZ (wl rs.length 0)]) (by simp) (.cons i4 .nil) (λ w5 H5 S5 i5=>?_);refine zob ((i3.by S4).by S5) i5 (by simp; omega) (λ w6 H6 S6 i6=>?_);have T6:=T4.trans (S5.trans S6)
 have i6 : Is K H6 w6 (TTr (cm.tail ++ [wl rs.length 0])):=by
   unfold TTr;rw [wB];exact i6
 have S16:=S2.trans (S3.trans (S4.trans (S5.trans S6)));have e16:=S16 _ _ e1;have t16 : IsAll K H6 ks ((zc0 ts g).map TZ):=IsAll.same S16 _ _ t1;have eo6:=(S3.trans (S4.trans (S5.trans S6))) _ _ e2
 have hCl : ∀ d,d < 4 -> ((cm.tail ++ [wl rs.length 0]).getD d []).length = rs.length:=λ d hd=>by
   rcases wK d 3 with z | z
   . have : (cm.tail ++ [wl rs.length 0]).getD d [] = cm.getD (d + 1) []:=by
       rw [wc,vv (by rw [vL]; omega),Qy,wc]
     rw [this];exact hrow (d + 1) (by omega)
   . have e : d = 3:=by omega
     subst e;rw [wc,vp (by rw [vL]; omega),vL,h4];simp
 have hCt : (cm.tail ++ [wl rs.length 0]).length = 4:=by rw [wf,vL,h4]; rfl
 have hcg:=zlK (ts:=ts) (g:=g) (n:=rs.length) h4;generalize cm.tail ++ [wl rs.length 0] = C at *;clear i3 i4 i5 S3 S4 S5 S6 T3 T4 T2 S16 S2 e1 t1 S1;obtain ⟨ac,cus,rfl,hsc,tc⟩:=zaI.mp i6;have hcl:=tc.length;rw [wd,hCt] at hcl;have hws:=hw.by T6;wtm_at "gg"
 refine zkH hsc (λ i σ H'=>∃ (o5 o6 : Option V) (rows : List V),σ = [some x0,some x1,some (.ref lg),some (.ref lt),some (.ref lo),o5,o6] /\ (∀ b o,b ≠ lo -> H6 b = some o -> H' b = some o) /\ zaM H6 H' /\ H' lo = some (.lst rows) /\ IsAll K H' rows (((wo i).map λ d=>zbi ts g (C.getD d []) (d + 1) rs.length).map TZ))
   ⟨_,_,[],rfl,λ b o _ h=>h,zaM.refl _,eo6,.nil⟩ (λ i σ H' _ ⟨_,_,_,_,_,k,_⟩=>k.sqT hsc) ?_ ?_
 . rintro i x σ H7 c H8 hx ⟨o5,o6,rows,rfl,X7,K7,e7,t7⟩ hc8 S8 e8
   have hi : i < 4:=by have:=zes hx; omega
   obtain ⟨hi',ix⟩:=zd0 tc hx;rw [wc,wE,we (by omega)] at ix;have hrl:=hCl i hi;rw [wc,we (by omega)] at hrl;have egd : C.getD i [] = C[i]:=by rw [wc,we (by omega)]; rfl
   rw [show ((i : Int) + 1) = ((i + 1 : Nat) : Int) from rfl] at e8;have X8 : ∀ b o,b ≠ lo -> H6 b = some o -> H8 b = some o:=λ b o hb h=>S8 b o (X7 b o hb h)
   have K8:=K7.trans S8.keep;have elt8:=X8 _ _ nlt e16;have t8 : IsAll K H8 ks ((zc0 ts g).map TZ):=IsAll.keep K8 _ _ (zba _) t16;have elo8:=S8 _ _ e7;have tr8 : IsAll K H8 rows (((wo i).map λ d=>zbi ts g (C.getD d []) (d + 1) rs.length).map TZ):=IsAll.same S8 _ _ t7;have hrl8 : rows.length = i:=by rw [t7.length,wd,wd,vc]
   have ix8 : Is K H8 x (TZ C[i]):=Is.thruI ix K8;obtain ⟨ar,rfl,hsr⟩:=zct.mp ix8;refine zcw (.of e8) rfl ?_;wtm_at "gg";refine zec (.of elo8) ?_;wtm_at "gg";have hrl : C[i].length = rs.length:=hrl;refine zjP hsr (λ D j ys σ' H'=>(∃ o1 o2,σ' = [o1,o2,some (.ref lt),some (.int ((i + 1 : Nat) : Int))]) /\ H8 D = none /\ zag H8 H' /\ H' D = some (.lst (((wo j).map λ w=>C[i].getD w 0 + (zcr ts g w (i + 1) : Int)).map V.int))) (λ D H' n s e=>⟨⟨_,_,rfl⟩,n,s,e⟩) (λ D j ys σ' H' h'=>h'.2.2.1.sqT hsr) ?_ ?_
   . rintro D j y ys σ' H9 c9 H10 hy ⟨⟨o1,o2,rfl⟩,nD,S9,eD⟩ hc9 S10 e10
     obtain ⟨hj,rfl⟩:=zfR hy;have T10:=S9.trans S10;refine zeo (zcw (.of e10) rfl ?_);wtm_at "gg";refine zgo (T10 _ _ elt8) (IsAll.same T10 _ _ t8) ok.t ok.tl (λ H11 S11=>?_);wtm_at "gg";refine zbS (S11 _ _ (S10 _ _ eD)) (by simp; omega) (λ H12 E12 e12=>⟨⟨_,_,rfl⟩,nD,(T10.trans S11).grow nD E12,?_⟩);rw [e12,WJ,wB,wB]
     rfl
   . rintro D ys σ' H9 ⟨_,nD,S9,eD⟩
     rw [wd,hrl] at eD;wtm_at "gg";refine zbr (.of eD) (λ l10 H10 n10 S10 e10=>?_);have elo10:=S10 _ _ (S9 _ _ elo8);wtm_at "gg";refine zcC elo10 (by omega) (λ H11 E11 e11=>?_);have K11:=E11.keep elo10;have K811:=S9.keep.trans (S10.keep.trans K11);wtm_at "gg";refine ⟨_,_,rows ++ [.ref l10],rfl,λ b o hb h=>E11 b o hb (S10 b o (S9 b o (X8 b o hb h))),K8.trans K811,e11,?_⟩;rw [WJ,wB,wB];refine (IsAll.keep K811 _ _ (zba _) tr8).append (.cons ?_ .nil)
     show Is K H11 (.ref l10) (TZ (zbi ts g (C.getD i []) (i + 1) rs.length))
     rw [egd];exact Is.thruI (zct.mpr ⟨l10,rfl,.of e10⟩) K11
 . rintro σ H7 ⟨o5,o6,rows,rfl,X7,K7,e7,t7⟩
   rw [hcl,<- hcg] at t7;wtm_at "gg";refine zbn (zaF.mpr ⟨lo,rows,rfl,.of e7,t7⟩) (λ w8 H8 S8 i8=>?_);exact q w8 H8 (λ b o h=>S8 b o (X7 b o (zay h nlo0) (T6 b o h))) i8
def zc2 (rs : List Int) (us : List (List Int)) (ps cs : List Int) (n : Nat) : List Int:=(wo n).map λ w=>zbg (rs.getD w 0) (us.getD w []) (cs.getD w 0).toNat (ps.getD w 0 + 1)
def zdl (K : wa) : Sp:=λ vs H Q _=>∃ x0 x1,vs = [x0,x1] /\ ∃ (rs ps : List Int) (us ts cm : List (List Int)),Is K H x0 (zbF rs us ts) /\ zaU rs us ts /\ Is K H x1 (StD ps cm) /\ za8 rs ps cm /\ ∀ l H',H l = none -> zag H H' -> H' l = some (.lst ((zc2 rs us ps (cm.getD 0 []) rs.length).map V.int)) -> Q (.ref l) H'
theorem ze6 {K : wa} {H : Hp} {Q : VK} {E : XK} {v w : V} {rs ps : List Int} {us ts cm : List (List Int)} (h : Is K H v (zbF rs us ts)) (ok : zaU rs us ts) (h2 : Is K H w (StD ps cm)) (so : za8 rs ps cm) (q : ∀ l H',H l = none -> zag H H' -> H' l = some (.lst ((zc2 rs us ps (cm.getD 0 []) rs.length).map V.int)) -> Q (.ref l) H') : zdl K [v,w] H Q E:=⟨_,_,rfl,rs,ps,us,ts,cm,h,ok,h2,so,q⟩
set_option maxHeartbeats 4000000 in
theorem zfc (T : Txt K mg a) : zbB P w K mg base CX0 2 a.phases_at_first a.fd_phases_at_first ["web","stand"] (zdl K):=by
 refine T.F_phases_at_first.ok zbM (λ vs H Q E h=>by obtain ⟨_,_,rfl,_⟩:=h; rfl) (λ cdv A outer s H vs Q E hr h=>?_);obtain ⟨x0,x1,rfl,h⟩:=h;have hu:=hr.units
 refine ⟨_,(zac (zam (i:=2) zbM.nd rfl (Or.inl rfl) (zaP zab))
     (zac (zcv wY rfl (zj1 rfl T.z_enumerate (zaa (zaj zah (zaj zah (pv 1) zad (λ _ _=>rfl)) zad (λ _ _=>rfl)) zab)) (zcZ (n:=2) rfl (zaJ (zan (i:=3) zbM.nd rfl (Or.inl rfl)) (zaJ (zan (i:=4) zbM.nd rfl (Or.inl rfl)) zcf))) (zaf (zdw (ze3 vE vJ vK zb0 (pv 2) (zaa (zai (zgc T) (hr.mono (by decide)) rfl T.g_moved_up T.F_moved_up.kp T.b_moved_up .nil zaq (zaa (zaj zah (zaj zah (pv 0) zad (λ _ _=>rfl)) (pv 3) (λ _ _=>rfl)) (zaa (zaj zah (zaj zah (pv 0) zad (λ _ _=>rfl)) (pv 3) (λ _ _=>rfl)) (zaa (zaw zaC (zaj zah (zaj zah (pv 1) zad (λ _ _=>rfl)) (pv 3) (λ _ _=>rfl)) zad) (zaa (pv 4) zab))))) zab)))))
     (zaf (zas (pv 2))))),?_⟩
 clear hu
 try clear hgd
 try dsimp only [zbz,zbb]
 rw [show start ["web","stand","told","worm","many"] [x0,x1] = [some x0,some x1,none,none,none] from rfl];obtain ⟨rs,ps,us,ts,cm,hw,ok,hs,so,q⟩:=h;have n8:=ok.n8;wtm_at "ga";rename_i lo H1 n1 S1 e1;refine ziL (hs.by S1) (λ x2 i2=>?_);wtm_at "gg";refine zep i2 (by decide) (by rw [so.cl]; decide) (λ x3 i3=>?_);obtain ⟨hcl,hcb⟩:=so.c 0 (by decide);have i3 : Is K H1 x3 (TZ (cm.getD 0 [])):=i3;generalize cm.getD 0 [] = cs at *;obtain ⟨ac,rfl,hsc⟩:=zct.mp i3;have hw1:=hw.by S1;have hs1:=hs.by S1
 refine zm6 hsc (λ i σ H'=>∃ (o3 o4 : Option V),σ = [some x0,some x1,some (.ref lo),o3,o4] /\ zag H H' /\ H' lo = some (.lst ((zc2 rs us ps cs i).map V.int)) /\ Is K H' x0 (zbF rs us ts) /\ Is K H' x1 (StD ps cm) /\ SqT K H' ac (cs.map V.int))
   ⟨_,_,rfl,S1,e1,hw1,hs1,hsc⟩ (λ i σ H' _ ⟨_,_,_,_,_,_,_,h⟩=>h) ?_ ?_
 . rintro i x σ H2 c H3 hx ⟨o3,o4,rfl,S2,e2,hw2,hs2,hsc2⟩ hc3 S3 e3
   obtain ⟨hi,rfl⟩:=zfR hx;have hi' : i < rs.length:=by omega
   have hcr:=hcb i hi';have hps:=so.p i hi';obtain ⟨hul,hub⟩:=ok.u i hi';refine zcw (.of e3) rfl ?_;wtm_at "gg";refine zec (.of (S3 _ _ e2)) ?_;wtm_at "gg";refine zcO (hw2.by S3) (λ x4 i4=>?_);wtm_at "gg";refine zb6 i4 (by omega) (by omega) ?_;rw [wG];wtm_at "gg";refine zgB (hw2.by S3) (λ x5 i5=>?_);wtm_at "gg";refine zep i5 (by omega) (by rw [ok.ul]; omega) (λ x6 i6=>?_);rw [wG] at i6;wtm_at "gg";refine zoy (hs2.by S3) (λ x7 i7=>?_);wtm_at "gg";refine zb6 i7 (by omega) (by rw [so.pl]; omega) ?_;rw [wG];wtm_at "gg";refine zgv hul.symm i6 (by omega) hcr.1 (by omega) hub ?_;wtm_at "gg";have e2':=S3 _ _ e2;refine zcC e2' (by simp [zc2]; omega) (λ H4 E4 e4=>?_);have k4:=E4.keep e2';wtm_at "gg";refine ⟨_,_,rfl,λ b o h=>E4 b o (zay h n1) (S3 b o (S2 b o h)),?_,(hw2.by S3).thruW k4,(hs2.by S3).thruS k4,k4.sqT (S3.sqT hsc2)⟩;rw [e4];unfold zc2;rw [WJ,wB,wB]
   rfl
 . rintro σ H2 ⟨o3,o4,rfl,S2,e2,hw2,hs2,hsc2⟩
   rw [wd,hcl] at e2;wtm_at "gg";exact q lo H2 n1 S2 e2
def zmb (K : wa) : Sp:=λ vs H Q _=>∃ x0 x1,vs = [x0,x1] /\ ∃ (rs ps : List Int) (us ts cm : List (List Int)),Is K H x0 (zbF rs us ts) /\ zaU rs us ts /\ Is K H x1 (StD ps cm) /\ za8 rs ps cm /\ ∀ v H',zag H H' -> Is K H' v (zkw (zdH rs us ts ps cm) (zb8 rs us ts ps cm) (zeC rs us ts ps cm)) -> Q v H'
theorem zqh {K : wa} {H : Hp} {Q : VK} {E : XK} {v w : V} {rs ps : List Int} {us ts cm : List (List Int)} (h : Is K H v (zbF rs us ts)) (ok : zaU rs us ts) (h2 : Is K H w (StD ps cm)) (so : za8 rs ps cm) (q : ∀ v H',zag H H' -> Is K H' v (zkw (zdH rs us ts ps cm) (zb8 rs us ts ps cm) (zeC rs us ts ps cm)) -> Q v H') : zmb K [v,w] H Q E:=⟨_,_,rfl,rs,ps,us,ts,cm,h,ok,h2,so,q⟩
def zb9 (n : Nat) (g : List Nat) : List Nat:=(wo n).filter λ w=>!decide (w ∈ g)
theorem zda {n w : Nat} {g : List Nat} : w ∈ zb9 n g ↔ w < n /\ w ∉ g:=by
 unfold zb9;rw [Wm,wS,Wl,decide_eq_false_iff_not]
theorem ziG (n : Nat) (g : List Nat) : (zb9 n g).length <= n:=by
 have:=vO (λ w=>!decide (w ∈ g)) (wo n);rw [vc] at this;exact this
theorem zmn (n : Nat) (g f : List Nat) : (zb9 n g).filter (λ w=>!decide (w ∈ f)) = zb9 n (g ++ f):=by
 unfold zb9;rw [V5];refine Vd λ w _=>?_
 rw [VU,wX,Wl,Wl,Wl,decide_eq_false_iff_not,decide_eq_false_iff_not,decide_eq_false_iff_not,wJ]
 constructor
 . rintro ⟨h1,h2⟩ (z | z)
   . exact h2 z
   . exact h1 z
 . intro h; exact ⟨λ z=>h (.inr z),λ z=>h (.inl z)⟩
theorem zhr {rs : List Int} {us ts : List (List Int)} {ps cs pw : List Int} {g : List Nat} (h : ∀ w,w < rs.length -> w ∉ g -> pw.getD w 0 = phG rs us ts ps cs g w) : (zb9 rs.length g).filter (λ w=>decide (rs.getD w 0 <= pw.getD w 0)) = GM.fresh rs us ts ps cs g:=by
 unfold zb9 GM.fresh;rw [V5];refine Vd λ w hw=>?_
 have hw:=wS.mp hw
 by_cases hg : w ∈ g
 . rw [decide_eq_true hg]; simp
 . rw [h w hw hg,xT]
theorem zjU (ts : List (List Int)) (w d : Nat) : zcr ts [] w d = 0:=by
 unfold zcr zdr;simp
theorem zgO {K : wa} {src : List (Option Nat)} {σ : L2.St} {H : Hp} {Q : VK} {la b : Addr} {l m : List Nat} (hl : H la = some (.lst (vz l))) (hm : SqL K H b (vz m) \/ SqT K H b (vz m)) (hsrc : za0 src σ = [none,some (.ref b)]) (z : l.length <= 1000)
   (q : ∀ D H',H D = none -> zag H H' -> H' D = some (.lst (vz (l.filter λ w=>!decide (w ∈ m)))) -> Q (.ref D) H') : zha K (zeY 0) (znU (tOp (rIn K true) (zjh 0) (zjh 1))) (zjh 0) src σ (.ref la) H Q:=by
 refine zeg (.of hl) (λ D i ys σ' H'=>(∃ o,σ' = [o,some (.ref b)]) /\ H D = none /\ zag H H' /\ H' D = some (.lst ys) /\ ys = vz ((l.take i).filter λ w=>!decide (w ∈ m))) (λ D H' n s e=>⟨⟨_,hsrc⟩,n,s,e,by simp [vz]⟩) (λ D i ys σ' H' h'=>.of (h'.2.2.1 _ _ hl)) ?_ ?_
 . rintro D i x ys σ' H1 hx ⟨⟨o,rfl⟩,nD,S1,eD,rfl⟩
   obtain ⟨hi,rfl⟩:=zjo hx
   have hz : (vz ((l.take i).filter λ w=>!decide (w ∈ m))).length <= 1000:=by
     have:=vO (λ w=>!decide (w ∈ m)) (l.take i);rw [wC] at this;rw [zcJ]; omega
   refine zeo (zhE (zl1 (zra (zho rfl (zho rfl (zeQ (zoh hm S1) (zog ?_)))))));cases e : decide (l[i] ∈ m) with
   | false =>
     refine zmM (zho rfl (zbS eD hz (λ H6 E6 e6=>⟨⟨_,rfl⟩,nD,S1.grow nD E6,e6,?_⟩)));rw [zc4 hi,e,zhh]; rfl
   | true =>
     refine zpT ⟨_,⟨_,rfl⟩,nD,S1,eD,?_⟩;rw [zc4 hi,e]; simp
 . rintro D ys σ' H1 ⟨_,nD,S1,eD,rfl⟩
   rw [zcJ,Wd] at eD;exact q D H1 nD S1 eD
theorem zpY {rs : List Int} {us ts : List (List Int)} {ps cs : List Int} {g f : List Nat} (h : ∀ x ∈ f,x ∉ g) (w : Nat) : zbg (rs.getD w 0) (us.getD w []) (zcr ts f w 0) (phG rs us ts ps cs g w) = phG rs us ts ps cs (g ++ f) w:=by
 unfold phG;rw [zeL,zhk h,Vk]
theorem zhi {xs : List Int} {i j : Nat} {x : Int} (hi : i < xs.length) : (xs.set i x).getD j 0 = if i = j then x else xs.getD j 0:=by
 rw [wc,List.getElem?_set]
 split
 . rename_i e
   subst e
   first | rfl | (rw [if_pos hi]; rfl)
 . rw [wc]
theorem map_set {xs : List Int} {i : Nat} {x : Int} : (xs.map V.int).set i (.int x) = (xs.set i x).map V.int:=by rw [List.map_set]
set_option maxHeartbeats 4000000 in
theorem zqE (T : Txt K mg a) : zbB P w K mg base CX0 3 a.tick a.fd_tick ["web","stand"] (zmb K):=by
 refine T.F_tick.ok zcg (λ vs H Q E h=>by obtain ⟨_,_,rfl,_⟩:=h; rfl) (λ cdv A outer s H vs Q E hr h=>?_);obtain ⟨x0,x1,rfl,h⟩:=h;have hu:=hr.units
 refine ⟨_,(zac (zam (i:=2) zcg.nd rfl (Or.inr rfl) (zai (zfc T) (hr.mono (by decide)) rfl T.g_phases_at_first T.F_phases_at_first.kp T.b_phases_at_first .nil zaq (zaa (pv 0) (zaa (pv 1) zab))))
     (zac (zam (i:=3) zcg.nd rfl (Or.inl rfl) (zjj rfl rfl T.z_list rfl T.z_range (zaa (zao (show zal _ (.builtin "len") (zb7 K) from zax) rfl T.z_len za2 (zaa (pv 2) zab)) zab)))
     (zac (zam (i:=4) zcg.nd rfl (Or.inr rfl) (pv 3))
     (zac (zam (i:=5) zcg.nd rfl (Or.inl rfl) (zaP zab))
     (zac (zam (i:=6) zcg.nd rfl (Or.inr rfl) (zai (zkp T) (hr.mono (by decide)) rfl T.g_ended T.F_ended.kp T.b_ended .nil zaq (zaa (pv 0) (zaa (pv 4) (zaa (pv 2) zab)))))
     (zac (zfl wY (zoM (pv 6)) (zac (zdw (ze3 vE vJ vK zb0 (pv 5) (zaa (pv 6) zab)))
     (zac (zam (i:=4) zcg.nd rfl (Or.inr rfl) (zaV rfl (zaO.by (N':=["worm","wave"]) (src:=[none,some 6]) rfl (show zaK _ (zae zed).names ["web","stand","phases","worms","left","waves","wave","ties","worm","anew","glowed"] ["worm","wave"] [none,some 6] = true from by decide +kernel)) (zdt (pv 4)) (λ _ _ _ _ _=>(zan (i:=0) (show (["worm","wave"] : List Str).Nodup from by decide) rfl (Or.inl rfl))) (λ _ _ _ _ _=>(zd2 (zau (show OpR _ (compareOp .NotIn) (rIn K true) from zd1) (pv 0) (pv 1) (by with_unfolding_all rfl)))) (λ _ _ _ _ _=>(pv 0))))
     (zac (zam (i:=7) zcg.nd rfl (Or.inl rfl) (zai (zfz T) (hr.mono (by decide)) rfl T.g_ties_from T.F_ties_from.kp T.b_ties_from .nil zaq (zaa (pv 0) (zaa (pv 6) zab))))
     (zac (zcv wY rfl (zdt (pv 4)) (zan (i:=8) zcg.nd rfl (Or.inl rfl)) (zaf (zeD (zai (zgc T) (hr.mono (by decide)) rfl T.g_moved_up T.F_moved_up.kp T.b_moved_up .nil zaq (zaa (zaj zah (zaj zah (pv 0) zad (λ _ _=>rfl)) (pv 8) (λ _ _=>rfl)) (zaa (zaj zah (zaj zah (pv 0) zad (λ _ _=>rfl)) (pv 8) (λ _ _=>rfl)) (zaa (zaj zah (pv 2) (pv 8) (λ _ _=>rfl)) (zaa (zai (zgk T) (hr.mono (by decide)) rfl T.g_count_to T.F_count_to.kp T.b_count_to .nil zaq (zaa (pv 7) (zaa (pv 8) (zaa zad zab)))) zab))))) (zd9 (pv 2) (pv 8) zcs))))
     (zaf (zam (i:=6) zcg.nd rfl (Or.inr rfl) (zai (zkp T) (hr.mono (by decide)) rfl T.g_ended T.F_ended.kp T.b_ended .nil zaq (zaa (pv 0) (zaa (pv 4) (zaa (pv 2) zab)))))))))))
     (zac (zam (i:=9) zcg.nd rfl (Or.inl rfl) (zak (show zal _ (.type "tuple") (zaz K) from zap) rfl T.z_tuple zaN (zaa (zaV rfl (zaO.by (N':=["worm","left","phases"]) (src:=[none,some 4,some 2]) rfl (show zaK _ (zae zed).names ["web","stand","phases","worms","left","waves","wave","ties","worm","anew","glowed"] ["worm","left","phases"] [none,some 4,some 2] = true from by decide +kernel)) (zdt (pv 3)) (λ _ _ _ _ _=>(zan (i:=0) (show (["worm","left","phases"] : List Str).Nodup from by decide) rfl (Or.inl rfl))) (λ _ _ _ _ _=>za7) (λ _ _ _ _ _=>(znw (zau (show OpR _ (compareOp .In) (rIn K false) from zjp) (pv 0) (pv 1) (by with_unfolding_all rfl)) (zaj (show IxR _ (rIx K) from zah) (pv 2) (pv 0) (λ _ _=>rfl)) zad))) zab)))
     (zac (zfk (i:=10) zcg.nd rfl (Or.inl rfl) rfl (zaO.by (N':=["worm","left"]) (src:=[none,some 4]) rfl (show zaK _ (zae zed).names ["web","stand","phases","worms","left","waves","wave","ties","worm","anew","glowed"] ["worm","left"] [none,some 4] = true from by decide +kernel)) (zdt (pv 3)) (λ _ _ _ _ _=>(zan (i:=0) (show (["worm","left"] : List Str).Nodup from by decide) rfl (Or.inl rfl))) (λ _ _ _ _ _=>(zd2 (zau (show OpR _ (compareOp .NotIn) (rIn K true) from zd1) (pv 0) (pv 1) (by with_unfolding_all rfl)))) (λ _ _ _ _ _=>(pv 0)))
     (zaf (zas (zaD (zaa (zak (show zal _ (.type "tuple") (zaz K) from zap) rfl T.z_tuple zaN (zaa (pv 5) zab)) (zaa (zaD (zaa (pv 9) (zaa (zai (zfQ T) (hr.mono (by decide)) rfl T.g_coming_behind T.F_coming_behind.kp T.b_coming_behind .nil zaq (zaa (pv 0) (zaa (zaj zah (pv 1) zad (λ _ _=>rfl)) (zaa (pv 10) zab)))) zab))) zab))))))))))))),?_⟩
 clear hu
 try clear hgd
 try dsimp only [zbz,zbb]
 rw [show start ["web","stand","phases","worms","left","waves","wave","ties","worm","anew","glowed"] [x0,x1] = [some x0,some x1,none,none,none,none,none,none,none,none,none] from rfl];obtain ⟨rs,ps,us,ts,cm,hw,ok,hs,so,q⟩:=h;have n8:=ok.n8;have n1:=ok.n1;wtm_at "gg";refine ze6 hw ok hs so (λ lp H1 np S1 ep=>?_);have hpl : (zc2 rs us ps (cm.getD 0 []) rs.length).length = rs.length:=by simp [zc2]
 wtm_at "gg";refine zaS (.of ep) ?_;rw [wd,hpl];wtm_at "gg";refine zmC (by omega) (λ lw H2 nw S2 ew=>?_);wtm_at "ga";rename_i la H3 na S3 ea;have T3:=S1.trans (S2.trans S3);have ep3:=S3 _ _ (S2 _ _ ep);have ew3:=S3 _ _ ew;have nlwp : lw ≠ lp:=λ z=>by subst z; rw [ep] at nw; cases nw
 have nlap : la ≠ lp:=λ z=>by subst z; rw [S2 _ _ ep] at na; cases na
 have nlaw : la ≠ lw:=λ z=>by subst z; rw [ew] at na; cases na
 have np0 : H lp = none:=np;have na0 : H la = none:=zb3 (S1.trans S2) na;have w3:=hw.by T3;have s3:=hs.by T3;clear S2 S3 ew nw na
 have hf0 : ∀ w,w < rs.length -> w ∉ ([] : List Nat) -> (zc2 rs us ps (cm.getD 0 []) rs.length).getD w 0 = phG rs us ts ps (cm.getD 0 []) [] w:=λ w hw _=>by
   unfold zc2 phG;rw [zbx hw,zjU,Nat.add_zero]
 have hsl:=so.c 0 (by decide)
 have e0 : zb9 rs.length [] = wo rs.length:=by
   unfold zb9;rw [List.filter_eq_self];intro w _; rfl
 refine zj3 w3 ew3 ep3 hpl (λ w hw=>wS.mp hw) (by simpa using n8) (λ vw H4 S4 iw=>?_);rw [<- e0,zhr hf0] at iw;rw [<- e0] at ew3;wtm_at "gg"
 refine zeR (λ f σ H'=>∃ (o7 o8 : Option V) (g : List Nat) (acc : List (List Nat)) (pw : List Int) (ll : Addr) (vw : V) (av : List V),σ = [some x0,some x1,some (.ref lp),some (.ref lw),some (.ref ll),some (.ref la),some vw,o7,o8,none,none] /\ Run rs us ts ps (cm.getD 0 []) f g acc /\ zag H H' /\ H' lp = some (.lst (pw.map V.int)) /\ pw.length = rs.length /\ (∀ w,w < rs.length -> w ∉ g -> pw.getD w 0 = phG rs us ts ps (cm.getD 0 []) g w) /\ H' lw = some (.lst (vz (wo rs.length))) /\ H' ll = some (.lst (vz (zb9 rs.length g))) /\ ll ≠ lp /\ ll ≠ la /\ H' la = some (.lst av) /\ IsAll K H' av (acc.map TW) /\ Is K H' vw (TW (GM.fresh rs us ts ps (cm.getD 0 []) g)) /\ acc.length + f <= 9)
   9 ⟨_,_,[],[],_,lw,vw,[],rfl,Run.start n8,T3.trans S4,S4 _ _ ep3,hpl,hf0,by rw [<- e0]; exact S4 _ _ ew3,S4 _ _ ew3,nlwp,vH nlaw,S4 _ _ ea,.nil,iw,by decide⟩ ?_
 clear S4 iw ep3 ew3 ea w3 s3 T3 hf0 hpl vw;rintro f σ H5 ⟨o7,o8,g,acc,pw,ll,vw,av,rfl,R5,S5,ep5,hpl,hph,ew5,el5,nlp,nla,ea5,ta5,iw5,hf9⟩;have hal : av.length = acc.length:=by rw [ta5.length,wd]
 have w5:=hw.by S5;have s5:=hs.by S5;wtm_at "gg";refine zpy (show Is K H5 vw (.tuple _) from iw5) ?_
 by_cases hfr : GM.fresh rs us ts ps (cm.getD 0 []) g = []
 . obtain ⟨hacc,hg⟩:=R5.stop hfr
   rw [hfr,show (!(xb PyData.int (xb (λ (w : Nat)=>(w : Int)) ([] : List Nat))).isEmpty) = false from rfl];wtm_at "gg";refine zgE (.of ew5) (o0:=none) (tl:=[some (.ref ll),some (.ref lp)]) rfl (λ j y H'=>y = .int (if j ∈ g then 0 else pw.getD j 0)) ?_ ?_
   . intro D i x ys o H6 hx inv
     obtain ⟨hi,rfl⟩:=zjo hx;rw [vc] at hi;rw [W4];have S6:=inv.same;wtm_at "gg";refine zi3 (.inl (.of (S6 _ _ el5))) ?_;wtm_at "gg"
     . rename_i z
       have z:=(zda.mp z).2;refine zdF (.of (S6 _ _ ep5)) (by omega) (by omega) ?_;exact zbG inv (by omega) (λ _ _ _ _ _ z=>z) ⟨_,rfl⟩ (zag.refl _) (by rw [if_neg z]; rfl)
     . rename_i z
       have z : i ∈ g:=qV λ zz=>z (zda.mpr ⟨hi,zz⟩)
       exact zbG inv (by omega) (λ _ _ _ _ _ z=>z) ⟨_,rfl⟩ (zag.refl _) (by rw [if_pos z])
   . intro D zs H6 n6 S6 e6 hl6 hr6
     have hzs : zs = (zb8 rs us ts ps cm).map V.int:=by
       refine zfw (by rw [hl6,zcJ,vc]; simp [zb8]) λ j y hy=>?_
       have hj:=zes hy;rw [hl6,zcJ,vc] at hj;rw [hr6 j y hy];unfold zb8;rw [zbx hj,show zew rs us ts ps cm = g from hg.symm]
       split
       . rfl
       . rename_i z; rw [hph j hj z]
     subst hzs;wtm_at "gg";refine zbr (.of e6) (λ l7 H7 n7 S7 e7=>?_);have S57:=S6.trans S7;wtm_at "gg";refine zgO (S57 _ _ ew5) (.inl (.of (S57 _ _ el5))) rfl (by simpa using wV n8 (by decide)) (λ lg H8 n8' S8 e8=>?_);have S58:=S57.trans S8;wtm_at "gg";refine zbn (zaF.mpr ⟨la,av,rfl,.of (S58 _ _ ea5),IsAll.same S58 _ _ ta5⟩) (λ v9 H9 S9 i9=>?_);have S59:=S58.trans S9;wtm_at "gg";refine ziL (s5.by S59) (λ v10 i10=>?_);wtm_at "gg";refine zfO (w5.by S59) ok i10 so.cl (λ d hd=>(so.c d hd).1) (.inl (.of (S9 _ _ e8))) (λ v11 H11 S11 i11=>?_)
     have hmem : ∀ x,x < rs.length -> (x ∈ (wo rs.length).filter (λ w=>!decide (w ∈ zb9 rs.length g)) ↔ x ∈ g):=λ x hx=>by
       rw [Wm,wS,Wl,decide_eq_false_iff_not,zda]
       constructor
       . rintro ⟨_,h⟩
         exact qV λ z=>h ⟨hx,z⟩
       . intro h; exact ⟨hx,λ z=>z.2 h⟩
     have ecm : zfN ts cm ((wo rs.length).filter λ w=>!decide (w ∈ zb9 rs.length g)) rs.length = zeC rs us ts ps cm:=by
       unfold zeC zfN;refine Wp λ d _=>Wp λ w _=>?_
       rw [show zew rs us ts ps cm = g from hg.symm,znj ok.t hmem]
     rw [ecm] at i11;wtm_at "gg";have i7 : Is K H11 (.ref l7) (TZ (zb8 rs us ts ps cm)):=zct.mpr ⟨l7,rfl,.of ((S8.trans (S9.trans S11)) _ _ e7)⟩;refine zbh (ds:=[TZ (zb8 rs us ts ps cm),TTr (zeC rs us ts ps cm)]) (by simp) (.cons i7 (.cons i11 .nil)) (λ v12 H12 S12 i12=>?_);wtm_at "gg"
     have i9' : Is K H12 v9 (TWs (zdH rs us ts ps cm)):=by
       rw [hacc] at i9;exact (i9.by S11).by S12
     refine zbh (ds:=[TWs (zdH rs us ts ps cm),StD (zb8 rs us ts ps cm) (zeC rs us ts ps cm)]) (by simp) (.cons i9' (.cons i12 .nil)) (λ v13 H13 S13 i13=>?_);exact q v13 H13 (S5.trans (S59.trans (S11.trans (S12.trans S13)))) i13
 . have hne : (!(xb PyData.int (xb (λ (w : Nat)=>(w : Int)) (GM.fresh rs us ts ps (cm.getD 0 []) g))).isEmpty) = true:=by
     cases e : GM.fresh rs us ts ps (cm.getD 0 []) g with
     | nil=>exact absurd e hfr
     | cons a b=>rfl
   rw [hne];obtain ⟨f',rfl,R6⟩:=R5.step hfr;have hdis : ∀ x ∈ GM.fresh rs us ts ps (cm.getD 0 []) g,x ∉ g:=λ x hx=>(zfr hx).2
   generalize GM.fresh rs us ts ps (cm.getD 0 []) g = fr at *;refine zmM (zfM ?_);wtm_at "gg";refine zec (.of ea5) ?_;wtm_at "gg";refine zcC ea5 (by omega) (λ H6 E6 e6=>?_);have k6:=E6.keep ea5;have S6 : zag H H6:=λ b o h=>E6 b o (zay h na0) (S5 b o h)
   have ep6:=E6.at (vH nlap) ep5;have ew6:=E6.at (vH nlaw) ew5;have el6:=E6.at nla el5;have iw6 : Is K H6 vw (TW fr):=iw5.byK k6 (zk5 _)
   have ta6 : IsAll K H6 (av ++ [vw]) ((acc ++ [fr]).map TW):=by
     rw [wB];exact (IsAll.keep k6 _ _ (zdO _) ta5).append (.cons iw6 .nil)
   obtain ⟨aw,rfl,hsw⟩:=znx.mp iw6;wtm_at "gg";refine zgO el6 (.inr hsw) rfl (by have:=ziG rs.length g; omega) (λ ln H7 n7 S7 e7=>?_);rw [zmn] at e7;have w7:=hw.by (S6.trans S7);wtm_at "gg";refine zfJ w7 (.inr (S7.sqT hsw)) ok (λ lt kv H8 n8t S8 e8 t8=>?_);have S68:=S7.trans S8;have ep8:=S68 _ _ ep6;have nltp : lt ≠ lp:=λ z=>by subst z; rw [S7 _ _ ep6] at n8t; cases n8t
   have nlnp : ln ≠ lp:=λ z=>by subst z; rw [ep6] at n7; cases n7
   have nlna : ln ≠ la:=λ z=>by subst z; rw [e6] at n7; cases n7
   have el8:=S8 _ _ e7;have S08:=S6.trans S68;have w8:=hw.by S08;have ea8:=S68 _ _ e6;have ta8 : IsAll K H8 (av ++ [.ref aw]) ((acc ++ [fr]).map TW):=IsAll.same S68 _ _ ta6;have ew8:=S68 _ _ ew6;clear S7 n7 e7 w7 S8 n8t ep6 ew6 el6 ta6 iw6 hsw e6 k6 E6 ep5 ew5 el5 ea5 ta5 iw5;wtm_at "gg";have ndl : (zb9 rs.length (g ++ fr)).Nodup:=VL.filter _
   refine zh5 (.of el8) (λ i σ H'=>∃ (o8 : Option V) (pw' : List Int),σ = [some x0,some x1,some (.ref lp),some (.ref lw),some (.ref ln),some (.ref la),some (.ref aw),some (.ref lt),o8,none,none] /\ Exc lp H8 H' /\ H' lp = some (.lst (pw'.map V.int)) /\ pw'.length = rs.length /\ ∀ w,w < rs.length -> pw'.getD w 0 = if w ∈ (zb9 rs.length (g ++ fr)).take i then phG rs us ts ps (cm.getD 0 []) (g ++ fr) w else pw.getD w 0)
     ⟨_,pw,rfl,Exc.refl _ _,ep8,hpl,λ w _=>by simp⟩ (λ i σ H' _ ⟨_,_,_,X,_⟩=>.of (X.at nlnp el8)) ?_ ?_
   . rintro i x σ H9 hx ⟨o8,pw',rfl,X9,ep9,hpl9,hpw9⟩
     obtain ⟨hi,rfl⟩:=zjo hx;obtain ⟨hwn,hwg⟩:=zda.mp (vb hi)
     have hnt : (zb9 rs.length (g ++ fr))[i] ∉ (zb9 rs.length (g ++ fr)).take i:=λ z=>by
       obtain ⟨j,hj,e⟩:=Wo z;rw [List.getElem_take] at e;rw [wC] at hj;exact absurd (zhb ndl _ _ e) (by omega)
     have hti : (zb9 rs.length (g ++ fr)).take (i + 1) = (zb9 rs.length (g ++ fr)).take i ++ [(zb9 rs.length (g ++ fr))[i]]:=zjz hi;generalize hwv : (zb9 rs.length (g ++ fr))[i] = w at *;have hwg1 : w ∉ g:=λ z=>hwg (vF _ z)
     obtain ⟨hul,hub⟩:=ok.u w hwn;have K9:=X9.keep ep8;have w9 : Is K H9 x0 (zbF rs us ts):=w8.thruW K9;have hpw : pw'.getD w 0 = phG rs us ts ps (cm.getD 0 []) g w:=by rw [hpw9 w hwn,if_neg hnt,hph w hwn hwg1]
     have hlow:=zlZ ok so g hwn;wtm_at "gg";refine zcO w9 (λ x4 i4=>?_);wtm_at "gg";refine zb6 i4 (by omega) (by omega) ?_;rw [wG];wtm_at "gg";refine zgB w9 (λ x5 i5=>?_);wtm_at "gg";refine zep i5 (by omega) (by rw [ok.ul]; omega) (λ x6 i6=>?_);rw [wG] at i6;wtm_at "gg";refine zdF (.of ep9) (by omega) (by omega) ?_;rw [wG,hpw];wtm_at "gg";refine zgo (d:=0) (X9.at nltp e8) (IsAll.keep K9 _ _ (zba _) t8) ok.t ok.tl (λ H10 S10=>?_);wtm_at "gg";have hcl:=zlJ ts fr w 0;have htl:=ok.tl;refine zgv hul.symm (i6.by S10) (by omega) (by omega) (by omega) hub ?_;rw [wG,zpY hdis];wtm_at "gg";refine zds (j:=w) (S10 _ _ ep9) (by rw [wd,hpl9]; unfold ixN; rw [if_pos (by omega),if_pos (by omega)]; simp) (λ H11 E11 e11=>?_);rw [map_set] at e11;wtm_at "gg";refine ⟨_,_,rfl,X9.trans (S10.exc.trans E11),e11,by rw [vD,hpl9],λ v hv=>?_⟩;rw [zhi (by omega),hti,hpw9 v hv]
     by_cases e : w = v
     . subst e; rw [if_pos rfl,if_pos (wM _ (wz.mpr rfl))]
     . rw [if_neg e]
       by_cases e2 : v ∈ (zb9 rs.length (g ++ fr)).take i
       . rw [if_pos e2,if_pos (vF _ e2)]
       . rw [if_neg e2,if_neg (λ z=>(wJ.mp z).elim e2 λ z=>e (wz.mp z).symm)]
   . rintro σ H9 ⟨o8,pw',rfl,X9,ep9,hpl9,hpw9⟩
     rw [zcJ,Wd] at hpw9;have K9:=X9.keep ep8;have S09 : zag H H9:=λ b o h=>X9 b o (zay h np0) (S08 b o h)
     have hpg : ∀ w,w < rs.length -> w ∉ g ++ fr -> pw'.getD w 0 = phG rs us ts ps (cm.getD 0 []) (g ++ fr) w:=λ w h1 h2=>by rw [hpw9 w h1,if_pos (zda.mpr ⟨h1,h2⟩)]
     wtm_at "gg";refine zj3 (hw.by S09) (X9.at nlnp el8) ep9 hpl9 (λ w hw=>(zda.mp hw).1) (by have:=ziG rs.length (g ++ fr); omega) (λ vw' H10 S10 iw10=>?_);rw [zhr hpg] at iw10;wtm_at "gg";refine ⟨f',by omega,_,_,g ++ fr,acc ++ [fr],pw',ln,vw',av ++ [.ref aw],rfl,R6,S09.trans S10,S10 _ _ ep9,hpl9,hpg,S10 _ _ (X9.at nlwp ew8),S10 _ _ (X9.at nlnp el8),nlnp,nlna,S10 _ _ (X9.at nlap ea8),IsAll.same S10 _ _ (IsAll.keep K9 _ _ (zdO _) ta8),iw10,?_⟩;rw [wf,vq];omega
def stN (rs : List Int) (us ts : List (List Int)) (ps : List Int) (cm : List (List Int)) : Nat -> List Int × List (List Int)
 | 0=>(ps,cm)
 | k + 1=>(zb8 rs us ts (stN rs us ts ps cm k).1 (stN rs us ts ps cm k).2,zeC rs us ts (stN rs us ts ps cm k).1 (stN rs us ts ps cm k).2)
theorem zk9 {rs ps : List Int} {us ts cm : List (List Int)} (ok : zaU rs us ts) (so : za8 rs ps cm) : ∀ k,za8 rs (stN rs us ts ps cm k).1 (stN rs us ts ps cm k).2
 | 0=>so
 | k + 1=>(zk9 ok so k).next ok
def zm4 (f : Nat -> TB.SK) (n : Nat) : Prop:=∀ a b,a < b -> b < n -> f a ≠ f b
structure zoe (f : Nat -> TB.SK) (i j : Nat) : Prop where
 d : zm4 f i
 lt : j < i
 eq : f i = f j
def StF (f : Nat -> TB.SK) (k : Nat) : PyData:=StD (f k).1 (f k).2
def zhL (f : Nat -> TB.SK) (i : Nat) (xs : List (TB.SK × Addr × Int)) : Prop:=xs.map (λ x=>(x.1,x.2.2)) = (wo i).map λ k=>(f k,(k : Int))
theorem zhL.len {f : Nat -> TB.SK} {i : Nat} {xs : List (TB.SK × Addr × Int)} (h : zhL f i xs) : xs.length = i:=by
 have:=congrArg QV h
 simpa using this
theorem zhL.snoc {f : Nat -> TB.SK} {i : Nat} {xs : List (TB.SK × Addr × Int)} (h : zhL f i xs) (b : Addr) : zhL f (i + 1) (xs ++ [(((f i).1,(f i).2),b,(i : Int))]):=by
 unfold zhL at h ⊢;rw [wB,h,WJ,wB]
 rfl
theorem zm5 {f : Nat -> TB.SK} {i : Nat} {xs : List (TB.SK × Addr × Int)} (h : zhL f i xs) {s : TB.SK} (n : ∀ k,k < i -> f k ≠ s) : zbQ xs s = none:=by
 unfold zbQ;rw [qK,V4];intro x hx e;have e:=of_decide_eq_true e
 have m : (x.1,x.2.2) ∈ (wo i).map λ k=>(f k,(k : Int)):=by
   unfold zhL at h;rw [<- h];exact wT.mpr ⟨x,hx,rfl⟩
 obtain ⟨k,hk,e2⟩:=wT.mp m
 injection e2 with e3 e4
 exact n k (wS.mp hk) (e3.trans e)
theorem zie {f : Nat -> TB.SK} {i j : Nat} {xs : List (TB.SK × Addr × Int)} (h : zhL f i xs) (d : zm4 f i) (hj : j < i) {s : TB.SK} (e : f j = s) : zbQ xs s = some (j : Int):=by
 unfold zhL at h;have m : (f j,(j : Int)) ∈ xs.map (λ x=>(x.1,x.2.2)):=by rw [h]; exact wT.mpr ⟨j,wS.mpr hj,rfl⟩
 obtain ⟨x,hx,ex⟩:=wT.mp m
 injection ex with e1 e2
 unfold zbQ;cases q : xs.find? λ x=>decide (x.1 = s) with
 | none =>
   rw [V4] at q;exact absurd (decide_eq_true (e1.trans e)) (q x hx)
 | some y =>
   have ye : y.1 = s:=by simpa using List.find?_some q
   have ym:=qk q;have m2 : (y.1,y.2.2) ∈ (wo i).map λ k=>(f k,(k : Int)):=by rw [<- h]; exact wT.mpr ⟨y,ym,rfl⟩
   obtain ⟨k,hk,e3⟩:=wT.mp m2
   injection e3 with e4 e5
   have hk:=wS.mp hk
   have : k = j:=by
     rcases qg k j with z | z | z
     . exact absurd (e4.trans (ye.trans e.symm)) (d k j z hj)
     . exact z
     . exact absurd (e.trans (ye.symm.trans e4.symm)) (d j k z hk)
   subst this
   show some y.2.2 = _
   rw [<- e5]
theorem zqt (f : Nat -> TB.SK) (k : Nat) : Imm (StF f k) = true:=zc5 _ _
theorem zhI (f : Nat -> TB.SK) (l : List Nat) : ImmAll (l.map (StF f)) = true:=zhe _ (zqt f) l
def StS (s : TB.SK) : PyData:=StD s.1 s.2
def zfB (K : wa) (H : Hp) (p : Addr) (x : V) (A B : List TB.SK) : Prop:=∃ t l m xs ys,x = .ref t /\ SqT K H t [.ref l,.ref m] /\ H l = some (.lst xs) /\ H m = some (.lst ys) /\ l ≠ p /\ m ≠ p /\ IsAll K H xs (A.map StS) /\ IsAll K H ys (B.map StS)
theorem zbo (ss : List TB.SK) : ImmAll (ss.map StS) = true:=by
 have:=zhI (λ k=>ss.getD k ([],[])) (wo ss.length)
 rw [show (wo ss.length).map (StF λ k=>ss.getD k ([],[])) = ss.map StS from by
   refine We (by simp) λ j h1 h2=>?_
   have h3 : j < ss.length:=by rw [wd] at h2; exact h2
   rw [vU,vU,W4]
   show StD (ss.getD j ([],[])).1 (ss.getD j ([],[])).2 = StS ss[j]
   rw [wc,we h3]; rfl] at this
 exact this
theorem zfB.exc {K : wa} {H H' : Hp} {p : Addr} {x : V} {A B : List TB.SK} (h : zfB K H p x A B) (e : Exc p H H') (k : zaM H H') : zfB K H' p x A B:=by
 obtain ⟨t,l,m,xs,ys,rfl,st,el,em,nl,nm,tx,ty⟩:=h;exact ⟨t,l,m,xs,ys,rfl,k.sqT st,e.at nl el,e.at nm em,nl,nm,IsAll.keep k _ _ (zbo _) tx,IsAll.keep k _ _ (zbo _) ty⟩
theorem zfB.same {K : wa} {H H' : Hp} {p : Addr} {x : V} {A B : List TB.SK} (h : zfB K H p x A B) (s : zag H H') : zfB K H' p x A B:=h.exc s.exc s.keep
theorem zfB.is {K : wa} {H : Hp} {p : Addr} {x : V} {A B : List TB.SK} (h : zfB K H p x A B) : Is K H x (.tuple [.list (A.map StS),.list (B.map StS)]):=by
 obtain ⟨t,l,m,xs,ys,rfl,st,el,em,nl,nm,tx,ty⟩:=h;exact zaI.mpr ⟨t,_,rfl,st,.cons (zaF.mpr ⟨l,xs,rfl,.of el,tx⟩) (.cons (zaF.mpr ⟨m,ys,rfl,.of em,ty⟩) .nil)⟩
theorem zqv (f : Nat -> TB.SK) (ks : List Nat) : ks.map (StF f) = (ks.map f).map StS:=by rw [VW]; rfl
theorem zcU {rs : List Int} {us ts : List (List Int)} {s : TB.SK} (ok : zaU rs us ts) (h : za8 rs s.1 s.2) : Sh 4 (StS s):=(za8.rpF ok.n8 ok.r h).sh
theorem ze4 {α : Type} [DecidableEq α] (f : α -> PyData) (h : ∀ a b,wQ (f a) (f b) = decide (a = b)) : ∀ xs ys : List α,vR (xs.map f) (ys.map f) = decide (xs = ys)
 | [],[]=>by simp [vR]
 | [],y :: ys=>by simp [vR]
 | x :: xs,[]=>by simp [vR]
 | x :: xs,y :: ys=>by
   rw [wv,wv,vR,h,ze4 f h xs ys]
   by_cases h1 : x = y <;> by_cases h2 : xs = ys <;> simp [h1,h2]
theorem zoQ (xs ys : List Int) : wQ (TZ xs) (TZ ys) = decide (xs = ys):=by
 unfold TZ;rw [wQ,ze4 PyData.int zlM]
theorem zlW (s t : TB.SK) : wQ (StS s) (StS t) = decide (s = t):=by
 show wQ (.tuple [TZ s.1,.tuple (s.2.map TZ)]) (.tuple [TZ t.1,.tuple (t.2.map TZ)]) = _
 rw [wQ,vR,vR,vR,zoQ,wQ,ze4 TZ zoQ];obtain ⟨a,b⟩:=s;obtain ⟨c,d⟩:=t
 by_cases h1 : a = c <;> by_cases h2 : b = d <;> simp [h1,h2]
def nxK (rs : List Int) (us ts : List (List Int)) (s : TB.SK) : TB.SK:=(zb8 rs us ts s.1 s.2,zeC rs us ts s.1 s.2)
theorem zpp {rs : List Int} {us ts : List (List Int)} {s : TB.SK} (ok : zaU rs us ts) (h : za8 rs s.1 s.2) : za8 rs (nxK rs us ts s).1 (nxK rs us ts s).2:=h.next ok
def zeH (rs : List Int) (us ts : List (List Int)) (st : TB.SK) (A B : List TB.SK) : Bool :=
 !B.isEmpty && (decide ((A ++ B).getD 0 ([],[]) = st) && ((A ++ B).zip ((A ++ B).drop 1 ++ B.take 1)).all λ p=>decide (nxK rs us ts p.1 = p.2))
theorem zhN {A B : List TB.SK} (h : B ≠ []) : ((A ++ B).drop 1 ++ B.take 1).length = (A ++ B).length:=by
 have:=WX.mpr h;rw [wf,wP,wC,wf];omega
theorem zpS {α : Type} {p : α × α -> Bool} {xs ys : List α} {d : α} (h : ys.length = xs.length) : (xs.zip ys).all p = true ↔ ∀ k,k < xs.length -> p (xs.getD k d,ys.getD k d) = true:=by
 rw [Wc]
 constructor
 . intro g k hk
   refine g _ (vM.mpr ⟨k,?_⟩);rw [Vn];simp [wc,we hk,we (show k < ys.length by omega)]
 . intro g q hq
   obtain ⟨k,hk⟩:=vM.mp hq;obtain ⟨h1,h2⟩:=Vn.mp hk;have hk':=(vV.mp h1).1;have:=g k hk';rw [wc,h1,wc,h2] at this;exact this
theorem zbH {K : wa} {H : Hp} {xs : List V} {C : List TB.SK} (t : IsAll K H xs (C.map StS)) {i : Nat} {x : V} (h : xs[i]? = some x) : i < C.length /\ Is K H x (StS (C.getD i ([],[]))):=by
 obtain ⟨hi,ix⟩:=zd0 t h;rw [wd] at hi;refine ⟨hi,?_⟩;rw [wc,wE,we hi] at ix;rw [wc,we hi];exact ix
theorem zbu {K : wa} {H : Hp} {xs ys : List V} {C D : List TB.SK} (t : IsAll K H xs (C.map StS)) (u : IsAll K H ys (D.map StS)) : IsAll K H (xs ++ ys) ((C ++ D).map StS):=by
 rw [wB];exact t.append u
theorem zaY {C : List TB.SK} {i : Nat} (h : i < C.length) : C.getD i ([],[]) ∈ C:=by
 rw [wc,we h];exact vb h
theorem zgI {K : wa} {H : Hp} {Q : VK} {v w : V} {s t : TB.SK} {n m : Nat} (h : Is K H v (StS s)) (k : Is K H w (StS t)) (hs : Sh n (StS s)) (ht : Sh m (StS t)) (hn : n <= 64) (hm : m <= 64) (q : Q (.bl (!decide (s = t))) H) : zek K v w H Q :=
 ziO h k (hs.shaped hn) (ht.shaped hm) (by rw [zlW]; exact q)
theorem zqF {K : wa} {H : Hp} {Q : VK} {v w : V} {s t : TB.SK} {n m : Nat} (h : Is K H v (StS s)) (k : Is K H w (StS t)) (hs : Sh n (StS s)) (ht : Sh m (StS t)) (hn : n <= 64) (hm : m <= 64) (q : Q (.bl (decide (s = t))) H) : zcV K v w H Q :=
 zlf h k (hs.shaped hn) (ht.shaped hm) (by rw [zlW]; exact q)
theorem zcF {n : Nat} (h : n <= 2000) : n <= sizeLine:=by rw [sizeLine_eq]; omega
theorem zce (zs : List V) (c : Nat) : zf3 zs none (some (c : Int)) = zs.take c:=by rw [show zf3 zs none (some (c : Int)) = zfi zs none (some (c : Int)) from rfl,zrV]
theorem zbs (zs : List V) (c : Nat) (h : c <= zs.length) : zf3 zs (some (c : Int)) none = zs.drop c:=by rw [show zf3 zs (some (c : Int)) none = zfi zs (some (c : Int)) none from rfl,znS _ _ h]
theorem zaX {K : wa} {H : Hp} {xs : List V} {C : List TB.SK} (t : IsAll K H xs (C.map StS)) (k : Nat) : IsAll K H (xs.take k) ((C.take k).map StS):=by
 rw [xP]; exact t.take k
theorem zaW {K : wa} {H : Hp} {xs : List V} {C : List TB.SK} (t : IsAll K H xs (C.map StS)) (k : Nat) : IsAll K H (xs.drop k) ((C.drop k).map StS):=by
 rw [xQ]; exact t.drop k
def zfC (K : wa) (H : Hp) (x : V) (A B : List TB.SK) : Prop:=∃ t l m xs ys,x = .ref t /\ SqT K H t [.ref l,.ref m] /\ H l = some (.lst xs) /\ H m = some (.lst ys) /\ IsAll K H xs (A.map StS) /\ IsAll K H ys (B.map StS)
theorem zfB.m {K : wa} {H : Hp} {p : Addr} {x : V} {A B : List TB.SK} (h : zfB K H p x A B) : zfC K H x A B:=by
 obtain ⟨t,l,m,xs,ys,rfl,st,el,em,nl,nm,tx,ty⟩:=h;exact ⟨t,l,m,xs,ys,rfl,st,el,em,tx,ty⟩
theorem zfC.same {K : wa} {H H' : Hp} {x : V} {A B : List TB.SK} (h : zfC K H x A B) (s : zag H H') : zfC K H' x A B:=by
 obtain ⟨t,l,m,xs,ys,rfl,st,el,em,tx,ty⟩:=h;exact ⟨t,l,m,xs,ys,rfl,s.sqT st,s _ _ el,s _ _ em,IsAll.same s _ _ tx,IsAll.same s _ _ ty⟩
theorem zfC.is {K : wa} {H : Hp} {x : V} {A B : List TB.SK} (h : zfC K H x A B) : Is K H x (.tuple [.list (A.map StS),.list (B.map StS)]):=by
 obtain ⟨t,l,m,xs,ys,rfl,st,el,em,tx,ty⟩:=h;exact zaI.mpr ⟨t,_,rfl,st,.cons (zaF.mpr ⟨l,xs,rfl,.of el,tx⟩) (.cons (zaF.mpr ⟨m,ys,rfl,.of em,ty⟩) .nil)⟩
theorem zoV {rs : List Int} {us ts : List (List Int)} {st : TB.SK} {A : List TB.SK} : zeH rs us ts st A [] = false:=rfl
theorem zhM {rs : List Int} {us ts : List (List Int)} {st : TB.SK} {A B : List TB.SK} (h : (A ++ B).getD 0 ([],[]) ≠ st) : zeH rs us ts st A B = false:=by
 unfold zeH;rw [decide_eq_false h,WQ,Wi]
theorem zjB {rs : List Int} {us ts : List (List Int)} {st : TB.SK} {A B : List TB.SK} (hB : B ≠ []) (h : (A ++ B).getD 0 ([],[]) = st) : zeH rs us ts st A B = true ↔ ∀ k,k < (A ++ B).length -> nxK rs us ts ((A ++ B).getD k ([],[])) = ((A ++ B).drop 1 ++ B.take 1).getD k ([],[]):=by
 unfold zeH
 rw [decide_eq_true h,Wx,show (!B.isEmpty) = true from by cases B with
   | nil=>exact absurd rfl hB
   | cons a b=>rfl,Wx,zpS (d:=([],[])) (zhN hB)]
 simp only [decide_eq_true_eq]
def zhd (K : wa) : Sp:=λ vs H Q _=>∃ x0 x1 x2,vs = [x0,x1,x2] /\ ∃ (rs : List Int) (us ts : List (List Int)) (st : TB.SK) (A B : List TB.SK),Is K H x0 (zbF rs us ts) /\ zaU rs us ts /\ Is K H x1 (StS st) /\ za8 rs st.1 st.2 /\ zfC K H x2 A B /\ (∀ s ∈ A,za8 rs s.1 s.2) /\ (∀ s ∈ B,za8 rs s.1 s.2) /\ A.length + B.length <= 700 /\ ∀ H',zag H H' -> Q (.bl (zeH rs us ts st A B)) H'
theorem zfd {K : wa} {H : Hp} {Q : VK} {E : XK} {v w z : V} {rs : List Int} {us ts : List (List Int)} {st : TB.SK} {A B : List TB.SK} (h : Is K H v (zbF rs us ts)) (ok : zaU rs us ts) (h1 : Is K H w (StS st)) (so : za8 rs st.1 st.2) (h2 : zfC K H z A B) (sa : ∀ s ∈ A,za8 rs s.1 s.2) (sb : ∀ s ∈ B,za8 rs s.1 s.2) (hl : A.length + B.length <= 700)
   (q : ∀ H',zag H H' -> Q (.bl (zeH rs us ts st A B)) H') : zhd K [v,w,z] H Q E:=⟨_,_,_,rfl,rs,us,ts,st,A,B,h,ok,h1,so,h2,sa,sb,hl,q⟩
set_option maxHeartbeats 4000000 in
theorem ze5 (T : Txt K mg a) : zbB P w K mg base CX0 4 a.is_ring a.fd_is_ring ["web","stand","told"] (zhd K):=by
 refine T.F_is_ring.ok zdo (λ vs H Q E h=>by obtain ⟨_,_,_,rfl,_⟩:=h; rfl) (λ cdv A outer s H vs Q E hr h=>?_);obtain ⟨x0,x1,x2,rfl,h⟩:=h;have hu:=hr.units
 refine ⟨_,(zac (zbm (zcW (zoM (zaj zah (pv 2) zad (λ _ _=>rfl)))) (zaf (zas zdq)) zaL)
     (zac (zam (i:=3) zdo.nd rfl (Or.inl rfl) (zaw zaC (zaj zah (pv 2) zad (λ _ _=>rfl)) (zaj zah (pv 2) zad (λ _ _=>rfl))))
     (zac (zam (i:=4) zdo.nd rfl (Or.inl rfl) (zaw zaC (zaT zbq (pv 3) (za4 zad) za5) (zaT zbq (zaj zah (pv 2) zad (λ _ _=>rfl)) za5 (za4 zad))))
     (zac (zbm (zau (show OpR _ (compareOp .NotEq) (zek K) from zdK hu) (zaj zah (pv 3) zad (λ _ _=>rfl)) (pv 1) (zaH _)) (zaf (zas zdq)) zaL)
     (zac (zcv wY rfl (zlx rfl T.z_zip (zaa (pv 3) (zaa (pv 4) zab))) (zcZ (n:=2) rfl (zaJ (zan (i:=5) zdo.nd rfl (Or.inl rfl)) (zaJ (zan (i:=6) zdo.nd rfl (Or.inl rfl)) zcf))) (zaf (zbm (zau (show OpR _ (compareOp .NotEq) (zek K) from zdK hu) (zaj zah (zai (zqE T) (hr.mono (by decide)) rfl T.g_tick T.F_tick.kp T.b_tick .nil zaq (zaa (pv 0) (zaa (pv 5) zab))) zad (λ _ _=>rfl)) (pv 6) (zaH _)) (zaf (zas zdq)) zaL)))
     (zaf (zas zdq))))))),?_⟩
 clear hu
 try clear hgd
 try dsimp only [zbz,zbb]
 rw [show start ["web","stand","told","stands","following","one","other"] [x0,x1,x2] = [some x0,some x1,some x2,none,none,none,none] from rfl];obtain ⟨rs,us,ts,st,A,B,hw,ok,hst,sst,two,okA,okB,hz,q⟩:=h;obtain ⟨t,l,m,xs,ys,rfl,stt,el,em,tx,ty⟩:=two;have hxl : xs.length = A.length:=by rw [tx.length,wd]
 have hyl : ys.length = B.length:=by rw [ty.length,wd]
 wtm_at "gg";refine zdI (m:=1) stt rfl ?_;refine zqK (zaF.mpr ⟨m,ys,rfl,.of em,ty⟩) ?_
 by_cases hB : B = []
 . subst hB
   rw [show (!(([] : List TB.SK).map StS).isEmpty) = false from rfl];wtm_at "gg";exact q H (zag.refl _)
 rw [show (!(B.map StS).isEmpty) = true from by cases B with
   | nil=>exact absurd rfl hB
   | cons a b=>rfl]
 have hB1:=WX.mpr hB;wtm_at "gg";refine zdI (m:=0) stt rfl ?_;wtm_at "gg";refine zdI (m:=1) stt rfl ?_;refine zby el em (zcF (by omega)) (λ l1 H1 n1 S1 e1=>?_);wtm_at "gg";refine zbd (.of e1) (λ l2 H2 n2 S2 e2=>?_);rw [show (1 : Int) = ((1 : Nat) : Int) from rfl,zbs _ _ (by rw [wf]; omega)] at e2;wtm_at "gg";refine zdI (m:=1) ((S1.trans S2).sqT stt) rfl ?_;wtm_at "gg";refine zbd (.of (S2 _ _ (S1 _ _ em))) (λ l3 H3 n3 S3 e3=>?_);rw [show (1 : Int) = ((1 : Nat) : Int) from rfl,zce] at e3;refine zby (S3 _ _ e2) e3 (zcF (by rw [wP,wC,wf]; omega)) (λ l4 H4 n4 S4 e4=>?_);have S14:=S2.trans (S3.trans S4);have S04:=S1.trans S14;have tC : IsAll K H4 (xs ++ ys) ((A ++ B).map StS):=IsAll.same S04 _ _ (zbu tx ty);have tF : IsAll K H4 ((xs ++ ys).drop 1 ++ ys.take 1) (((A ++ B).drop 1 ++ B.take 1).map StS):=zbu (zaW tC 1) (IsAll.same S04 _ _ (zaX ty 1));have eC:=S14 _ _ e1
 have okC : ∀ s ∈ A ++ B,za8 rs s.1 s.2:=λ s hs=>by
   rcases wJ.mp hs with h | h
   . exact okA s h
   . exact okB s h
 have okF : ∀ s ∈ (A ++ B).drop 1 ++ B.take 1,za8 rs s.1 s.2:=λ s hs=>by
   rcases wJ.mp hs with h | h
   . exact okC s (vj h)
   . exact okB s (vk h)
 have hCF:=zhN (A:=A) hB;have hCl : (A ++ B).length = A.length + B.length:=wf;have hst4:=hst.by S04;have hw4:=hw.by S04;have hra:=λ e=>zjB (rs:=rs) (us:=us) (ts:=ts) (A:=A) (st:=st) hB e
 have hrf:=λ e=>zhM (rs:=rs) (us:=us) (ts:=ts) (A:=A) (B:=B) (st:=st) e
 generalize hr : zeH rs us ts st A B = r at q hra hrf;generalize (A ++ B).drop 1 ++ B.take 1 = F at *;generalize A ++ B = C at *;have hvl : (xs ++ ys).length = C.length:=by rw [tC.length,wd]
 have hfl : ((xs ++ ys).drop 1 ++ ys.take 1).length = F.length:=by rw [tF.length,wd]
 generalize (xs ++ ys).drop 1 ++ ys.take 1 = fv at *;generalize xs ++ ys = cv at *;clear S1 S2 S3 S4 S14 e1 e2 e3 n1 n2 n3 n4 stt el em tx ty;wtm_at "gg";obtain ⟨x0',hx0⟩ : ∃ x,cv[0]? = some x:=⟨cv[0]'(by omega),we (by omega)⟩;obtain ⟨_,ix0⟩:=zbH tC hx0;refine zcb (m:=0) (.of eC) (zbP (j:=0) hx0) ?_;wtm_at "gg";refine zgI ix0 hst4 (zcU ok (okC _ (zaY (by omega)))) (zcU ok sst) (by decide) (by decide) ?_
 by_cases h0 : C.getD 0 ([],[]) = st
 . rw [decide_eq_true h0,show (!true) = false from rfl]
   wtm_at "gg";refine zmj (show SqK false K H4 l1 cv from SqL.of eC) (show SqK false K H4 l4 fv from SqL.of e4) (by omega) (λ i σ H'=>∃ o5 o6,σ = [some x0,some x1,some (.ref t),some (.ref l1),some (.ref l4),o5,o6] /\ zag H4 H' /\ ∀ k,k < i -> nxK rs us ts (C.getD k ([],[])) = F.getD k ([],[])) ⟨_,_,rfl,zag.refl _,λ k hk=>by omega⟩ (λ i σ H' _ ⟨_,_,_,S',_⟩=>⟨SqL.of (S' _ _ eC),SqL.of (S' _ _ e4)⟩) ?_ ?_
   . rintro i x y σ H5 c H6 hx hy ⟨o5,o6,rfl,S5,hk⟩ nc S6 ec
     obtain ⟨hi,ix⟩:=zbH tC hx;obtain ⟨hj,iy⟩:=zbH tF hy;refine zcw (.of ec) rfl ?_;have S56:=S5.trans S6;wtm_at "gg";refine zqh (hw4.by S56) ok (ix.by S56) (okC _ (zaY hi)) (λ v7 H7 S7 i7=>?_);wtm_at "gg";refine zkY i7 (λ v8 i8=>?_);wtm_at "gg";refine zgI (s:=nxK rs us ts (C.getD i ([],[]))) i8 (iy.by (S56.trans S7)) (zcU ok (zpp ok (okC _ (zaY hi)))) (zcU ok (okF _ (zaY hj))) (by decide) (by decide) ?_
     by_cases hn : nxK rs us ts (C.getD i ([],[])) = F.getD i ([],[])
     . rw [decide_eq_true hn,show (!true) = false from rfl]
       wtm_at "gg";refine ⟨_,_,rfl,S56.trans S7,λ k hk'=>?_⟩;rcases wK k i with z | z
       . exact hk k z
       . have : k = i:=by omega
         subst this;exact hn
     . rw [decide_eq_false hn,show (!false) = true from rfl]
       wtm_at "gg"
       have hf : r = false:=by
         cases r with
         | false=>rfl
         | true=>exact absurd ((hra h0).mp rfl i hi) hn
       rw [hf] at q;exact q _ (S04.trans (S56.trans S7))
   . rintro σ H5 ⟨o5,o6,rfl,S5,hk⟩
     wtm_at "gg";have hf : r = true:=(hra h0).mpr λ k hk'=>hk k (by omega)
     rw [hf] at q;exact q _ (S04.trans S5)
 . rw [decide_eq_false h0,show (!false) = true from rfl]
   wtm_at "gg";rw [hrf h0] at q;exact q _ S04
def Pen (H : Hp) (p : Addr) (k : Int) : Prop:=0 <= k /\ ∃ (a : Int) (b : Bool),H p = some (.lst [.int a,.bl b])
theorem Pen.same {H H' : Hp} {p : Addr} {k : Int} (s : zag H H') (h : Pen H p k) : Pen H' p k:=by
 obtain ⟨k0,x,y,e⟩:=h;exact ⟨k0,x,y,s _ _ e⟩
theorem Pen.exc {H H' : Hp} {p l : Addr} {k : Int} (h : Pen H p k) (s : Exc l H H') (n : p ≠ l) : Pen H' p k:=by
 obtain ⟨k0,x,y,e⟩:=h;exact ⟨k0,x,y,s _ _ n e⟩
theorem Pen.ne {H : Hp} {p q : Addr} {k : Int} (e : H q = none) (h : Pen H p k) : q ≠ p:=by
 obtain ⟨_,x,y,z⟩:=h;exact (zay z e).symm
def zgV (K : wa) : Sp:=λ vs H Q _=>∃ x0 x1,vs = [x0,x1] /\ ∃ (a : Addr) (ns : List Int) (k : Int),x0 = .ref a /\ x1 = .int k /\ SqF K H a (ns.map V.int) /\ ns.length <= 63 /\ 0 <= k /\ k <= 1000 /\
 ∀ p H',H p = none -> zag H H' -> Pen H' p 0 -> Q (.ref p) H'
theorem zdk {K : wa} {H : Hp} {Q : VK} {E : XK} {a : Addr} {ns : List Int} {k : Int} (h : SqF K H a (ns.map V.int)) (hl : ns.length <= 63) (h0 : 0 <= k) (h1 : k <= 1000)
   (q : ∀ p H',H p = none -> zag H H' -> Pen H' p 0 -> Q (.ref p) H') : zgV K [.ref a,.int k] H Q E:=⟨_,_,rfl,a,ns,k,rfl,rfl,h,hl,h0,h1,q⟩
local macro_rules | `(tactic| wtm_at "pen")=>`(tactic| first
 | assumption
 | (apply Pen.same; (focus assumption); wtm_at "pen"))
local macro_rules | `(tactic| wtm_at "ne")=>`(tactic| ((with_reducible apply Pen.ne); (focus assumption); wtm_at "pen"))
local macro_rules | `(tactic| wtm_at "penle")=>`(tactic| exact Pen.le (by wtm_at "pen") (by omega))
set_option maxHeartbeats 4000000 in
theorem zdg (T : Txt K mg a) : zbB P w K mg base CX0 1 a.law_pen a.fd_law_pen ["_law_script","_law_k"] (zgV K):=by
 refine T.F_law_pen.ok ze8 (λ vs H Q E h=>by obtain ⟨_,_,rfl,_⟩:=h; rfl) (λ cdv A outer s H vs Q E hr h=>?_);obtain ⟨x0,x1,rfl,h⟩:=h;have hu:=hr.units
 refine ⟨_,(zac (zam (i:=2) ze8.nd rfl (Or.inl rfl) (zaw zaC (zaw zdA zad (pv 1)) zad))
     (zac (zbm (zau zlL (zao (show zal _ (.builtin "len") (zb7 K) from zax) rfl T.z_len za2 (zaa (pv 0) zab)) zad (zaH _)) (zaf (zam (i:=2) ze8.nd rfl (Or.inl rfl) (zaw zaC (zaj zah (pv 0) (zaw zet (pv 1) (zao (show zal _ (.builtin "len") (zb7 K) from zax) rfl T.z_len za2 (zaa (pv 0) zab))) (λ _ _=>rfl)) (zaw zdA (zaw zev (pv 1) (zao (show zal _ (.builtin "len") (zb7 K) from zax) rfl T.z_len za2 (zaa (pv 0) zab))) zad)))) zaL)
     (zac (zbm (PW.pt (zeF (zau zqT (pv 1) (zao (show zal _ (.builtin "len") (zb7 K) from zax) rfl T.z_len za2 (zaa (pv 0) zab)) (zaH _)) (zd5 (zau zlE (pv 2) (zql (v:=1000000000000000000) ⟨by decide,by decide,by decide⟩ (by decide +kernel)) (zaH _))))) (zaf (zas (zaP (zaa (pv 2) (zaa zdq zab))))) zaL)
     (zaf (zas (zaP (zaa (zaw zet (zaw zdA (zaw zaC (zaw zaC (zaw zet (pv 2) zad) (zaw zdA zad (pv 1))) zad) zad) zad) (zaa zdq zab)))))))),?_⟩
 clear hu
 try clear hgd
 try dsimp only [zbz,zbb]
 rw [show start ["_law_script","_law_k","_law_cell"] [x0,x1] = [some x0,some x1,none] from rfl];obtain ⟨a',ns,k,rfl,rfl,hs,hl,h0,h1,q⟩:=h;have fin : ∀ (x : Int) (y : Bool),mkL K [.int x,.bl y] H Q:=λ x y=>zcX (by show 2 <= 1000; decide) λ p H' hp s e=>q p H' hp s ⟨by decide,x,y,e⟩
 wtm_at "gg";refine zaS hs.sq ?_;wtm_at "gg"
 . rename_i hz
   rw [wd] at hz;refine zaS hs.sq ?_;rw [wd];wtm_at "gg";refine zrQ hs (xv _ (by omega)) (by rw [wd]; exact Qz _ (by omega)) (λ z=>?_);wtm_at "gg";refine zaS hs.sq ?_;rw [wd];wtm_at "gg";refine zoH ⟨by omega,(Bd.of128 (by omega) (by omega)).mono (by decide)⟩ ?_;wtm_at "gg";refine zaS hs.sq ?_;wtm_at "gg"
   all_goals exact fin _ _
 . refine zaS hs.sq ?_
   wtm_at "gg"
   all_goals exact fin _ _
def zgt (K : wa) : Sp:=λ vs H Q _=>∃ x0 x1,vs = [x0,x1] /\ ∃ (p : Addr) (k m : Int),x0 = .ref p /\ x1 = .int m /\ Pen H p k /\ 0 < m /\ Bd 8999 m /\
 ∀ (r : Int) (H' : Hp),0 <= r -> r < m -> Exc p H H' -> zaM H H' -> Pen H' p k -> Q (.int r) H'
theorem zkd {K : wa} {H : Hp} {Q : VK} {E : XK} {p : Addr} {k m : Int} (h : Pen H p k) (hm : 0 < m) (hb : Bd 8999 m)
   (q : ∀ (r : Int) (H' : Hp),0 <= r -> r < m -> Exc p H H' -> zaM H H' -> Pen H' p k -> Q (.int r) H') : zgt K [.ref p,.int m] H Q E:=⟨_,_,rfl,p,k,m,rfl,rfl,h,hm,hb,q⟩
local macro_rules | `(tactic| wtm_at "gs")=>`(tactic| ((with_reducible apply zkd); (focus wtm_at "pen"); (focus (first | decide | omega)); (focus wtm_at "bd128"); intro _ _ _ _ _ _ _))
set_option maxHeartbeats 4000000 in
theorem zat (T : Txt K mg a) : zbB P w K mg base CX0 1 a.law_draw a.fd_law_draw ["_law_pen_here","_law_many"] (zgt K):=by
 refine T.F_law_draw.ok zeE (λ vs H Q E h=>by obtain ⟨_,_,rfl,_⟩:=h; rfl) (λ cdv A outer s H vs Q E hr h=>?_);obtain ⟨x0,x1,rfl,h⟩:=h;have hu:=hr.units
 refine ⟨_,(zac (zbm (zcY (zaj zah (pv 0) zad (λ _ _=>rfl))) (zac (zam (i:=2) zeE.nd rfl (Or.inl rfl) (zaw zet (zaj zah (pv 0) zad (λ _ _=>rfl)) (pv 1)))
     (zac (zeD (zaw zev (zaj zah (pv 0) zad (λ _ _=>rfl)) (pv 1)) (zd9 (pv 0) zad zcs))
     (zaf (zas (pv 2))))) zaL)
     (zac (zeD (zaw zet (zaw zaC (zaw zdA (zaj zah (pv 0) zad (λ _ _=>rfl)) zad) zad) zad) (zd9 (pv 0) zad zcs))
     (zac (zam (i:=3) zeE.nd rfl (Or.inl rfl) (zaw zet (zaw zdA (zaw zaC (zaw zaC (zaw zdA (zaw zet (zaj zah (pv 0) zad (λ _ _=>rfl)) zad) zad) (zaw zev (zaj zah (pv 0) zad (λ _ _=>rfl)) zad)) zad) zad) zad))
     (zaf (zas (zaw zet (zaw zev (pv 3) zad) (pv 1))))))),?_⟩
 clear hu
 try clear hgd
 try dsimp only [zbz,zbb]
 rw [show start ["_law_pen_here","_law_many","_law_digit","_law_mixed"] [x0,x1] = [some x0,some x1,none,none] from rfl];obtain ⟨p,k,m,rfl,rfl,⟨hk0,x,y,hp⟩,hm,hbm,q⟩:=h;wtm_at "gg"
 all_goals
   exact q _ _ (xv _ (by omega)) (Qz _ hm) (by wtm_at "exc") (Exc.keep (p:=p) (by wtm_at "exc") hp) ⟨hk0,_,_,by assumption⟩
def zcH (a d j : Nat) : List (List Int):=((wo j).filter λ (b : Nat)=>decide (b ≠ a)).map λ (b : Nat)=>[(a : Int),(b : Int),(d : Int)]
theorem zgx (a d j : Nat) : zcH a d (j + 1) = zcH a d j ++ if j = a then [] else [[(a : Int),(j : Int),(d : Int)]]:=by
 unfold zcH;rw [WJ,W5,wB]
 congr 1
 by_cases h : j = a <;> simp [h]
theorem ze7 (a d j : Nat) : (zcH a d j).length <= j:=by
 unfold zcH;rw [wd];have:=vO (λ (b : Nat)=>decide (b ≠ a)) (wo j);rw [vc] at this;exact this
theorem zfa {a d j : Nat} {t : List Int} (h : t ∈ zcH a d j) : ∃ b,b < j /\ b ≠ a /\ t = [(a : Int),(b : Int),(d : Int)]:=by
 obtain ⟨b,hb,rfl⟩:=wT.mp h;obtain ⟨h1,h2⟩:=Wm.mp hb;exact ⟨b,wS.mp h1,of_decide_eq_true h2,rfl⟩
theorem zi0 (a d j : Nat) : (zcH a d j).Nodup:=by
 unfold zcH List.Nodup;rw [QP];exact (VL.filter _).imp λ {x y} h e=>h (Int.ofNat.inj (by simpa using e))
structure zel (n d a : Nat) (L : List (List Int)) : Prop where
 ok : ∀ t ∈ L,zdh n t
 nd : L.Nodup
 lt : ∀ t ∈ L,t.getD 2 0 * 8 + t.getD 0 0 < (d : Int) * 8 + a
 len : L.length <= 56 * d + 7 * a
theorem zel.row {n d a : Nat} {L : List (List Int)} (h : zel n d a L) (n8 : n <= 8) (ha : a < n) (hd : d <= 4) : zel n d (a + 1) (L ++ zcH a d n):=by
 refine ⟨λ t ht=>?_,WM.mpr ⟨h.nd,zi0 a d n,λ x hx y hy e=>?_⟩,λ t ht=>?_,?_⟩
 . rcases wJ.mp ht with z | z
   . exact h.ok t z
   . obtain ⟨b,h1,h2,rfl⟩:=zfa z
     exact ⟨a,b,d,rfl,ha,h1,λ e=>h2 e.symm,hd⟩
 . subst e
   obtain ⟨b,h1,h2,rfl⟩:=zfa hy;have:=h.lt _ hx;simp at this
 . rcases wJ.mp ht with z | z
   . have:=h.lt t z; omega
   . obtain ⟨b,h1,h2,rfl⟩:=zfa z
     simp;omega
 . rw [wf]
   have h1:=h.len
   have : (zcH a d n).length <= 7:=by
     have h2:=ze7 a d n;rcases wK n 8 with z | z
     . omega
     . have e : n = 8:=by omega
       subst e;have : a = 0 \/ a = 1 \/ a = 2 \/ a = 3 \/ a = 4 \/ a = 5 \/ a = 6 \/ a = 7:=by omega
       rcases this with rfl | rfl | rfl | rfl | rfl | rfl | rfl | rfl <;> simp [zcH] <;> decide
   omega
theorem zel.up {n d : Nat} {L : List (List Int)} (h : zel n d n L) (n8 : n <= 8) : zel n (d + 1) 0 L :=
 ⟨h.ok,h.nd,λ t ht=>by have:=h.lt t ht; omega,by have:=h.len; omega⟩
def zgw (K : wa) : Sp:=λ vs H Q _=>∃ x0 x1 x2,vs = [x0,x1,x2] /\ ∃ (p : Addr) (k : Int) (n : Nat) (g : Bool),x0 = .ref p /\ x1 = .int (n : Int) /\ x2 = .bl g /\ Pen H p k /\ n <= 8 /\ ∀ (l : Addr) (H' : Hp) (us : List V) (ts : List (List Int)),Exc p H H' -> zaM H H' -> Pen H' p k -> H' l = some (.lst us) -> IsAll K H' us (ts.map TZ) -> (∀ t ∈ ts,zdh n t) -> ts.Nodup -> ts.length <= 60 -> Q (.ref l) H'
theorem zjS {K : wa} {H : Hp} {Q : VK} {E : XK} {p : Addr} {k : Int} {n : Nat} {g : Bool} (h : Pen H p k) (h8 : n <= 8) (q : ∀ (l : Addr) (H' : Hp) (us : List V) (ts : List (List Int)),Exc p H H' -> zaM H H' -> Pen H' p k -> H' l = some (.lst us) -> IsAll K H' us (ts.map TZ) -> (∀ t ∈ ts,zdh n t) -> ts.Nodup -> ts.length <= 60 -> Q (.ref l) H') : zgw K [.ref p,.int (n : Int),.bl g] H Q E:=⟨_,_,_,rfl,p,k,n,g,rfl,rfl,rfl,h,h8,q⟩
set_option maxHeartbeats 4000000 in
theorem zka (T : Txt K mg a) : zbB P w K mg base CX0 2 a.law_ties a.fd_law_ties ["_law_pen_here","_law_many","_law_great"] (zgw K):=by
 refine T.F_law_ties.ok zbL (λ vs H Q E h=>by obtain ⟨_,_,_,rfl,_⟩:=h; rfl) (λ cdv A outer s H vs Q E hr h=>?_);obtain ⟨x0,x1,x2,rfl,h⟩:=h;have hu:=hr.units
 refine ⟨_,(zac (zam (i:=3) zbL.nd rfl (Or.inl rfl) (zaP zab))
     (zac (zcv wY rfl (zbv rfl T.z_range (zaa zad zab)) (zan (i:=4) zbL.nd rfl (Or.inr rfl)) (zaf (zcv wY rfl (zbv rfl T.z_range (zaa (pv 1) zab)) (zan (i:=5) zbL.nd rfl (Or.inr rfl)) (zaf (zam (i:=3) zbL.nd rfl (Or.inl rfl) (zaw zaC (pv 3) (zaV rfl (zaO.by (N':=["_law_b","_law_a","_law_delay"]) (src:=[none,some 5,some 4]) rfl (show zaK _ (zae zck).names ["_law_pen_here","_law_many","_law_great","_law_left","_law_delay","_law_a","_law_near","_law_ties_here","_law_k"] ["_law_b","_law_a","_law_delay"] [none,some 5,some 4] = true from by decide +kernel)) (zbv rfl T.z_range (zaa (pv 1) zab)) (λ _ _ _ _ _=>(zan (i:=0) (show (["_law_b","_law_a","_law_delay"] : List Str).Nodup from by decide) rfl (Or.inl rfl))) (λ _ _ _ _ _=>(zd2 (zau (show OpR _ (compareOp .NotEq) (zek K) from zdK hu) (pv 0) (pv 1) (zaH _)))) (λ _ _ _ _ _=>by exact (show PE _ _ (znW K _) from zaD (zaa (pv 1) (zaa (pv 0) (zaa (pv 2) zab))))))))))))
     (zac (zam (i:=6) zbL.nd rfl (Or.inl rfl) (zaj zah (zaP (zaa zad (zaa zad zab))) (zai (zat T) (hr.mono (by decide)) rfl T.g_law_draw T.F_law_draw.kp T.b_law_draw .nil zaq (zaa (pv 0) (zaa zad zab))) (λ _ _=>rfl)))
     (zac (zam (i:=7) zbL.nd rfl (Or.inl rfl) (zaP zab))
     (zac (zcv wY rfl (zbv rfl T.z_range (zaa (zao (show zal _ (.builtin "min") zmf from zig rfl) rfl T.z_min zoS (zaa (zao (show zal _ (.builtin "len") (zb7 K) from zax) rfl T.z_len za2 (zaa (pv 3) zab)) (zaa (zai (zat T) (hr.mono (by decide)) rfl T.g_law_draw T.F_law_draw.kp T.b_law_draw .nil zaq (zaa (pv 0) (zaa (zaj zah (zaP (zaa zad (zaa zad zab))) (zak zdb rfl T.z_int zfj (zaa (pv 2) zab)) (λ _ _=>rfl)) zab))) zab))) zab)) (zan (i:=8) zbL.nd rfl (Or.inl rfl)) (zaf (zdw (ze3 vE vJ vK zb0 (pv 7) (zaa (ze3 vE PySem.F.slot_list_pop PySem.F.type_list_pop znD (pv 3) (zaa (zai (zat T) (hr.mono (by decide)) rfl T.g_law_draw T.F_law_draw.kp T.b_law_draw .nil zaq (zaa (pv 0) (zaa (zaw zaC zad (zaw zev (zaw zf5 (zao (show zal _ (.builtin "len") (zb7 K) from zax) rfl T.z_len za2 (zaa (pv 3) zab)) zad) (pv 6))) zab))) zab)) zab)))))
     (zaf (zas (pv 7)))))))),?_⟩
 clear hu
 try clear hgd
 try dsimp only [zbz,zbb]
 rw [show start ["_law_pen_here","_law_many","_law_great","_law_left","_law_delay","_law_a","_law_near","_law_ties_here","_law_k"] [x0,x1,x2] = [some x0,some x1,some x2,none,none,none,none,none,none] from rfl];obtain ⟨p,k,n,g,rfl,rfl,rfl,hp,h8,q⟩:=h;wtm_at "gg";refine zcX (by simp) (λ ll0 H1 n1 S1 e1=>?_);wtm_at "gg"
 refine zdN (n:=5) (by decide) (by decide) (λ d σ H'=>∃ (o4 o5 : Option V) (ll : Addr) (us : List V) (L : List (List Int)),σ = [some (.ref p),some (.int (n : Int)),some (.bl g),some (.ref ll),o4,o5,none,none,none] /\ zag H H' /\ H ll = none /\ H' ll = some (.lst us) /\ IsAll K H' us (L.map TZ) /\ zel n d 0 L)
   ⟨_,_,ll0,[],[],rfl,S1,n1,e1,.nil,⟨by simp,WR,by simp,by simp⟩⟩ ?_ ?_
 . rintro d σ H2 hd ⟨o4,o5,ll,us,L,rfl,S2,nl,e2,t2,T2⟩
   have hd5 : d < 5:=hd;wtm_at "gg"
   refine zdN (n:=(n : Int)) (by omega) (by omega) (λ a σ H'=>∃ (o5 : Option V) (ll : Addr) (us : List V) (L : List (List Int)),σ = [some (.ref p),some (.int (n : Int)),some (.bl g),some (.ref ll),some (.int (d : Int)),o5,none,none,none] /\ zag H H' /\ H ll = none /\ H' ll = some (.lst us) /\ IsAll K H' us (L.map TZ) /\ zel n d a L)
     ⟨_,ll,us,L,rfl,S2,nl,e2,t2,T2⟩ ?_ ?_
   . rintro a σ H3 ha ⟨o5,ll,us,L,rfl,S3,nl,e3,t3,T3⟩
     have ha : a < n:=by omega
     wtm_at "gg";refine zcz (n:=(n : Int)) (by omega) (by omega) (λ D j ys σ' H'=>(∃ o,σ' = [o,some (.int (a : Int)),some (.int (d : Int))]) /\ H3 D = none /\ zag H3 H' /\ H' D = some (.lst ys) /\ IsAll K H' ys ((zcH a d j).map TZ)) (λ D H' n s e=>⟨⟨_,rfl⟩,n,s,e,.nil⟩) ?_ ?_
     . rintro D j ys σ' H4 hj ⟨⟨o,rfl⟩,nD,S4,eD,t4⟩
       have hj : j < n:=by omega
       have hyl : ys.length <= j:=by
         have:=t4.length;rw [wd] at this;have:=ze7 a d j;omega
       wtm_at "gg"
       . rename_i z
         refine zbh (ds:=[.int (a : Int),.int (j : Int),.int (d : Int)]) (by simp) (.cons (zbf.mpr rfl) (.cons (zbf.mpr rfl) (.cons (zbf.mpr rfl) .nil))) (λ v5 H5 S5 i5=>?_);refine zbS (S5 _ _ eD) (by omega) (λ H6 E6 e6=>⟨⟨_,rfl⟩,nD,(S4.trans S5).grow nD E6,e6,?_⟩);have k6:=E6.keep (S5 _ _ eD);rw [zgx,if_neg (by intro e; exact z (by omega)),wB];exact (IsAll.keep (S5.keep.trans k6) _ _ (zba _) t4).append (.cons (Is.thruI (ns:=[(a : Int),(j : Int),(d : Int)]) i5 k6) .nil)
       . rename_i z
         refine ⟨ys,⟨_,rfl⟩,nD,S4,eD,?_⟩;rw [zgx,if_pos (by omega),vS];exact t4
     . rintro D ys σ' H4 ⟨_,nD,S4,eD,t4⟩
       rw [wG] at t4
       have hyl : ys.length <= n:=by
         have:=t4.length;rw [wd] at this;have:=ze7 a d n;omega
       have hul : us.length = L.length:=by rw [t3.length,wd]
       have hLl:=T3.len;wtm_at "gg";refine zby (S4 _ _ e3) eD (WD (zb4 (by omega))) (λ l5 H5 n5 S5 e5=>?_);have S35:=S4.trans S5;wtm_at "gg";refine ⟨_,l5,us ++ ys,L ++ zcH a d n,rfl,S3.trans S35,zb3 (S3.trans S4) n5,e5,?_,T3.row h8 ha (by omega)⟩;rw [wB];exact (IsAll.same S35 _ _ t3).append (IsAll.same S5 _ _ t4)
   . rintro σ H3 ⟨o5,ll,us,L,rfl,S3,nl,e3,t3,T3⟩
     refine ⟨_,_,ll,us,L,rfl,S3,nl,e3,t3,?_⟩;exact T3.up h8
 . rintro σ H2 ⟨o4,o5,ll,us,L,rfl,S2,nl,e2,t2,T2⟩
   have hLl:=T2.len;have hul : us.length = L.length:=by rw [t2.length,wd]
   have P2:=hp.same S2;have nlp : ll ≠ p:=Pen.ne nl hp;wtm_at "ga";rename_i l3 H3 n3 S3 e3 r4 H4 r40 r41 E4 K4 P4 near hnear lt H5 n5 S5 e5;have nltp : lt ≠ p:=Pen.ne n5 P4;have E25 : Exc p H2 H5:=S3.exc.trans (E4.trans S5.exc);have K25 : zaM H2 H5:=S3.keep.trans (K4.trans S5.keep);have el5:=E25.at nlp e2;have t5 : IsAll K H5 us (L.map TZ):=IsAll.keep K25 _ _ (zba _) t2;have P5:=P4.same S5;have E05 : Exc p H H5:=S2.exc.trans E25;have K05 : zaM H H5:=S2.keep.trans K25
   have nlt0 : H lt = none:=by
     cases z : H lt with
     | none=>rfl
     | some o=>rw [(S2.exc.trans (S3.exc.trans E4)) lt o nltp z] at n5; cases n5
   have nll : ll ≠ lt:=λ z=>by
     subst z;rw [(S3.exc.trans E4).at nlp e2] at n5;cases n5
   clear S3 E4 K4 P4 S5 e3 n3 E25 K25 n5;refine zaS (.of el5) ?_;wtm_at "ga";rename_i l6 H6 n6 S6 e6 m hm r7 H7 r70 r71 E7 K7 P7 c7 c71 c72 c73;have E57 : Exc p H5 H7:=S6.exc.trans E7;have K57 : zaM H5 H7:=S6.keep.trans K7;have el7:=E57.at nlp el5;have et7:=E57.at nltp e5;have t7 : IsAll K H7 us (L.map TZ):=IsAll.keep K57 _ _ (zba _) t5;have E07:=E05.trans E57;have K07:=K05.trans K57;have hm61 : m <= 61:=by omega
   clear S6 E7 K7 e6 n6 E57 K57 el5 e5 t5 E05 K05 P5
   refine zdN (n:=c7) (by omega) (by omega) (λ i σ H'=>∃ (o8 : Option V) (us vs : List V) (L T : List (List Int)),σ = [some (.ref p),some (.int (n : Int)),some (.bl g),some (.ref ll),o4,o5,some (.int near),some (.ref lt),o8] /\ (∀ b o,b ≠ p -> H b = some o -> H' b = some o) /\ zaM H H' /\ Pen H' p k /\ H' ll = some (.lst us) /\ H' lt = some (.lst vs) /\ IsAll K H' us (L.map TZ) /\ IsAll K H' vs (T.map TZ) /\ (∀ t ∈ T ++ L,zdh n t) /\ (T ++ L).Nodup /\ T.length = i /\ c7 <= (L.length : Int) + i /\ L.length <= 280)
     ⟨_,us,[],L,[],rfl,E07,K07,P7,el7,et7,t7,.nil,T2.ok,T2.nd,rfl,by omega,by omega⟩ ?_ ?_
   . rintro i σ H8 hi ⟨o8,us,vs,L,T,rfl,X8,K8,P8,el8,et8,tl8,tt8,ok8,nd8,hT8,hc8,hL8⟩
     have hul : us.length = L.length:=by rw [tl8.length,wd]
     have hvl : vs.length = T.length:=by rw [tt8.length,wd]
     have hi60 : i < 61:=by omega
     have hL1 : 1 <= L.length:=by omega
     wtm_at "gg";refine zec (.of et8) ?_;wtm_at "gg";refine zec (.of el8) ?_;wtm_at "gg";refine zaS (.of el8) ?_;rw [hul]
     have hq : 0 <= ((L.length : Int) - 1).fdiv near /\ ((L.length : Int) - 1).fdiv near <= (L.length : Int) - 1:=by
       rcases hnear with rfl | rfl
       . rw [Int.fdiv_one]; omega
       . rw [Int.fdiv_eq_ediv_of_nonneg _ (by decide)]; omega
     generalize hqq : ((L.length : Int) - 1).fdiv near = qq at hq;wtm_at "gg";refine zoH ⟨by omega,(Bd.of128 (by omega) (by omega)).mono (by decide)⟩ ?_;rw [hqq];wtm_at "gg";rename_i r9 H9 r90 r91 E9 K9 P9;have el9:=E9.at nlp el8;have et9:=E9.at nltp et8;refine zno el9 r90 (by omega) (by omega) (λ y H10 hy E10 e10=>?_);have hr : r9.toNat < L.length:=by omega
     have K10:=E10.keep el9;have et10:=E10.at (vH nll) et9;wtm_at "gg";refine zcC et10 (by omega) (λ H11 E11 e11=>?_);have K11:=E11.keep et10;have K811:=K9.trans (K10.trans K11);wtm_at "gg";obtain ⟨hj,iy⟩:=zd0 tl8 hy
     have iy' : Is K H8 y (TZ L[r9.toNat]):=by
       rw [wc,wE,we hr] at iy;exact iy
     have pm : (L[r9.toNat] :: L.eraseIdx r9.toNat).Perm L:=L2.erase_perm L r9.toNat hr
     have pm2 : ((T ++ [L[r9.toNat]]) ++ L.eraseIdx r9.toNat).Perm (T ++ L):=by
       rw [Vx];exact List.Perm.append_left T pm
     refine ⟨_,us.eraseIdx r9.toNat,vs ++ [y],L.eraseIdx r9.toNat,T ++ [L[r9.toNat]],rfl,λ b o hb h=>?_,K8.trans K811,?_,E11.at nll e10,e11,?_,?_,λ t ht=>ok8 t (pm2.mem_iff.mp ht),pm2.nodup_iff.mpr nd8,by rw [wf,hT8]; rfl,?_,?_⟩
     . exact E11 b o (zay h nlt0) (E10 b o (zay h nl) (E9 b o hb (X8 b o hb h)))
     . exact (P9.exc E10 (vH nlp)).exc E11 (vH nltp)
     . rw [<- zf8]
       exact IsAll.keep K811 _ _ (by rw [zf8]; exact zba _) (tl8.erase _)
     . rw [wB]
       exact (IsAll.keep K811 _ _ (zba _) tt8).append (.cons (iy'.thruI K811) .nil)
     . rw [qW,if_pos hr]; omega
     . rw [qW,if_pos hr]; omega
   . rintro σ H8 ⟨o8,us,vs,L,T,rfl,X8,K8,P8,el8,et8,tl8,tt8,ok8,nd8,hT8,hc8,hL8⟩
     wtm_at "gg";exact q lt H8 vs T X8 K8 P8 et8 tt8 (λ t ht=>ok8 t (vF _ ht)) (WM.mp nd8).1 (by rw [hT8]; omega)
def zhB (K : wa) : Sp:=λ vs H Q _=>∃ x0 x1,vs = [x0,x1] /\ ∃ (p : Addr) (k m : Int),x0 = .ref p /\ x1 = .int m /\ Pen H p k /\ 1 <= m /\ m <= 8 /\ ∀ v H' rs us ts,Exc p H H' -> zaM H H' -> Pen H' p k -> Is K H' v (zbF rs us ts) -> zaU rs us ts -> Q v H'
theorem zkJ {K : wa} {H : Hp} {Q : VK} {E : XK} {p : Addr} {k m : Int} (h : Pen H p k) (h1 : 1 <= m) (h8 : m <= 8) (q : ∀ v H' rs us ts,Exc p H H' -> zaM H H' -> Pen H' p k -> Is K H' v (zbF rs us ts) -> zaU rs us ts -> Q v H') : zhB K [.ref p,.int m] H Q E:=⟨_,_,rfl,p,k,m,rfl,rfl,h,h1,h8,q⟩
structure zjK (rs : List Int) (us : List (List Int)) : Prop where
 l : us.length <= rs.length
 u : ∀ i,i < us.length -> ((us.getD i []).length : Int) = rs.getD i 0 /\ ∀ x ∈ us.getD i [],0 <= x /\ x <= 60
theorem zke {α : Type} {xs : List α} {x d : α} {i : Nat} (h : i < xs.length + 1) : (xs ++ [x]).getD i d = if i < xs.length then xs.getD i d else x:=by
 rw [wc,qX]
 split
 . rw [wc]
 . have : i - xs.length = 0:=by omega
   rw [this]; rfl
theorem zjK.add {rs : List Int} {us : List (List Int)} {u : List Int} (h : zjK rs us) (hl : us.length < rs.length) (h1 : (u.length : Int) = rs.getD us.length 0) (h2 : ∀ x ∈ u,0 <= x /\ x <= 60) : zjK rs (us ++ [u]):=by
 refine ⟨by rw [wf]; exact hl,λ i hi=>?_⟩;rw [wf,vq] at hi;rw [zke hi]
 split
 . rename_i z; exact h.u i z
 . rename_i z
   have e : i = us.length:=by omega
   subst e;exact ⟨h1,h2⟩
set_option maxHeartbeats 4000000 in
theorem zkU (T : Txt K mg a) : zbB P w K mg base CX0 3 a.law_web a.fd_law_web ["_law_pen_here","_law_most"] (zhB K):=by
 refine T.F_law_web.ok zcl (λ vs H Q E h=>by obtain ⟨_,_,rfl,_⟩:=h; rfl) (λ cdv A outer s H vs Q E hr h=>?_);obtain ⟨x0,x1,rfl,h⟩:=h;have hu:=hr.units
 refine ⟨_,(zac (zam (i:=2) zcl.nd rfl (Or.inr rfl) (zdv (show OpR _ (compareOp .Eq) (zcV K) from zbI hu) (zai (zat T) (hr.mono (by decide)) rfl T.g_law_draw T.F_law_draw.kp T.b_law_draw .nil zaq (zaa (pv 0) (zaa zad zab))) zad (zaH _)))
     (zac (zam (i:=3) zcl.nd rfl (Or.inl rfl) (zaw zaC zad (zai (zat T) (hr.mono (by decide)) rfl T.g_law_draw T.F_law_draw.kp T.b_law_draw .nil zaq (zaa (pv 0) (zaa (zaj zah (zaP (zaa (pv 1) (zaa zad zab))) (zak zdb rfl T.z_int zfj (zaa (pv 2) zab)) (λ _ _=>rfl)) zab)))))
     (zac (zfk (i:=4) zcl.nd rfl (Or.inl rfl) rfl (zaO.by (N':=["_law_k","_law_pen_here","_law_great"]) (src:=[none,some 0,some 2]) rfl (show zaK _ (zae zcm).names ["_law_pen_here","_law_most","_law_great","_law_many","_law_sizes","_law_ups","_law_size","_law_high"] ["_law_k","_law_pen_here","_law_great"] [none,some 0,some 2] = true from by decide +kernel)) (zbv rfl T.z_range (zaa (pv 3) zab)) (λ _ _ _ _ _=>(zan (i:=0) (show (["_law_k","_law_pen_here","_law_great"] : List Str).Nodup from by decide) rfl (Or.inl rfl))) (λ _ _ _ _ _=>za7) (λ _ _ _ _ _=>by exact (zaw zaC zad (zai (zat (K:=K) (mg:=mg) (a:=a) T) (hr.mono (by decide)) rfl T.g_law_draw T.F_law_draw.kp T.b_law_draw .nil zaq (zaa (pv 1) (zaa (zaj (show IxR _ (rIx K) from zah) (zpv (K:=K) rfl (zaa zad (zaa zad zab))) (zak zdb rfl T.z_int zfj (zaa (pv 2) zab)) (λ _ _=>rfl)) zab))))))
     (zac (zam (i:=5) zcl.nd rfl (Or.inl rfl) (zaP zab))
     (zac (zcv wY rfl (zdt (pv 4)) (zan (i:=6) zcl.nd rfl (Or.inl rfl)) (zac (zam (i:=7) zcl.nd rfl (Or.inr rfl) (zaj zah (zaP (zaa zad (zaa (zao (show zal _ (.builtin "min") zmf from zig rfl) rfl T.z_min zoS (zaa (zaw zaC (pv 6) zad) (zaa zad zab))) (zaa zad (zaa zad zab))))) (zai (zat T) (hr.mono (by decide)) rfl T.g_law_draw T.F_law_draw.kp T.b_law_draw .nil zaq (zaa (pv 0) (zaa zad zab))) (λ _ _=>rfl)))
     (zaf (zdw (ze3 vE vJ vK zb0 (pv 5) (zaa (zak (show zal _ (.type "tuple") (zaz K) from zap) rfl T.z_tuple zaN (zaa (zaV rfl (zaO.by (N':=["_law_p","_law_pen_here","_law_high"]) (src:=[none,some 0,some 7]) rfl (show zaK _ (zae zcm).names ["_law_pen_here","_law_most","_law_great","_law_many","_law_sizes","_law_ups","_law_size","_law_high"] ["_law_p","_law_pen_here","_law_high"] [none,some 0,some 7] = true from by decide +kernel)) (zbv rfl T.z_range (zaa (pv 6) zab)) (λ _ _ _ _ _=>(zan (i:=0) (show (["_law_p","_law_pen_here","_law_high"] : List Str).Nodup from by decide) rfl (Or.inl rfl))) (λ _ _ _ _ _=>za7) (λ _ _ _ _ _=>by exact (zai (zat (K:=K) (mg:=mg) (a:=a) T) (hr.mono (by decide)) rfl T.g_law_draw T.F_law_draw.kp T.b_law_draw .nil zaq (zaa (pv 1) (zaa (pv 2) zab))))) zab)) zab))))))
     (zaf (zas (zaD (zaa (zak (show zal _ (.type "tuple") (zaz K) from zap) rfl T.z_tuple zaN (zaa (pv 4) zab)) (zaa (zak (show zal _ (.type "tuple") (zaz K) from zap) rfl T.z_tuple zaN (zaa (pv 5) zab)) (zaa (zak (show zal _ (.type "tuple") (zaz K) from zap) rfl T.z_tuple zaN (zaa (zai (zka T) (hr.mono (by decide)) rfl T.g_law_ties T.F_law_ties.kp T.b_law_ties .nil zaq (zaa (pv 0) (zaa (pv 3) (zaa (pv 2) zab)))) zab)) zab))))))))))),?_⟩
 clear hu
 try clear hgd
 try dsimp only [zbz,zbb]
 rw [show start ["_law_pen_here","_law_most","_law_great","_law_many","_law_sizes","_law_ups","_law_size","_law_high"] [x0,x1] = [some x0,some x1,none,none,none,none,none,none] from rfl];obtain ⟨p,k,m,rfl,rfl,hp,m1,m8,q⟩:=h;wtm_at "ga";rename_i r1 H1 r10 r11 E1 K1 P1 l2 H2 n2 S2 e2 z hz r3 H3 r30 r31 E3 K3 P3;generalize decide (r1 = 5) = g at *;obtain ⟨n,hn⟩ : ∃ n : Nat,1 + r3 = (n : Int):=⟨(1 + r3).toNat,by omega⟩;rw [hn];have n1 : 1 <= n:=by omega
 have n8 : n <= 8:=by omega
 have E03 : Exc p H H3:=E1.trans (S2.exc.trans E3);have K03 : zaM H H3:=K1.trans (S2.keep.trans K3);clear E1 K1 P1 S2 e2 n2 E3 K3 hz r10 r11 r30 r31 hn;refine zcz (n:=(n : Int)) (by omega) (by omega) (λ D i ys σ' H'=>(∃ o,σ' = [o,some (.ref p),some (.bl g)]) /\ H3 D = none /\ Exc p H3 H' /\ zaM H3 H' /\ Pen H' p k /\ ∃ rs : List Int,H' D = some (.lst (rs.map V.int)) /\ rs.length = i /\ ∀ r ∈ rs,1 <= r /\ r <= 60) (λ D H' n s e=>⟨⟨_,rfl⟩,n,s.exc,s.keep,P3.same s,[],e,rfl,by simp⟩) ?_ ?_
 . rintro D i ys σ' H4 hi ⟨⟨o,rfl⟩,nD,E4,K4,P4,rs,eD,hl,hr⟩
   have hi8 : i < n:=by omega
   have nDp : D ≠ p:=Pen.ne nD P3;wtm_at "ga";rename_i l5 H5 n5 S5 e5 z5 hz5 r6 H6 r60 r61 E6 K6 P6;have eD6:=E6.at nDp (S5 _ _ eD);refine zbS eD6 (by rw [wd]; omega) (λ H7 E7 e7=>⟨⟨_,rfl⟩,nD,λ b o hb h=>?_,K4.trans (S5.keep.trans (K6.trans (E7.keep eD6))),P6.exc E7 (vH nDp),rs ++ [1 + r6],by rw [wB]; exact e7,by rw [wf,hl]; rfl,λ r hm=>?_⟩)
   . exact E7 b o (zay h nD) (E6 b o hb (S5 b o (E4 b o hb h)))
   . rcases wJ.mp hm with h | h
     . exact hr r h
     . rw [wz.mp h]; omega
 . rintro ls ys σ' H4 ⟨_,nls,E4,K4,P4,rs,els,hl,hr⟩
   rw [wG] at hl;have nlsp : ls ≠ p:=Pen.ne nls P3;have E04:=E03.trans E4;have K04:=K03.trans K4
   have nls0 : H ls = none:=by
     cases z : H ls with
     | none=>rfl
     | some o=>rw [E03 ls o nlsp z] at nls; cases nls
   clear E4 K4 P3 nls E03 K03;wtm_at "ga";rename_i lu H5 n5 S5 e5;have nlup : lu ≠ p:=Pen.ne n5 P4;have nlu : ls ≠ lu:=λ z=>by subst z; rw [els] at n5; cases n5
   have nlu0 : H lu = none:=by
     cases z : H lu with
     | none=>rfl
     | some o=>rw [E04 lu o nlup z] at n5; cases n5
   have els5:=S5 _ _ els
   refine zh5 (SqL.of els5) (λ i σ H'=>∃ (o6 o7 : Option V) (us : List V) (u : List (List Int)),σ = [some (.ref p),some (.int m),some (.bl g),some (.int (n : Int)),some (.ref ls),some (.ref lu),o6,o7] /\ (∀ b o,b ≠ p -> H b = some o -> H' b = some o) /\ zaM H H' /\ Pen H' p k /\ H' ls = some (.lst (rs.map V.int)) /\ H' lu = some (.lst us) /\ IsAll K H' us (u.map TZ) /\ u.length = i /\ zjK rs u)
     ⟨_,_,[],[],rfl,E04.trans S5.exc,K04.trans S5.keep,P4.same S5,els5,e5,.nil,rfl,⟨by simp,by simp⟩⟩ (λ i σ H' _ ⟨_,_,_,_,_,_,_,_,e,_⟩=>.of e) ?_ ?_
   . rintro i x σ H6 hx ⟨o6,o7,us,u,rfl,X6,K6,P6,els6,elu6,t6,hu6,U6⟩
     obtain ⟨hi,rfl⟩:=zfR hx;have hul : us.length = u.length:=by rw [t6.length,wd]
     have hri:=hr (rs.getD i 0) (GM.getD_mem hi);generalize hri' : rs.getD i 0 = r at *;obtain ⟨c,rfl⟩:=vQ (show 0 <= r by omega);wtm_at "ga";rename_i b1 b2 b3 b4 l7 H7 n7 S7 e7 r8 H8 r80 r81 E8 K8 P8 hi9 hhi9;have h9 : 1 <= hi9 /\ hi9 <= 61:=by omega
     have X8 : ∀ b o,b ≠ p -> H b = some o -> H8 b = some o:=λ b o hb h=>E8 b o hb (S7 b o (X6 b o hb h))
     have K68:=S7.keep.trans K8;have els8:=E8.at nlsp (S7 _ _ els6);have elu8:=E8.at nlup (S7 _ _ elu6);have t8 : IsAll K H8 us (u.map TZ):=IsAll.keep K68 _ _ (zba _) t6;have K08:=K6.trans K68;clear S7 E8 K8 e7 n7 hhi9 r80 r81 t6 X6 K6 P6 els6 elu6 K68;refine zec (.of elu8) ?_;wtm_at "gg";refine zcz (n:=(c : Int)) (by omega) (by omega) (λ D j ys σ' H'=>(∃ o,σ' = [o,some (.ref p),some (.int hi9)]) /\ H8 D = none /\ Exc p H8 H' /\ zaM H8 H' /\ Pen H' p k /\ ∃ ws : List Int,H' D = some (.lst (ws.map V.int)) /\ ws.length = j /\ ∀ x ∈ ws,0 <= x /\ x <= 60) (λ D H' n s e=>⟨⟨_,rfl⟩,n,s.exc,s.keep,P8.same s,[],e,rfl,by simp⟩) ?_ ?_
     . rintro D j ys σ' H9 hj ⟨⟨o,rfl⟩,nD,E9,K9,P9,ws,eD,hwl,hw⟩
       have nDp : D ≠ p:=Pen.ne nD P8;wtm_at "gg";rename_i r10 H10 r100 r101 E10 K10 P10;have eD10:=E10.at nDp eD;refine zbS eD10 (by rw [wd]; omega) (λ H11 E11 e11=>⟨⟨_,rfl⟩,nD,λ b o hb h=>?_,K9.trans (K10.trans (E11.keep eD10)),P10.exc E11 (vH nDp),ws ++ [r10],by rw [wB]; exact e11,by rw [wf,hwl]; rfl,λ x hm=>?_⟩)
       . exact E11 b o (zay h nD) (E10 b o hb (E9 b o hb h))
       . rcases wJ.mp hm with h | h
         . exact hw x h
         . rw [wz.mp h]; omega
     . rintro D ys σ' H9 ⟨_,nD,E9,K9,P9,ws,eD,hwl,hw⟩
       rw [wG] at hwl;have nDp : D ≠ p:=Pen.ne nD P8;wtm_at "gg";refine zbr (.of eD) (λ l10 H10 n10 S10 e10=>?_);have elu10:=S10 _ _ (E9.at nlup elu8);wtm_at "gg";refine zcC elu10 (by omega) (λ H11 E11 e11=>?_);have K11:=E11.keep elu10;have K811:=K9.trans (S10.keep.trans K11);wtm_at "gg";refine ⟨_,_,us ++ [.ref l10],u ++ [ws],rfl,λ b o hb h=>?_,K08.trans K811,(P9.same S10).exc E11 (vH nlup),E11.at nlu (S10 _ _ (E9.at nlsp els8)),e11,?_,by rw [wf,hu6]; rfl,U6.add (by omega) (by rw [hwl,hu6,hri']) hw⟩
       . exact E11 b o (zay h nlu0) (S10 b o (E9 b o hb (X8 b o hb h)))
       . rw [wB]
         exact (IsAll.keep K811 _ _ (zba _) t8).append (.cons (Is.thruI (zct.mpr ⟨l10,rfl,.of e10⟩) K11) .nil)
   . rintro σ H6 ⟨o6,o7,us,u,rfl,X6,K6,P6,els6,elu6,t6,hu6,U6⟩
     rw [wd] at hu6;wtm_at "gg";refine zbr (.of els6) (λ l7 H7 n7 S7 e7=>?_);have i7 : Is K H7 (.ref l7) (TZ rs):=zct.mpr ⟨l7,rfl,.of e7⟩;wtm_at "gg";refine zbn (zaF.mpr ⟨lu,us,rfl,.of (S7 _ _ elu6),IsAll.same S7 _ _ t6⟩) (λ w8 H8 S8 i8=>?_);wtm_at "gg";refine zjS ((P6.same S7).same S8) n8 (λ l9 H9 vs ts E9 K9 P9 e9 t9 hok hnd h60=>?_);wtm_at "gg";refine zbn (zaF.mpr ⟨l9,vs,rfl,.of e9,t9⟩) (λ w10 H10 S10 i10=>?_);wtm_at "gg";have K810:=K9.trans S10.keep;have i8 : Is K H8 w8 (TTr u):=i8;have i10 : Is K H10 w10 (TTr ts):=i10;refine zbh (ds:=[TZ rs,TTr u,TTr ts]) (by simp) (.cons ((i7.by S8).thruI K810) (.cons (i8.byK K810 (zch _)) (.cons i10 .nil))) (λ v11 H11 S11 i11=>?_);have X11 : Exc p H H11:=λ b o hb h=>S11 b o (S10 b o (E9 b o hb (S8 b o (S7 b o (X6 b o hb h)))))
     refine q v11 H11 rs u ts X11 (K6.trans (S7.keep.trans (S8.keep.trans (K810.trans S11.keep)))) ((P9.same S10).same S11) i11 ⟨by omega,by omega,hr,hu6,λ i hi=>U6.u i (by omega),h60,?_,hnd⟩;rw [hl];exact hok
def zge (K : wa) : Sp:=λ vs H Q _=>∃ x0,vs = [x0] /\ ∃ (p : Addr) (k : Int),x0 = .ref p /\ Pen H p k /\ ∀ v H' rs us ts,Exc p H H' -> zaM H H' -> Pen H' p k -> Is K H' v (zbF rs us ts) -> zaU rs us ts -> Q v H'
theorem zjw {K : wa} {H : Hp} {Q : VK} {E : XK} {p : Addr} {k : Int} (h : Pen H p k) (q : ∀ v H' rs us ts,Exc p H H' -> zaM H H' -> Pen H' p k -> Is K H' v (zbF rs us ts) -> zaU rs us ts -> Q v H') : zge K [.ref p] H Q E:=⟨_,rfl,p,k,rfl,h,q⟩
def zpj (ts : List (List Int)) : Prop:=ts.length <= 60 /\ (∀ t ∈ ts,zdh 2 t) /\ ts.Nodup
set_option maxHeartbeats 4000000 in
theorem zj2 (T : Txt K mg a) : zbB P w K mg base CX0 2 a.law_long a.fd_law_long ["_law_pen_here"] (zge K):=by
 refine T.F_law_long.ok zdz (λ vs H Q E h=>by obtain ⟨_,rfl,_⟩:=h; rfl) (λ cdv A outer s H vs Q E hr h=>?_);obtain ⟨x0,rfl,h⟩:=h;have hu:=hr.units;generalize hb : zav zbE = body;refine ⟨_,(zkR (hb.symm.trans rfl) (zam (i:=1) zdz.nd rfl (Or.inl rfl) (zaD (zaa (zaw zaC zad (zai (zat T) (hr.mono (by decide)) rfl T.g_law_draw T.F_law_draw.kp T.b_law_draw .nil zaq (zaa (pv 0) (zaa zad zab)))) (zaa (zaw zaC zad (zai (zat T) (hr.mono (by decide)) rfl T.g_law_draw T.F_law_draw.kp T.b_law_draw .nil zaq (zaa (pv 0) (zaa zad zab)))) zab)))) (zam (i:=2) zdz.nd rfl (Or.inl rfl) (zak (show zal _ (.type "tuple") (zaz K) from zap) rfl T.z_tuple zaN (zaa (zpe rfl (zaO.by (N':=["_law_size","_law_pen_here"]) (src:=[none,some 0]) rfl (show zaK _ (zae zbE).names ["_law_pen_here","_law_sizes","_law_ups","_law_ties_here"] ["_law_size","_law_pen_here"] [none,some 0] = true from by decide +kernel)) (zdJ (pv 1)) (λ _ _ _ _ _=>(zan (i:=0) (show (["_law_size","_law_pen_here"] : List Str).Nodup from by decide) rfl (Or.inl rfl))) (λ _ _ _ _ _=>za7) (λ hcl _ _ _ _ _=>(zak (show zal _ (.type "tuple") (zaz K) from zap) rfl T.z_tuple zaN (zaa (zaV rfl (zaO.by2 (N2:=["_law_p","_law_pen_here"]) (src2:=[none,some 1]) rfl (show zaK _ (zg4 (zae zbE).kind _ (zae zbE).names) ["_law_size","_law_pen_here"] ["_law_p","_law_pen_here"] [none,some 1] = true from by decide +kernel) hcl) (zbv rfl T.z_range (zaa (pv 0) zab)) (λ _ _ _ _ _=>(zan (i:=0) (show (["_law_p","_law_pen_here"] : List Str).Nodup from by decide) rfl (Or.inl rfl))) (λ _ _ _ _ _=>za7) (λ _ _ _ _ _=>(zai (zat (K:=K) (mg:=mg) (a:=a) T) (hr.mono (by decide)) rfl T.g_law_draw T.F_law_draw.kp T.b_law_draw .nil zaq (zaa (pv 1) (zaa zad zab))))) zab)))) zab))) (.cons (λ _=>zd4) (zaD zab) (.cons (λ _=>zd4) (zaD zab) (.cons (λ _=>zd4) (zaD (zaa (zaD (zaa zad (zaa zad (zaa (zai (zat T) (hr.mono (by decide)) rfl T.g_law_draw T.F_law_draw.kp T.b_law_draw .nil zaq (zaa (pv 0) (zaa zad zab))) zab)))) zab)) (.cons (λ _=>zd4) (zaD (zaa (zaD (zaa zad (zaa zad (zaa (zai (zat T) (hr.mono (by decide)) rfl T.g_law_draw T.F_law_draw.kp T.b_law_draw .nil zaq (zaa (pv 0) (zaa zad zab))) zab)))) zab)) .nil)))) (i:=3) zdz.nd rfl (Or.inl rfl) (zaf (zas (zaD (zaa (pv 1) (zaa (pv 2) (zaa (zaj zah (pv 3) (zai (zat T) (hr.mono (by decide)) rfl T.g_law_draw T.F_law_draw.kp T.b_law_draw .nil zaq (zaa (pv 0) (zaa zad zab))) (λ _ _=>rfl)) zab))))))),?_⟩
 clear hu
 try clear hgd
 try dsimp only [zbz,zbb]
 rw [show start ["_law_pen_here","_law_sizes","_law_ups","_law_ties_here"] [x0] = [some x0,none,none,none] from rfl];obtain ⟨p,k,rfl,hp,q⟩:=h;wtm_at "ga";rename_i r1 H1 r10 r11 E1 K1 P1 r2 H2 r20 r21 E2 K2 P2 vz H3 S3 i3;have E03 : Exc p H H3:=E1.trans (E2.trans S3.exc);have K03 : zaM H H3:=K1.trans (K2.trans S3.keep);have P3:=P2.same S3;obtain ⟨rs,hrs⟩ : ∃ rs,rs = [12 + r1,12 + r2]:=⟨_,rfl⟩;have i3 : Is K H3 vz (TZ rs):=by rw [hrs]; exact i3
 have hr2 : rs.length = 2:=by rw [hrs]; rfl
 have hrb : ∀ r ∈ rs,12 <= r /\ r <= 18:=λ r h=>by
   rw [hrs] at h;rcases wm.mp h with e | h
   . omega
   . rw [wz] at h; omega
 obtain ⟨ar,rfl,hsr⟩:=zct.mp i3;clear E1 K1 P1 E2 K2 P2 S3 r10 r11 r20 r21 hrs;refine zd7 hsr (λ D i ys σ' H'=>(∃ o,σ' = [o,some (.ref p)]) /\ H3 D = none /\ Exc p H3 H' /\ zaM H3 H' /\ Pen H' p k /\ ∃ (us : List V) (u : List (List Int)),H' D = some (.lst us) /\ IsAll K H' us (u.map TZ) /\ u.length = i /\ zjK rs u) (λ D H' n s e=>⟨⟨_,rfl⟩,n,s.exc,s.keep,P3.same s,[],[],e,.nil,rfl,⟨by simp,by simp⟩⟩) (λ D i ys σ' H' ⟨_,_,_,k',_⟩=>k'.sqT hsr) ?_ ?_
 . rintro D i x ys σ' H4 hx ⟨⟨o,rfl⟩,nD,E4,K4,P4,us,u,eD,t4,hu,U4⟩
   obtain ⟨hi,rfl⟩:=zfR hx;have hul : us.length = u.length:=by rw [t4.length,wd]
   have hri:=hrb (rs.getD i 0) (GM.getD_mem hi);generalize hri' : rs.getD i 0 = r at *;obtain ⟨c,rfl⟩:=vQ (show 0 <= r by omega);have nDp : D ≠ p:=Pen.ne nD P3;wtm_at "gg";refine zcz (n:=(c : Int)) (by omega) (by omega) (λ D2 j ys σ' H'=>(∃ o,σ' = [o,some (.ref p)]) /\ H4 D2 = none /\ Exc p H4 H' /\ zaM H4 H' /\ Pen H' p k /\ ∃ ws : List Int,H' D2 = some (.lst (ws.map V.int)) /\ ws.length = j /\ ∀ x ∈ ws,0 <= x /\ x <= 60) (λ D H' n s e=>⟨⟨_,rfl⟩,n,s.exc,s.keep,P4.same s,[],e,rfl,by simp⟩) ?_ ?_
   . rintro D2 j ys σ' H9 hj ⟨⟨o,rfl⟩,nD2,E9,K9,P9,ws,eD2,hwl,hw⟩
     have nDp2 : D2 ≠ p:=Pen.ne nD2 P4;wtm_at "gg";rename_i r10 H10 r100 r101 E10 K10 P10;have eD10:=E10.at nDp2 eD2;refine zbS eD10 (by rw [wd]; omega) (λ H11 E11 e11=>⟨⟨_,rfl⟩,nD2,λ b o hb h=>?_,K9.trans (K10.trans (E11.keep eD10)),P10.exc E11 (vH nDp2),ws ++ [r10],by rw [wB]; exact e11,by rw [wf,hwl]; rfl,λ x hm=>?_⟩)
     . exact E11 b o (zay h nD2) (E10 b o hb (E9 b o hb h))
     . rcases wJ.mp hm with h | h
       . exact hw x h
       . rw [wz.mp h]; omega
   . rintro D2 ys σ' H9 ⟨_,nD2,E9,K9,P9,ws,eD2,hwl,hw⟩
     rw [wG] at hwl;wtm_at "gg";refine zbr (.of eD2) (λ l10 H10 n10 S10 e10=>?_);have eD10:=S10 _ _ (E9.at nDp eD);wtm_at "gg";have K410:=K9.trans S10.keep;refine zbS eD10 (by omega) (λ H11 E11 e11=>⟨⟨_,rfl⟩,nD,λ b o hb h=>?_,K4.trans (K410.trans (E11.keep eD10)),(P9.same S10).exc E11 (vH nDp),us ++ [.ref l10],u ++ [ws],e11,?_,by rw [wf,hu]; rfl,U4.add (by omega) (by rw [hwl,hu,hri']) hw⟩)
     . exact E11 b o (zay h nD) (S10 b o (E9 b o hb (E4 b o hb h)))
     . have K11:=E11.keep eD10
       rw [wB];exact (IsAll.keep (K410.trans K11) _ _ (zba _) t4).append (.cons (Is.thruI (zct.mpr ⟨l10,rfl,.of e10⟩) K11) .nil)
 . rintro D ys σ' H4 ⟨_,nD,E4,K4,P4,us,u,eD,t4,hu,U4⟩
   rw [wd] at hu;wtm_at "gg";refine zbn (zaF.mpr ⟨D,us,rfl,.of eD,t4⟩) (λ w5 H5 S5 i5=>?_);have i5 : Is K H5 w5 (TTr u):=i5;have E05 : Exc p H H5:=E03.trans (E4.trans S5.exc);have K05 : zaM H H5:=K03.trans (K4.trans S5.keep);have P5:=P4.same S5;have j5 : Is K H5 (.ref ar) (TZ rs):=i3.thruI (K4.trans S5.keep);clear E03 K03 P3 E4 K4 P4 S5 eD t4 nD i3 hsr
   have tie : ∀ (x y z : Int),(x = 0 /\ y = 1 \/ x = 1 /\ y = 0) -> 0 <= z -> z < 5 -> zpj [[x,y,z]]:=λ x y z h h0 h5=>⟨by simp,λ t ht=>by
     rw [wz] at ht;subst ht;obtain ⟨n,rfl⟩:=vQ h0;rcases h with ⟨rfl,rfl⟩ | ⟨rfl,rfl⟩
     . exact ⟨0,1,n,rfl,by decide,by decide,by decide,by omega⟩
     . exact ⟨1,0,n,rfl,by decide,by decide,by decide,by omega⟩,by simp⟩
   wtm_at "ga";refine zgC ?_;wtm_at "gg";refine zbh (ds:=[]) (by simp) .nil (λ v6 H6 S6 i6=>?_);refine zgC ?_;wtm_at "gg";refine zbh (ds:=[]) (by simp) .nil (λ v7 H7 S7 i7=>?_);have P7:=(P5.same S6).same S7;have E57 : Exc p H5 H7:=S6.exc.trans S7.exc;have K57 : zaM H5 H7:=S6.keep.trans S7.keep;have i67 : Is K H7 v6 (TTr []):=i6.by S7;have i7 : Is K H7 v7 (TTr []):=i7;clear S6 S7 i6 P5;refine zgC ?_;wtm_at "gg";rename_i d8 H8 d80 d81 E8 K8 P8;refine zbh (ds:=[.int 0,.int 1,.int d8]) (by simp) (.cons (zbf.mpr rfl) (.cons (zbf.mpr rfl) (.cons (zbf.mpr rfl) .nil))) (λ v9 H9 S9 i9=>?_);wtm_at "gg";refine zbh (ds:=[TZ [0,1,d8]]) (by simp) (.cons (show Is K H9 v9 (TZ [0,1,d8]) from i9) .nil) (λ v10 H10 S10 i10=>?_);refine zgC ?_;wtm_at "gg";rename_i d11 H11 d110 d111 E11 K11 P11;refine zbh (ds:=[.int 1,.int 0,.int d11]) (by simp) (.cons (zbf.mpr rfl) (.cons (zbf.mpr rfl) (.cons (zbf.mpr rfl) .nil))) (λ v12 H12 S12 i12=>?_);wtm_at "gg";refine zbh (ds:=[TZ [1,0,d11]]) (by simp) (.cons (show Is K H12 v12 (TZ [1,0,d11]) from i12) .nil) (λ v13 H13 S13 i13=>?_);refine zov ?_;refine zcX (by simp) (λ l14 H14 n14 S14 e14=>?_);have K714:=K8.trans (S9.keep.trans (S10.keep.trans (K11.trans (S12.keep.trans (S13.keep.trans S14.keep)))));have E714 : Exc p H7 H14:=E8.trans (S9.exc.trans (S10.exc.trans (E11.trans (S12.exc.trans (S13.exc.trans S14.exc)))));have K1014:=K11.trans (S12.keep.trans (S13.keep.trans S14.keep));have P14:=((P11.same S12).same S13).same S14;have a6 : Is K H14 v6 (TTr []):=i67.byK K714 (zch _)
   have a7 : Is K H14 v7 (TTr []):=i7.byK K714 (zch _);have a10 : Is K H14 v10 (TTr [[0,1,d8]]):=(show Is K H10 v10 (TTr [[0,1,d8]]) from i10).byK K1014 (zch _);have a13 : Is K H14 v13 (TTr [[1,0,d11]]):=(show Is K H13 v13 (TTr [[1,0,d11]]) from i13).by S14;wtm_at "gg";rename_i d15 H15 d150 d151 E15 K15 P15;have nlp : l14 ≠ p:=Pen.ne n14 ((P11.same S12).same S13);refine zd3 (λ x=>∃ ts,Is K H15 x (TTr ts) /\ zpj ts) (.of (E15.at nlp e14)) d150 (by simpa using d151) (λ x hx=>?_) (λ x ⟨ts,hx,lt⟩=>?_)
   . have emp : zpj []:=⟨by simp,by simp,by simp⟩
     rcases wm.mp hx with rfl | hx
     . exact ⟨_,a6.byK K15 (zch _),emp⟩
     rcases wm.mp hx with rfl | hx
     . exact ⟨_,a7.byK K15 (zch _),emp⟩
     rcases wm.mp hx with rfl | hx
     . exact ⟨_,a10.byK K15 (zch _),tie 0 1 d8 (.inl ⟨rfl,rfl⟩) d80 d81⟩
     rw [wz] at hx;subst hx;exact ⟨_,a13.byK K15 (zch _),tie 1 0 d11 (.inr ⟨rfl,rfl⟩) d110 d111⟩
   . have K515:=K57.trans (K714.trans K15)
     wtm_at "gg";refine zbh (ds:=[TZ rs,TTr u,TTr ts]) (by simp) (.cons (j5.thruI K515) (.cons (i5.byK K515 (zch _)) (.cons hx .nil))) (λ v16 H16 S16 i16=>?_);exact q v16 H16 rs u ts (E05.trans (E57.trans (E714.trans (E15.trans S16.exc)))) (K05.trans (K515.trans S16.keep)) (P15.same S16) i16 ⟨by omega,by omega,λ r hr'=>by have:=hrb r hr'; omega,hu,λ i hi=>U4.u i (by omega),lt.1,by rw [hr2]; exact lt.2.1,lt.2.2⟩
def zfp (K : wa) : Sp:=λ vs H Q _=>∃ x0 x1 x2 x3,vs = [x0,x1,x2,x3] /\ ∃ (rs : List Int) (us ts : List (List Int)) (w : Nat) (p m : Int),Is K H x0 (zbF rs us ts) /\ zaU rs us ts /\ x1 = .int (w : Int) /\ w < rs.length /\ x2 = .int p /\ x3 = .int m /\ 0 <= p /\ 0 <= m /\ Q (.int (zbg (rs.getD w 0) (us.getD w []) m.toNat (p + 1))) H
theorem ziN {K : wa} {H : Hp} {Q : VK} {E : XK} {v : V} {rs : List Int} {us ts : List (List Int)} {w : Nat} {p m : Int} (h : Is K H v (zbF rs us ts)) (ok : zaU rs us ts) (hw : w < rs.length) (hp : 0 <= p) (h0 : 0 <= m) (q : Q (.int (zbg (rs.getD w 0) (us.getD w []) m.toNat (p + 1))) H) : zfp K [v,.int (w : Int),.int p,.int m] H Q E:=⟨_,_,_,_,rfl,rs,us,ts,w,p,m,h,ok,rfl,hw,rfl,rfl,hp,h0,q⟩
set_option maxHeartbeats 4000000 in
theorem zjs (T : Txt K mg a) : zbB P w K mg base CX0 1 a.law_phase a.fd_law_phase ["_law_web_here","_law_worm","_law_phase_here","_law_many"] (zfp K):=by
 refine T.F_law_phase.ok zc3 (λ vs H Q E h=>by obtain ⟨_,_,_,_,rfl,_⟩:=h; rfl) (λ cdv A outer s H vs Q E hr h=>?_);obtain ⟨x0,x1,x2,x3,rfl,h⟩:=h;have hu:=hr.units
 refine ⟨_,(zac (zam (i:=2) zc3.nd rfl (Or.inl rfl) (zaw zaC (pv 2) zad))
     (zac (zfl wY (PW.pt (zeF (zau zlL (pv 3) zad (zaH _)) (zd5 (zau zqT (pv 2) (zaj zah (zaj zah (pv 0) zad (λ _ _=>rfl)) (pv 1) (λ _ _=>rfl)) (zaH _))))) (zac (zam (i:=2) zc3.nd rfl (Or.inl rfl) (zaw zaC (pv 2) (zaj zah (zaj zah (zaj zah (pv 0) zad (λ _ _=>rfl)) (pv 1) (λ _ _=>rfl)) (pv 2) (λ _ _=>rfl))))
     (zaf (zam (i:=3) zc3.nd rfl (Or.inl rfl) (zaw zf5 (pv 3) zad)))))
     (zaf (zas (pv 2))))),?_⟩
 clear hu
 try clear hgd
 try dsimp only [zbz,zbb]
 rw [show start ["_law_web_here","_law_worm","_law_phase_here","_law_many"] [x0,x1,x2,x3] = [some x0,some x1,some x2,some x3] from rfl];obtain ⟨rs,us,ts,w,p,m,hw',ok,rfl,hw,rfl,rfl,hp,h0,q⟩:=h;obtain ⟨hul,hub⟩:=ok.u w hw;wtm_at "gg";refine zeR (λ k σ H'=>H' = H /\ ∃ p' : Int,0 <= p' /\ σ = [some x0,some (.int (w : Int)),some (.int p'),some (.int (k : Int))] /\ zbg (rs.getD w 0) (us.getD w []) k p' = zbg (rs.getD w 0) (us.getD w []) m.toNat (p + 1)) m.toNat ⟨rfl,p + 1,by omega,by rw [show ((m.toNat : Nat) : Int) = m by omega],rfl⟩ ?_;rintro k σ H1 ⟨rfl,p',hp',rfl,em⟩
 have rest : (k = 0 \/ rs.getD w 0 <= p') -> p' = zbg (rs.getD w 0) (us.getD w []) m.toNat (p + 1):=by
   rintro (z | z)
   . subst z; exact em
   . rw [zfW z] at em; exact em
 wtm_at "gg"
 . rename_i z
   refine zcO hw' (λ x2 i2=>?_);wtm_at "gg";refine zb6 i2 (by omega) (by omega) ?_;rw [wG];wtm_at "gg"
   . rename_i z2
     refine zfM ?_;wtm_at "gg";refine zgB hw' (λ x5 i5=>?_);wtm_at "gg";refine zep i5 (by omega) (by rw [ok.ul]; omega) (λ x6 i6=>?_);rw [wG] at i6;wtm_at "gg";refine zb6 i6 (by omega) (by omega) ?_;wtm_at "gg";have hx:=zfE (P:=λ x=>0 <= x /\ x <= 60) (d:=0) hub (by decide) p'.toNat;refine ⟨k - 1,by omega,rfl,p' + (us.getD w []).getD p'.toNat 0,by omega,?_,?_⟩
     . rw [show (((k - 1 : Nat) : Int)) = (k : Int) - 1 by omega]
     . rw [<- em]
       obtain ⟨k',rfl⟩ : ∃ k',k = k' + 1:=⟨k - 1,by omega⟩;rw [Qm,zbg,if_neg (by omega)]
   . rename_i z2
     wtm_at "gg";rw [rest (.inr (by omega))];exact q
 . rename_i z
   wtm_at "gg";rw [rest (.inl (by omega))];exact q
def zcA (H : Hp) (ads : List Addr) (rows : List (List Int)) : Prop:=ads.length = rows.length /\ ∀ i a,ads[i]? = some a -> H a = some (.lst ((rows.getD i []).map V.int))
def zeW (K : wa) : Sp:=λ vs H Q _=>∃ x0 x1 x2,vs = [x0,x1,x2] /\ ∃ (rs : List Int) (us ts cm : List (List Int)) (lg : Addr) (g : List Nat),Is K H x0 (zbF rs us ts) /\ zaU rs us ts /\ Is K H x1 (TTr cm) /\ cm.length = 4 /\ (∀ d,d < 4 -> (cm.getD d []).length = rs.length) /\ x2 = .ref lg /\ H lg = some (.lst (vz g)) /\ ∀ v H',zag H H' -> Is K H' v (TTr (zfN ts cm g rs.length)) -> Q v H'
theorem zhX {K : wa} {H : Hp} {Q : VK} {E : XK} {v w : V} {rs : List Int} {us ts cm : List (List Int)} {lg : Addr} {g : List Nat} (h : Is K H v (zbF rs us ts)) (ok : zaU rs us ts) (h2 : Is K H w (TTr cm)) (h3 : cm.length = 4) (h4 : ∀ d,d < 4 -> (cm.getD d []).length = rs.length) (h5 : H lg = some (.lst (vz g))) (q : ∀ v H',zag H H' -> Is K H' v (TTr (zfN ts cm g rs.length)) -> Q v H') : zeW K [v,w,.ref lg] H Q E:=⟨_,_,_,rfl,rs,us,ts,cm,lg,g,h,ok,h2,h3,h4,rfl,h5,q⟩
theorem zcA.app {H : Hp} {ads : List Addr} {rows : List (List Int)} {l : Addr} {r : List Int} (h : zcA H ads rows) (e : H l = some (.lst (r.map V.int))) : zcA H (ads ++ [l]) (rows ++ [r]):=by
 refine ⟨by rw [wf,wf,h.1]; rfl,λ i a ha=>?_⟩;have hi:=zes ha;rw [wf,vq] at hi;rw [zke (by rw [<- h.1]; exact hi),<- h.1]
 split
 . rename_i z
   rw [vv z] at ha;exact h.2 i a ha
 . rename_i z
   have e1 : i = ads.length:=by omega
   subst e1;rw [vp (wg _),VR] at ha;cases ha;exact e
theorem zcA.mono {H H' : Hp} {ads : List Addr} {rows : List (List Int)} (h : zcA H ads rows) (k : ∀ a ∈ ads,∀ o,H a = some o -> H' a = some o) : zcA H' ads rows:=⟨h.1,λ i a ha=>k a (Wg ha) _ (h.2 i a ha)⟩
theorem zdn (ts : List (List Int)) (g : List Nat) (row : List Int) (d n : Nat) : (zbi ts g row d n).length = n:=by simp [zbi]
theorem zf1 {ts : List (List Int)} {g : List Nat} {row : List Int} {d n j : Nat} (h : j < (zbi ts g row d n).length) : (zbi ts g row d n)[j] = row.getD j 0 + (zcr ts g j d : Int):=by
 simp only [zbi,vU,W4]
theorem zgp {ts : List (List Int)} {g : List Nat} {row : List Int} {d n k : Nat} (hk : k < ts.length) (h : ∀ w,zdr g w d ts[k] = false) : zbi (ts.take (k + 1)) g row d n = zbi (ts.take k) g row d n:=by
 unfold zbi;refine Wp λ w _=>?_
 rw [zfF hk,h w]; simp
theorem zkZ {ts : List (List Int)} {g : List Nat} {row : List Int} {a b d n k : Nat} (hk : k < ts.length) (e : ts[k] = [(a : Int),(b : Int),(d : Int)]) (ha : a ∈ g) (hb : b < n) : zbi (ts.take (k + 1)) g row d n = (zbi (ts.take k) g row d n).set b ((zbi (ts.take k) g row d n).getD b 0 + 1):=by
 refine We (by rw [vD,zdn,zdn]) λ j h1 h2=>?_
 rw [zdn] at h1;rw [List.getElem_set]
 have is : zdr g j d ts[k] = decide (b = j):=by
   rw [e];unfold zdr;have e0 : (([(a : Int),(b : Int),(d : Int)] : List Int).getD 0 0).toNat = a:=by simp
   rw [e0,decide_eq_true ha,Wx]
   show (decide ((b : Int) = (j : Int)) && decide ((d : Int) = (d : Int))) = decide (b = j)
   rw [decide_eq_true (rfl : (d : Int) = (d : Int)),xV,decide_eq_decide];omega
 have g0 : ∀ i,i < n -> (zbi (ts.take k) g row d n).getD i 0 = row.getD i 0 + (zcr (ts.take k) g i d : Int):=λ i hi=>by unfold zbi; rw [zbx hi]
 rw [zf1,zfF hk,is]
 by_cases z : b = j
 . subst z
   rw [if_pos rfl,decide_eq_true rfl,if_pos rfl,g0 b hb];omega
 . rw [if_neg z,decide_eq_false z,if_neg (by decide),zf1]
   omega
theorem zku {g : List Nat} {row : List Int} {d n : Nat} (h : row.length = n) : zbi [] g row d n = row:=by
 refine We (by rw [zdn,h]) λ j h1 h2=>?_
 rw [zf1,wc,we h2];simp [zcr]
set_option maxHeartbeats 4000000 in
theorem zhW (T : Txt K mg a) : zbB P w K mg base CX0 1 a.law_coming a.fd_law_coming ["_law_web_here","_law_coming_here","_law_gone"] (zeW K):=by
 refine T.F_law_coming.ok zcd (λ vs H Q E h=>by obtain ⟨_,_,_,rfl,_⟩:=h; rfl) (λ cdv A outer s H vs Q E hr h=>?_);obtain ⟨x0,x1,x2,rfl,h⟩:=h;have hu:=hr.units
 refine ⟨_,(zac (zam (i:=3) zcd.nd rfl (Or.inl rfl) (zaw zaC (zaV rfl (zaO.by (N':=["_law_row"]) (src:=[none]) rfl (show zaK _ (zae zbk).names ["_law_web_here","_law_coming_here","_law_gone","_law_rows","_law_a","_law_b","_law_delay"] ["_law_row"] [none] = true from by decide +kernel)) (zdJ (zaT zbq (pv 1) (za4 zad) za5)) (λ _ _ _ _ _=>(zan (i:=0) (show (["_law_row"] : List Str).Nodup from by decide) rfl (Or.inl rfl))) (λ _ _ _ _ _=>za7) (λ _ _ _ _ _=>(zak (show zal _ (.type "list") (zcN K) from zcj) rfl T.z_list zc9 (zaa (pv 0) zab)))) (zaP (zaa (zaV rfl (zaO.by (N':=["_law_worm"]) (src:=[none]) rfl (show zaK _ (zae zbk).names ["_law_web_here","_law_coming_here","_law_gone","_law_rows","_law_a","_law_b","_law_delay"] ["_law_worm"] [none] = true from by decide +kernel)) (zdJ (zaj zah (pv 0) zad (λ _ _=>rfl))) (λ _ _ _ _ _=>(zan (i:=0) (show (["_law_worm"] : List Str).Nodup from by decide) rfl (Or.inl rfl))) (λ _ _ _ _ _=>za7) (λ _ _ _ _ _=>zad)) zab))))
     (zac (zcv wY rfl (zdJ (zaj zah (pv 0) zad (λ _ _=>rfl))) (zcZ (n:=3) rfl (zaJ (zan (i:=4) zcd.nd rfl (Or.inl rfl)) (zaJ (zan (i:=5) zcd.nd rfl (Or.inl rfl)) (zaJ (zan (i:=6) zcd.nd rfl (Or.inl rfl)) zcf)))) (zaf (zbm (PW.pt (zeF (zau zlL (pv 6) zad (zaH _)) (zd5 (zau (show OpR _ (compareOp .In) (rIn K false) from zjp) (pv 4) (pv 2) (by with_unfolding_all rfl))))) (zaf (zeD (zaw zaC (zaj zah (zaj zah (pv 3) (zaw zf5 (pv 6) zad) (λ _ _=>rfl)) (pv 5) (λ _ _=>rfl)) zad) (zd9 (zaj zah (pv 3) (zaw zf5 (pv 6) zad) (λ _ _=>rfl)) (pv 5) zcs))) zaL)))
     (zaf (zas (zak (show zal _ (.type "tuple") (zaz K) from zap) rfl T.z_tuple zaN (zaa (zaV rfl (zaO.by (N':=["_law_row"]) (src:=[none]) rfl (show zaK _ (zae zbk).names ["_law_web_here","_law_coming_here","_law_gone","_law_rows","_law_a","_law_b","_law_delay"] ["_law_row"] [none] = true from by decide +kernel)) (zdt (pv 3)) (λ _ _ _ _ _=>(zan (i:=0) (show (["_law_row"] : List Str).Nodup from by decide) rfl (Or.inl rfl))) (λ _ _ _ _ _=>za7) (λ _ _ _ _ _=>(zak (show zal _ (.type "tuple") (zaz K) from zap) rfl T.z_tuple zaN (zaa (pv 0) zab)))) zab)))))),?_⟩
 clear hu
 try clear hgd
 try dsimp only [zbz,zbb]
 rw [show start ["_law_web_here","_law_coming_here","_law_gone","_law_rows","_law_a","_law_b","_law_delay"] [x0,x1,x2] = [some x0,some x1,some x2,none,none,none,none] from rfl];obtain ⟨rs,us,ts,cm,lg,g,hw,ok,hc,h4,hrow,rfl,eg,q⟩:=h;have n8:=ok.n8;wtm_at "gg";refine zjd hc (by rw [wd,h4]; decide) (λ w1 H1 S1 i1=>?_);rw [zio,<- xU] at i1;wtm_at "gg";obtain ⟨a1,cus,rfl,hsc,tc⟩:=zaI.mp i1;have hcl:=tc.length;rw [wd,vL,h4] at hcl;refine zd7 hsc (λ D i ys σ' H'=>(∃ o,σ' = [o]) /\ H1 D = none /\ zag H1 H' /\ H' D = some (.lst ys) /\ ∃ ads : List Addr,ys = ads.map V.ref /\ ads.Nodup /\ (∀ a ∈ ads,H1 a = none /\ a ≠ D) /\ zcA H' ads (cm.tail.take i)) (λ D H' n s e=>⟨⟨_,rfl⟩,n,s,e,[],rfl,WR,by simp,⟨by simp,by simp⟩⟩) (λ D i ys σ' H' h'=>h'.2.2.1.sqT hsc) ?_ ?_
 . rintro D i x ys σ' H2 hx ⟨⟨o,rfl⟩,nD,S2,eD,ads,rfl,nd,hfr,ra⟩
   obtain ⟨hi,ix⟩:=zd0 tc hx;rw [wd] at hi;rw [wc,wE,we hi] at ix;have hal : ads.length = i:=by rw [ra.1,wC]; omega
   have hit : i < 3:=by rw [vL,h4] at hi; omega
   wtm_at "gg";refine ziC (show Is K H2 x (TZ cm.tail[i]) from Is.by S2 ix) (λ l3 H3 ys3 n3 S3 e3 t3=>?_);rw [zbA.mp t3] at e3;have nlD : l3 ≠ D:=λ z=>by subst z; rw [eD] at n3; cases n3
   have nl1 : H1 l3 = none:=zb3 S2 n3
   have nla : l3 ∉ ads:=λ z=>by
     obtain ⟨j,hj⟩:=vM.mp z;rw [ra.2 j l3 hj] at n3; cases n3
   refine zbS (S3 _ _ eD) (by rw [wd]; omega) (λ H4 E4 e4=>⟨⟨_,rfl⟩,nD,(S2.trans S3).grow nD E4,e4,ads ++ [l3],by rw [wB]; rfl,?_,λ a ha=>?_,?_⟩)
   . exact WM.mpr ⟨nd,by simp,λ x hx y hy e=>by rw [wz.mp hy] at e; subst e; exact nla hx⟩
   . rcases wJ.mp ha with h | h
     . exact hfr a h
     . rw [wz.mp h]; exact ⟨nl1,nlD⟩
   . rw [qf,we hi]
     refine zcA.app (ra.mono λ a ha o h=>E4 a o (hfr a ha).2 (S3 a o h)) (E4.at nlD e3)
 . rintro D ys σ' H2 ⟨_,nD,S2,eD,ads,rfl,nd,hfr,ra⟩
   rw [hcl,W8 (by rw [vL,h4]; decide)] at ra;have hal : ads.length = 3:=by rw [ra.1,vL,h4]
   have S02:=S1.trans S2;wtm_at "gg";refine zcO (hw.by S02) (λ x3 i3=>?_);obtain ⟨b1,rus,rfl,hy,ty⟩:=zaI.mp i3;have ly:=ty.length;rw [wd] at ly;refine zeM hy (o0:=none) (tl:=[]) rfl (λ j y H'=>y = .int 0) ?_ ?_
   . intro D3 i x ys' o H3 hx inv
     have:=zes hx;wtm_at "gg";exact zbG inv (by omega) (λ _ _ _ _ _ z=>z) ⟨_,rfl⟩ (zag.refl _) rfl
   . intro lz zs H3 n3 S3 e3 hl3 hr3
     have hzs : zs = (wl rs.length (0 : Int)).map V.int:=by
       refine We (by rw [hl3,ly,wd,VO]) λ j h1 h2=>?_
       have:=hr3 j zs[j] (we h1);rw [this,vU,VG]
     subst hzs;wtm_at "gg";refine zcX (by simp) (λ ly H4 n4 S4 e4=>?_);have S24:=S3.trans S4;refine zby (S24 _ _ eD) e4 (WD (zb4 (by rw [wd,hal]; simp))) (λ lr H5 n5 S5 e5=>?_);have S25:=S24.trans S5;have S05:=S02.trans S25;have ra5 : zcA H5 (ads ++ [lz]) (cm.tail ++ [wl rs.length 0]):=zcA.app (ra.mono λ a _ o h=>S25 a o h) (S5 _ _ (S4 _ _ e3));have e5 : H5 lr = some (.lst ((ads ++ [lz]).map V.ref)):=by rw [e5,wB]; rfl
     have fr5 : ∀ a ∈ ads ++ [lz],H a = none /\ a ≠ lr:=λ a ha=>by
       rcases wJ.mp ha with h | h
       . refine ⟨zb3 S1 (hfr a h).1,λ z=>?_⟩
         subst z;obtain ⟨j,hj⟩:=vM.mp h;rw [S24 _ _ (ra.2 j a hj)] at n5; cases n5
       . rw [wz.mp h]
         refine ⟨zb3 S02 n3,λ z=>?_⟩;rw [<- z,S4 _ _ e3] at n5; cases n5
     have nd5 : (ads ++ [lz]).Nodup:=WM.mpr ⟨nd,by simp,λ x hx y hy e=>by
       rw [wz.mp hy] at e;subst e;obtain ⟨j,hj⟩:=vM.mp hx;rw [ra.2 j _ hj] at n3; cases n3⟩
     have hcg:=zlK (ts:=ts) (g:=g) (n:=rs.length) h4
     have hCl : ∀ d,d < 4 -> ((cm.tail ++ [wl rs.length 0]).getD d []).length = rs.length:=λ d hd=>by
       rcases wK d 3 with z | z
       . have : (cm.tail ++ [wl rs.length 0]).getD d [] = cm.getD (d + 1) []:=by
           rw [wc,vv (by rw [vL]; omega),Qy,wc]
         rw [this];exact hrow (d + 1) (by omega)
       . have e : d = 3:=by omega
         subst e;rw [wc,vp (by rw [vL]; omega),vL,h4];simp
     have hC4 : (cm.tail ++ [wl rs.length 0]).length = 4:=by rw [wf,vL,h4]; rfl
     generalize hCC : cm.tail ++ [wl rs.length 0] = C at *;have ha4 : (ads ++ [lz]).length = 4:=by rw [wf,hal]; rfl
     generalize hAA : ads ++ [lz] = A4 at *;clear ra hfr nd hal S3 S4 S24 S25 e3 e4 n3 n4 n5 eD nD S02 S2 hr3 hl3 hy ty ly i3;have w5:=hw.by S05;have eg5:=S05 _ _ eg;wtm_at "gg";refine zgH w5 (λ x6 i6=>?_);obtain ⟨at6,tus,rfl,hs6,t6⟩:=zaI.mp i6;have htl:=t6.length;rw [wd] at htl;have nlg : lg ∉ A4:=λ z=>by rw [(fr5 lg z).1] at eg; cases eg
     have rz : zcA H5 A4 ((wo 4).map λ d=>zbi (ts.take 0) g (C.getD d []) (d + 1) rs.length):=by
       refine ⟨by rw [ha4]; simp,λ i ad hi=>?_⟩;have hi4 : i < 4:=by have:=zes hi; omega
       rw [zbx hi4,List.take_zero,zku (hCl i hi4)];exact ra5.2 i ad hi
     refine zf9 hs6 (λ k σ H'=>∃ (o4 o5 o6 : Option V),σ = [some x0,some x1,some (.ref lg),some (.ref lr),o4,o5,o6] /\ (∀ b o,b ∉ A4 -> H5 b = some o -> H' b = some o) /\ zaM H5 H' /\ zcA H' A4 ((wo 4).map λ d=>zbi (ts.take k) g (C.getD d []) (d + 1) rs.length))
       ⟨_,_,_,rfl,λ b o _ h=>h,zaM.refl _,rz⟩ (λ i σ H' _ ⟨_,_,_,_,_,k,_⟩=>k.sqT hs6) ?_ ?_
     . rintro k x σ H7 hx ⟨o4,o5,o6,rfl,X7,K7,r7⟩
       obtain ⟨hk,ta,tb,td,et,h1,h2,h3,h4d,ix⟩:=zi4 t6 ok.t hx;have ix7 : Is K H7 x (TZ [(ta : Int),(tb : Int),(td : Int)]):=Is.thruI ix K7;have nlr : lr ∉ A4:=λ z=>(fr5 lr z).2 rfl
       have er7:=X7 _ _ nlr e5
       have stay : (td = 0 \/ ta ∉ g) -> zcA H7 A4 ((wo 4).map λ d=>zbi (ts.take (k + 1)) g (C.getD d []) (d + 1) rs.length):=λ hz=>by
         have e : ((wo 4).map λ d=>zbi (ts.take (k + 1)) g (C.getD d []) (d + 1) rs.length) = (wo 4).map λ d=>zbi (ts.take k) g (C.getD d []) (d + 1) rs.length:=by
           refine Wp λ d _=>zgp hk λ w=>?_
           rw [et];unfold zdr;have e0 : (([(ta : Int),(tb : Int),(td : Int)] : List Int).getD 0 0).toNat = ta:=by simp
           rw [e0];rcases hz with z | z
           . rw [show decide (([(ta : Int),(tb : Int),(td : Int)] : List Int).getD 2 0 = ((d + 1 : Nat) : Int)) = false from decide_eq_false (by show ¬ (td : Int) = _; omega),Wi,Wi]
           . rw [decide_eq_false z,WQ]
         rw [e]; exact r7
       refine zjR ix7 rfl (λ zs t=>?_);rw [zbA.mp t,wv,wv,wv,WE];wtm_at "gg"
       . rename_i z
         refine zi3 (.inl (.of (X7 _ _ nlg eg5))) ?_;wtm_at "gg"
         . rename_i z2
           obtain ⟨dd,rfl⟩ : ∃ dd,td = dd + 1:=⟨td - 1,by omega⟩;have hdd : dd < 4:=by omega
           obtain ⟨ad,had⟩ : ∃ ad,A4[dd]? = some ad:=⟨_,we (by omega)⟩;have ead:=r7.2 dd ad had;rw [zbx hdd] at ead;have hadm : ad ∈ A4:=Wg had;have e1 : ((dd + 1 : Nat) : Int) - 1 = (dd : Int):=by omega
           have at1 : atI (A4.map V.ref) (dd : Int) = some (.ref ad):=zbP (by rw [wE,had]; rfl);have hcl':=zdn (ts.take k) g (C.getD dd []) (dd + 1) rs.length;rw [e1];refine zcb (.of er7) at1 ?_;wtm_at "gg";refine zdF (.of ead) (by omega) (by rw [hcl']; omega) ?_;rw [wG];wtm_at "gg";rw [e1];refine zcb (.of er7) at1 ?_;wtm_at "gg";refine zds (j:=tb) ead (by rw [wd,hcl']; unfold ixN; rw [if_pos (by omega),if_pos (by omega)]; simp) (λ H8 E8 e8=>?_);rw [map_set,<- zkZ hk et z2 h2] at e8;wtm_at "gg";refine ⟨_,_,_,rfl,λ b o hb h=>E8 b o (λ z=>hb (by rw [z]; exact hadm)) (X7 b o hb h),K7.trans (E8.keep ead),by rw [ha4]; simp,λ i ai hi=>?_⟩;have hi4 : i < 4:=by have:=zes hi; omega
           rw [zbx hi4]
           by_cases e : i = dd
           . subst e
             rw [had] at hi;cases hi;exact e8
           . have nai : ai ≠ ad:=λ z=>by
               subst z;have h1 : A4[i]'(by omega) = ai:=by rw [we (by omega)] at hi; exact wH hi
               have h2 : A4[dd]'(by omega) = ai:=by rw [we (by omega)] at had; exact wH had
               exact e (zhb nd5 _ _ (h1.trans h2.symm))
             rw [zgp hk λ w=>by
               rw [et];unfold zdr;rw [show decide (([(ta : Int),(tb : Int),((dd + 1 : Nat) : Int)] : List Int).getD 2 0 = ((i + 1 : Nat) : Int)) = false from decide_eq_false (by show ¬ ((dd + 1 : Nat) : Int) = _; omega),Wi,Wi]]
             have:=r7.2 i ai hi;rw [zbx hi4] at this;exact E8.at nai this
         . rename_i z2
           exact ⟨_,_,_,rfl,X7,K7,stay (.inr z2)⟩
       . rename_i z
         exact ⟨_,_,_,rfl,X7,K7,stay (.inl (by omega))⟩
     . rintro σ H7 ⟨o4,o5,o6,rfl,X7,K7,r7⟩
       rw [htl,Wd,<- hcg] at r7;have nlr : lr ∉ A4:=λ z=>(fr5 lr z).2 rfl
       have er7:=X7 _ _ nlr e5;have S07 : zag H H7:=λ b o h=>X7 b o (λ z=>by rw [(fr5 b z).1] at h; cases h) (S05 b o h)
       have hcl' : (zfN ts cm g rs.length).length = 4:=by simp [zfN]
       generalize zfN ts cm g rs.length = CG at *;wtm_at "gg";refine zgE (.of er7) (o0:=none) (tl:=[]) rfl (λ j y H'=>Is K H' y (TZ (CG.getD j []))) ?_ ?_
       . intro D8 i x ys o H8 hx inv
         rw [wE] at hx;cases hxa : A4[i]? with
         | none=>rw [hxa] at hx; cases hx
         | some ad =>
           rw [hxa] at hx;cases hx;have hi4 : i < 4:=by have:=zes hxa; omega
           wtm_at "gg";refine zbr (.of (inv.same _ _ (r7.2 i ad hxa))) (λ l9 H9 n9 S9 e9=>?_);exact zbG inv (by omega) (λ _ _ _ _ k z=>z.thruI k) ⟨_,rfl⟩ S9 (zct.mpr ⟨l9,rfl,.of e9⟩)
       . intro D8 zs H8 n8' S8 e8 hl8 hr8
         have t8 : IsAll K H8 zs (CG.map TZ):=by
           rw [wd,ha4] at hl8;refine zfZ (by rw [hl8,wd,hcl']) λ i x hx=>?_
           have hi:=zes hx;rw [wc,wE,we (by omega)];have:=hr8 i x hx;rw [wc,we (by omega)] at this;exact this
         wtm_at "gg";refine zbn (zaF.mpr ⟨D8,zs,rfl,.of e8,t8⟩) (λ v9 H9 S9 i9=>?_);exact q v9 H9 (S07.trans (S8.trans S9)) i9
def zgg (K : wa) : Sp:=λ vs H Q _=>∃ x0 x1,vs = [x0,x1] /\ ∃ (rs ps : List Int) (us ts cm : List (List Int)),Is K H x0 (zbF rs us ts) /\ zaU rs us ts /\ Is K H x1 (StD ps cm) /\ za8 rs ps cm /\ ∀ v H',zag H H' -> Is K H' v (zkw (zdH rs us ts ps cm) (zb8 rs us ts ps cm) (zeC rs us ts ps cm)) -> Q v H'
theorem zgf {K : wa} {H : Hp} {Q : VK} {E : XK} {v w : V} {rs ps : List Int} {us ts cm : List (List Int)} (h : Is K H v (zbF rs us ts)) (ok : zaU rs us ts) (h2 : Is K H w (StD ps cm)) (so : za8 rs ps cm) (q : ∀ v H',zag H H' -> Is K H' v (zkw (zdH rs us ts ps cm) (zb8 rs us ts ps cm) (zeC rs us ts ps cm)) -> Q v H') : zgg K [v,w] H Q E:=⟨_,_,rfl,rs,ps,us,ts,cm,h,ok,h2,so,q⟩
structure zoR (rs : List Int) (ts : List (List Int)) (cs : List Int) (g : List Nat) (cv : List Int) : Prop where
 l : cv.length = rs.length
 z : ∀ w,w < rs.length -> 0 <= cv.getD w 0
 e : ∀ w,w < rs.length -> w ∉ g -> cv.getD w 0 = cs.getD w 0 + (zcr ts g w 0 : Int)
theorem zkn {g : List Nat} {w d a b c : Nat} {t : List Int} (e : t = [(a : Int),(b : Int),(c : Int)]) : zdr g w d t = (decide (a ∈ g) && (decide (b = w) && decide (c = d))):=by
 subst e;unfold zdr;have e0 : (([(a : Int),(b : Int),(c : Int)] : List Int).getD 0 0).toNat = a:=by simp
 rw [e0]
 show (_ && (decide ((b : Int) = (w : Int)) && decide ((c : Int) = (d : Int)))) = _
 rw [show decide ((b : Int) = (w : Int)) = decide (b = w) from decide_eq_decide.mpr (by omega),show decide ((c : Int) = (d : Int)) = decide (c = d) from decide_eq_decide.mpr (by omega)]
def zcT (rs : List Int) (us : List (List Int)) (ps cv : List Int) : List Int:=(wo rs.length).map λ w=>zbg (rs.getD w 0) (us.getD w []) (cv.getD w 0).toNat (ps.getD w 0 + 1)
theorem zqk {rs : List Int} {us ts : List (List Int)} {ps cs cv : List Int} {g : List Nat} {w : Nat} (hc : zoR rs ts cs g cv) (h0 : 0 <= cs.getD w 0) (hw : w < rs.length) (hg : w ∉ g) : (zcT rs us ps cv).getD w 0 = phG rs us ts ps cs g w:=by
 unfold zcT phG;rw [zbx hw,hc.e w hw hg]
 congr 1
 omega
theorem zoL {K : wa} {H : Hp} {Q : VK} {r : Addr} (e : H r = some (.lst [])) (q : Q (.bl true) H) : zek K .non (.ref r) H Q:=by
 refine ziO (zd8.mpr rfl) (show Is K H (.ref r) (.list []) from zaF.mpr ⟨r,[],rfl,.of e,.nil⟩) rfl rfl ?_;rw [show wQ .none (.list []) = false from by simp [wQ]];exact q
set_option maxHeartbeats 4000000 in
theorem zgl (T : Txt K mg a) : zbB P w K mg base CX0 2 a.law_tick a.fd_law_tick ["_law_web_here","_law_stand"] (zgg K):=by
 refine T.F_law_tick.ok zaZ (λ vs H Q E h=>by obtain ⟨_,_,rfl,_⟩:=h; rfl) (λ cdv A outer s H vs Q E hr h=>?_);obtain ⟨x0,x1,rfl,h⟩:=h;have hu:=hr.units
 refine ⟨_,(zac (zam (i:=2) zaZ.nd rfl (Or.inl rfl) (zao (show zal _ (.builtin "len") (zb7 K) from zax) rfl T.z_len za2 (zaa (zaj zah (pv 0) zad (λ _ _=>rfl)) zab)))
     (zac (zam (i:=3) zaZ.nd rfl (Or.inr rfl) (zak (show zal _ (.type "list") (zcN K) from zcj) rfl T.z_list zc9 (zaa (zaj zah (zaj zah (pv 1) zad (λ _ _=>rfl)) zad (λ _ _=>rfl)) zab)))
     (zac (zam (i:=4) zaZ.nd rfl (Or.inl rfl) (zaP zab))
     (zac (zam (i:=5) zaZ.nd rfl (Or.inr rfl) (zaP zab))
     (zac (zam (i:=6) zaZ.nd rfl (Or.inl rfl) zkG)
     (zac (zfl wY (zau (show OpR _ (compareOp .NotEq) (zek K) from zdK hu) (pv 6) (zaP zab) (zaH _)) (zac (zam (i:=7) zaZ.nd rfl (Or.inr rfl) (zaV rfl (zaO.by (N':=["_law_worm","_law_web_here","_law_counts","_law_stand"]) (src:=[none,some 0,some 3,some 1]) rfl (show zaK _ (zae zbN).names ["_law_web_here","_law_stand","_law_many","_law_counts","_law_waves","_law_gone","_law_fresh","_law_here","_law_a","_law_b","_law_delay","_law_left"] ["_law_worm","_law_web_here","_law_counts","_law_stand"] [none,some 0,some 3,some 1] = true from by decide +kernel)) (zbv rfl T.z_range (zaa (pv 2) zab)) (λ _ _ _ _ _=>(zan (i:=0) (show (["_law_worm","_law_web_here","_law_counts","_law_stand"] : List Str).Nodup from by decide) rfl (Or.inl rfl))) (λ _ _ _ _ _=>za7) (λ _ _ _ _ _=>(zai (zjs (K:=K) (mg:=mg) (a:=a) T) (hr.mono (by decide)) rfl T.g_law_phase T.F_law_phase.kp T.b_law_phase .nil zaq (zaa (pv 1) (zaa (pv 0) (zaa (zaj (show IxR _ (rIx K) from zah) (zaj (show IxR _ (rIx K) from zah) (pv 3) zad (λ _ _=>rfl)) (pv 0) (λ _ _=>rfl)) (zaa (zaj (show IxR _ (rIx K) from zah) (pv 2) (pv 0) (λ _ _=>rfl)) zab))))))))
     (zac (zfk (i:=6) zaZ.nd rfl (Or.inl rfl) rfl (zaO.by (N':=["_law_worm","_law_gone","_law_here","_law_web_here"]) (src:=[none,some 5,some 7,some 0]) rfl (show zaK _ (zae zbN).names ["_law_web_here","_law_stand","_law_many","_law_counts","_law_waves","_law_gone","_law_fresh","_law_here","_law_a","_law_b","_law_delay","_law_left"] ["_law_worm","_law_gone","_law_here","_law_web_here"] [none,some 5,some 7,some 0] = true from by decide +kernel)) (zbv rfl T.z_range (zaa (pv 2) zab)) (λ _ _ _ _ _=>(zan (i:=0) (show (["_law_worm","_law_gone","_law_here","_law_web_here"] : List Str).Nodup from by decide) rfl (Or.inl rfl))) (λ _ _ _ _ _=>(zd2 (PW.pt (zeF (zau (show OpR _ (compareOp .NotIn) (rIn K true) from zd1) (pv 0) (pv 1) (by with_unfolding_all rfl)) (zd5 (zau zlE (zaj (show IxR _ (rIx K) from zah) (pv 2) (pv 0) (λ _ _=>rfl)) (zaj (show IxR _ (rIx K) from zah) (zaj (show IxR _ (rIx K) from zah) (pv 3) zad (λ _ _=>rfl)) (pv 0) (λ _ _=>rfl)) (zaH _))))))) (λ _ _ _ _ _=>(pv 0)))
     (zac (zdw (ze3 vE vJ vK zb0 (pv 4) (zaa (zak (show zal _ (.type "tuple") (zaz K) from zap) rfl T.z_tuple zaN (zaa (pv 6) zab)) zab)))
     (zac (zam (i:=5) zaZ.nd rfl (Or.inr rfl) (zaw zaC (pv 5) (pv 6)))
     (zaf (zcv wY rfl (zdJ (zaj zah (pv 0) zad (λ _ _=>rfl))) (zcZ (n:=3) rfl (zaJ (zan (i:=8) zaZ.nd rfl (Or.inl rfl)) (zaJ (zan (i:=9) zaZ.nd rfl (Or.inl rfl)) (zaJ (zan (i:=10) zaZ.nd rfl (Or.inl rfl)) zcf)))) (zaf (zbm (PW.pt (zeF (zau (show OpR _ (compareOp .Eq) (zcV K) from zbI hu) (pv 10) zad (zaH _)) (zeF (zau (show OpR _ (compareOp .In) (rIn K false) from zjp) (pv 8) (pv 6) (by with_unfolding_all rfl)) (zd5 (zau (show OpR _ (compareOp .NotIn) (rIn K true) from zd1) (pv 9) (pv 5) (by with_unfolding_all rfl)))))) (zaf (zeD (zaw zaC (zaj zah (pv 3) (pv 9) (λ _ _=>rfl)) zad) (zd9 (pv 3) (pv 9) zcs))) zaL)))))))))
     (zac (zam (i:=11) zaZ.nd rfl (Or.inl rfl) (zak (show zal _ (.type "tuple") (zaz K) from zap) rfl T.z_tuple zaN (zaa (zaV rfl (zaO.by (N':=["_law_worm","_law_here","_law_gone"]) (src:=[none,some 7,some 5]) rfl (show zaK _ (zae zbN).names ["_law_web_here","_law_stand","_law_many","_law_counts","_law_waves","_law_gone","_law_fresh","_law_here","_law_a","_law_b","_law_delay","_law_left"] ["_law_worm","_law_here","_law_gone"] [none,some 7,some 5] = true from by decide +kernel)) (zbv rfl T.z_range (zaa (pv 2) zab)) (λ _ _ _ _ _=>(zan (i:=0) (show (["_law_worm","_law_here","_law_gone"] : List Str).Nodup from by decide) rfl (Or.inl rfl))) (λ _ _ _ _ _=>za7) (λ _ _ _ _ _=>(zaw zdA (zaj (show IxR _ (rIx K) from zah) (pv 1) (pv 0) (λ _ _=>rfl)) (zak zdb rfl T.z_int zfj (zaa (zdv (show OpR _ (compareOp .NotIn) (rIn K true) from zd1) (pv 0) (pv 2) (by with_unfolding_all rfl)) zab))))) zab)))
     (zaf (zas (zaD (zaa (zak (show zal _ (.type "tuple") (zaz K) from zap) rfl T.z_tuple zaN (zaa (zaT zbq (pv 4) za5 (za4 (ztp zrw zad))) zab)) (zaa (zaD (zaa (pv 11) (zaa (zai (zhW T) (hr.mono (by decide)) rfl T.g_law_coming T.F_law_coming.kp T.b_law_coming .nil zaq (zaa (pv 0) (zaa (zaj zah (pv 1) zad (λ _ _=>rfl)) (zaa (pv 5) zab)))) zab))) zab)))))))))))),?_⟩
 clear hu
 try clear hgd
 try dsimp only [zbz,zbb]
 rw [show start ["_law_web_here","_law_stand","_law_many","_law_counts","_law_waves","_law_gone","_law_fresh","_law_here","_law_a","_law_b","_law_delay","_law_left"] [x0,x1] = [some x0,some x1,none,none,none,none,none,none,none,none,none,none] from rfl];obtain ⟨rs,ps,us,ts,cm,hw,ok,hs,so,q⟩:=h;have n8:=ok.n8;have n1:=ok.n1;wtm_at "gg";refine zcO hw (λ y0 j0=>?_);wtm_at "gg";refine zpr j0 ?_;wtm_at "gg";refine ziL hs (λ y1 j1=>?_);wtm_at "gg";refine zep j1 (by decide) (by rw [so.cl]; decide) (λ y2 j2=>?_);wtm_at "gg";refine ziC j2 (λ lc H1 cv nc S1 ec tc=>?_);rw [zbA.mp tc] at ec;wtm_at "ga";rename_i lw H2 nw S2 ew lg0 H3 ng S3 eg;have T3:=S1.trans (S2.trans S3);obtain ⟨hcl,hcb⟩:=so.c 0 (by decide);have ec3:=S3 _ _ (S2 _ _ ec);have ew3:=S3 _ _ ew;have nc0 : H lc = none:=nc;have nw0 : H lw = none:=zb3 S1 nw;have ng00 : H lg0 = none:=zb3 (S1.trans S2) ng;have nwc : lw ≠ lc:=λ z=>by subst z; rw [ec] at nw; cases nw
 have ngc : lg0 ≠ lc:=λ z=>by subst z; rw [S2 _ _ ec] at ng; cases ng
 have ngw : lg0 ≠ lw:=λ z=>by subst z; rw [ew] at ng; cases ng
 have cm0 : cm.getD (Qx 0) [] = cm.getD 0 []:=rfl;rw [cm0] at ec3;have csz : ∀ w,w < rs.length -> 0 <= (cm.getD 0 []).getD w 0:=λ w h=>(hcb w h).1
 have hwT : zdH rs us ts ps cm = zdm rs us ts ps (cm.getD 0 []) 9 []:=rfl;have hgT : zew rs us ts ps cm = zdZ rs us ts ps (cm.getD 0 []) 9 []:=rfl;generalize hcs : cm.getD 0 [] = cs at *;have c3 : zoR rs ts cs [] cs:=⟨hcl,csz,λ w hw _=>by rw [zjU]; omega⟩;clear S1 S2 S3 ec ew nc nw ng tc j0 j1 j2
 refine zeR (λ m σ H'=>∃ (o7 o8 o9 o10 : Option V) (g : List Nat) (acc : List (List Nat)) (cv : List Int) (lg : Addr) (av : List V) (vf : V),σ = [some x0,some x1,some (.int (rs.length : Int)),some (.ref lc),some (.ref lw),some (.ref lg),some vf,o7,o8,o9,o10,none] /\ zag H H' /\ H' lc = some (.lst (cv.map V.int)) /\ cv.length = rs.length /\ H' lg = some (.lst (vz g)) /\ lg ≠ lc /\ lg ≠ lw /\ H lg = none /\ H' lw = some (.lst av) /\ zg3 rs.length g /\
     ((∃ f,m = f + 1 /\ IsAll K H' av (acc.map TW) /\ Run rs us ts ps cs f g acc /\ acc.length + f <= 9 /\ zoR rs ts cs g cv /\ (vf = .non \/ ∃ (a : Addr) (l : List Nat),vf = .ref a /\ H' a = some (.lst (vz l)) /\ l ≠ [])) \/
      (m = 0 /\ IsAll K H' av ((acc ++ [[]]).map TW) /\ acc.length <= 9 /\ acc = zdH rs us ts ps cm /\ g = zew rs us ts ps cm /\ (∃ a : Addr,vf = .ref a /\ H' a = some (.lst (vz []))) /\ ∃ (lh : Addr) (hv : List Int),o7 = some (.ref lh) /\ H' lh = some (.lst (hv.map V.int)) /\ hv.length = rs.length /\ (∀ w,w < rs.length -> 0 <= hv.getD w 0 /\ hv.getD w 0 <= 200) /\ ∀ w,w < rs.length -> w ∉ g -> hv.getD w 0 = phG rs us ts ps cs g w)))
   10 ⟨_,_,_,_,[],[],cs,lg0,[],.non,rfl,T3,ec3,hcl,eg,ngc,ngw,ng00,ew3,⟨WR,by simp⟩,.inl ⟨9,rfl,.nil,Run.start n8,by decide,c3,.inl rfl⟩⟩ ?_
 clear T3 ec3 ew3 eg ngc ngw c3;rintro m σ H5 ⟨o7,o8,o9,o10,g,acc,cv,lg,av,vf,rfl,S5,ec5,hcvl,eg5,ngc,ngw,ng0,ew5,G5,h⟩;have w5:=hw.by S5;have s5:=hs.by S5;rcases h with ⟨f,rfl,ta5,R5,hf9,C5,hvf⟩ | ⟨rfl,ta5,hacl,hacc,hg,⟨af,rfl,ef5⟩,lh,hv,rfl,eh5,hhl,hhb,hhp⟩
 . have hal : av.length = acc.length:=by rw [ta5.length,wd]
   wtm_at "ga";rename_i le H6 ne S6 ee
   have hne : ∀ {Q' : VK},Q' (.bl true) H6 -> zek K vf (.ref le) H6 Q':=λ {Q'} qq=>by
     rcases hvf with rfl | ⟨a1,l1,rfl,e1,h1⟩
     . exact zoL ee qq
     . exact znI (S6 _ _ e1) ee (by rw [decide_eq_true h1]; exact qq)
   refine hne ?_;wtm_at "gg";refine zfM ?_;have S06:=S5.trans S6;have w6:=hw.by S06;have s6:=hs.by S06;have ec6:=S6 _ _ ec5;have eg6:=S6 _ _ eg5;have ew6:=S6 _ _ ew5;have ta6 : IsAll K H6 av (acc.map TW):=IsAll.same S6 _ _ ta5;clear ec5 eg5 ew5 ta5 hvf hne w5 s5;wtm_at "gg";refine zmd (n:=(rs.length : Int)) (by omega) (by omega) (o0:=none) (tl:=[some x0,some (.ref lc),some x1]) rfl (λ j y H'=>y = .int ((zcT rs us ps cv).getD j 0)) ?_ ?_
   . intro D i ys o H7 hi inv
     have hi : i < rs.length:=by omega
     have S7:=inv.same;have hp:=so.p i hi;wtm_at "gg";refine zoy (s6.by S7) (λ y3 j3=>?_);wtm_at "gg";refine zb6 j3 (by omega) (by rw [so.pl]; omega) ?_;rw [wG];wtm_at "gg";refine zdF (.of (S7 _ _ ec6)) (by omega) (by omega) ?_;rw [wG];wtm_at "gg";refine ziN (w6.by S7) ok hi hp.1 (C5.z i hi) ?_;wtm_at "gg";exact zbG inv (by omega) (λ _ _ _ _ _ z=>z) ⟨_,rfl⟩ (zag.refl _) (by unfold zcT; rw [zbx hi])
   . intro lh zs H7 n7 S7 e7 hl7 hr7
     have hhl : (zcT rs us ps cv).length = rs.length:=by simp [zcT]
     have hzs : zs = (zcT rs us ps cv).map V.int:=zfw (by rw [hl7,hhl]; omega) hr7;subst hzs
     have hhb : ∀ w,w < rs.length -> 0 <= (zcT rs us ps cv).getD w 0 /\ (zcT rs us ps cv).getD w 0 <= 200:=λ w hw=>by
       have h1:=zfm (c:=rs.getD w 0) (ok.u w hw).2 (cv.getD w 0).toNat (ps.getD w 0 + 1);have h2:=so.p w hw;have h3:=ok.ri hw;unfold zcT;rw [zbx hw];omega
     have hhp : ∀ w,w < rs.length -> w ∉ g -> (zcT rs us ps cv).getD w 0 = phG rs us ts ps cs g w:=λ w h1 h2=>zqk C5 (csz w h1) h1 h2
     generalize zcT rs us ps cv = hv at *;have S07:=S06.trans S7;have w7:=hw.by S07;have eg7:=S7 _ _ eg6;wtm_at "gg";refine zcz (n:=(rs.length : Int)) (by omega) (by omega) (λ D i ys σ' H'=>(∃ o,σ' = [o,some (.ref lg),some (.ref lh),some x0]) /\ H7 D = none /\ zag H7 H' /\ H' D = some (.lst ys) /\ ys = vz ((wo i).filter λ w=>!decide (w ∈ g) && decide (rs.getD w 0 <= hv.getD w 0))) (λ D H' n s e=>⟨⟨_,rfl⟩,n,s,e,rfl⟩) ?_ ?_
     . rintro D i ys σ' H8 hi ⟨⟨o,rfl⟩,nD,S8,eD,rfl⟩
       have hi : i < rs.length:=by omega
       have hz : (vz ((wo i).filter λ w=>!decide (w ∈ g) && decide (rs.getD w 0 <= hv.getD w 0))).length <= 1000:=by
         have:=vO (λ w=>!decide (w ∈ g) && decide (rs.getD w 0 <= hv.getD w 0)) (wo i);rw [vc] at this;rw [zcJ]; omega
       have step : ∀ b : Bool,(!decide (i ∈ g) && decide (rs.getD i 0 <= hv.getD i 0)) = b -> vz ((wo (i + 1)).filter λ w=>!decide (w ∈ g) && decide (rs.getD w 0 <= hv.getD w 0)) = vz ((wo i).filter λ w=>!decide (w ∈ g) && decide (rs.getD w 0 <= hv.getD w 0)) ++ if b then [.int (i : Int)] else []:=λ b hb=>by
         rw [WJ,W5,zhh]
         congr 1
         rw [VN,hb];cases b <;> rfl
       wtm_at "gg";refine zeQ (.inl (.of (S8 _ _ eg7))) ?_;wtm_at "gg"
       . rename_i z
         refine zdF (.of (S8 _ _ e7)) (by omega) (by omega) ?_;wtm_at "gg";refine zcO (w7.by S8) (λ y3 j3=>?_);wtm_at "gg";refine zb6 j3 (by omega) (by omega) ?_;rw [wG];wtm_at "gg"
         . rename_i z2
           refine zbS eD hz (λ H9 E9 e9=>⟨⟨_,rfl⟩,nD,S8.grow nD E9,e9,?_⟩);rw [step true (by rw [decide_eq_false z,decide_eq_true (show rs.getD i 0 <= hv.getD i 0 from z2)]; rfl)]; rfl
         . rename_i z2
           refine ⟨_,⟨_,rfl⟩,nD,S8,eD,?_⟩;rw [step false (by rw [decide_eq_false (show ¬ rs.getD i 0 <= hv.getD i 0 from z2),Wi])]; simp
       . rename_i z
         refine ⟨_,⟨_,rfl⟩,nD,S8,eD,?_⟩;rw [step false (by rw [decide_eq_true z]; rfl)]; simp
     . rintro lf ys σ' H8 ⟨_,nf,S8,ef,rfl⟩
       rw [wG] at ef
       have efr : ((wo rs.length).filter λ w=>!decide (w ∈ g) && decide (rs.getD w 0 <= hv.getD w 0)) = GM.fresh rs us ts ps cs g:=by
         unfold GM.fresh;refine Vd λ w hw=>?_
         by_cases z : w ∈ g
         . rw [decide_eq_true z]; rfl
         . rw [hhp w (wS.mp hw) z]
       rw [efr] at ef;have S08:=S07.trans S8;have S68:=S7.trans S8;have hGa : zg3 rs.length (g ++ GM.fresh rs us ts ps cs g):=G5.app;have hdis : ∀ x ∈ GM.fresh rs us ts ps cs g,x ∉ g:=λ x hx=>(zfr hx).2
       have ec8:=S68 _ _ ec6;have eg8:=S68 _ _ eg6;have ew8:=S68 _ _ ew6;have eh8:=S8 _ _ e7;have ta8 : IsAll K H8 av (acc.map TW):=IsAll.same S68 _ _ ta6;have nhc : lh ≠ lc:=λ z=>by subst z; rw [ec6] at n7; cases n7
       have nhw : lh ≠ lw:=λ z=>by subst z; rw [ew6] at n7; cases n7
       have nfc : lf ≠ lc:=λ z=>by subst z; rw [S7 _ _ ec6] at nf; cases nf
       have nfw : lf ≠ lw:=λ z=>by subst z; rw [S7 _ _ ew6] at nf; cases nf
       clear S6 S7 S8 nf n7 e7 ec6 eg6 ew6 ta6 eg7 w6 s6 w7 S07 S68 hl7 hr7 efr ee ne;wtm_at "gg";refine zec (.of ew8) ?_;wtm_at "gg";refine zbr (.of ef) (λ l9 H9 n9 S9 e9=>?_);have ew9:=S9 _ _ ew8;wtm_at "gg";refine zcC ew9 (by omega) (λ H10 E10 e10=>?_);have K10:=E10.keep ew9;have S010 : zag H H10:=λ b o h=>E10 b o (zay h nw0) (S9 b o (S08 b o h))
       have ef10:=E10.at nfw (S9 _ _ ef);have eg10:=E10.at ngw (S9 _ _ eg8);have ec10:=E10.at (vH nwc) (S9 _ _ ec8);have eh10:=E10.at nhw (S9 _ _ eh8)
       have ta10 : IsAll K H10 (av ++ [.ref l9]) ((acc ++ [GM.fresh rs us ts ps cs g]).map TW):=by
         rw [wB];exact (IsAll.keep (S9.keep.trans K10) _ _ (zdO _) ta8).append (.cons ((show Is K H9 (.ref l9) (TW (GM.fresh rs us ts ps cs g)) from znx.mpr ⟨l9,rfl,.of e9⟩).byK K10 (zk5 _)) .nil)
       have hgl:=G5.len
       have hfl : (GM.fresh rs us ts ps cs g).length <= 8:=by
         have:=hGa.len;rw [wf] at this;omega
       clear S9 E10 K10 ew8 ew9 ta8 ef eg8 ec8 eh8;wtm_at "gg";refine zby eg10 ef10 (WD (zb4 (by rw [zcJ,zcJ]; omega))) (λ lg' H11 n11 S11 e11=>?_);rw [<- zhh] at e11;have S011:=S010.trans S11;have ec11:=S11 _ _ ec10;have ef11:=S11 _ _ ef10;have ngc' : lg' ≠ lc:=λ z=>by subst z; rw [ec10] at n11; cases n11
       have ngw' : lg' ≠ lw:=λ z=>by subst z; rw [e10] at n11; cases n11
       have ng0' : H lg' = none:=zb3 S010 n11;have w11:=hw.by S011;wtm_at "gg";refine zgH w11 (λ y12 j12=>?_);obtain ⟨at6,tus,rfl,hs6,t6⟩:=zaI.mp j12;have htl:=t6.length;rw [wd] at htl;generalize hfr : GM.fresh rs us ts ps cs g = fr at *
       refine zf9 hs6 (λ k σ H'=>∃ (o8 o9 o10 : Option V) (cv' : List Int),σ = [some x0,some x1,some (.int (rs.length : Int)),some (.ref lc),some (.ref lw),some (.ref lg'),some (.ref lf),some (.ref lh),o8,o9,o10,none] /\ Exc lc H11 H' /\ zaM H11 H' /\ H' lc = some (.lst (cv'.map V.int)) /\ cv'.length = rs.length /\ (∀ w,w < rs.length -> 0 <= cv'.getD w 0) /\ ∀ w,w < rs.length -> w ∉ g ++ fr -> cv'.getD w 0 = cv.getD w 0 + (zcr (ts.take k) fr w 0 : Int))
         ⟨_,_,_,cv,rfl,Exc.refl _ _,zaM.refl _,ec11,hcvl,C5.z,λ w _ _=>by simp [zcr]⟩ (λ i σ H' _ ⟨_,_,_,_,_,_,k,_⟩=>k.sqT hs6) ?_ ?_
       . rintro k x σ H12 hx ⟨o8,o9,o10,cv',rfl,X12,K12,ec12,hcl12,hz12,he12⟩
         obtain ⟨hk,ta,tb,td,et,h1,h2,h3,h4d,ix⟩:=zi4 t6 ok.t hx;have ix12 : Is K H12 x (TZ [(ta : Int),(tb : Int),(td : Int)]):=Is.thruI ix K12
         have stay : ¬ (td = 0 /\ ta ∈ fr /\ tb ∉ g ++ fr) -> ∀ w,w < rs.length -> w ∉ g ++ fr -> cv'.getD w 0 = cv.getD w 0 + (zcr (ts.take (k + 1)) fr w 0 : Int):=λ hn w hw1 hw2=>by
           rw [zfF hk,zkn et,he12 w hw1 hw2]
           have : (decide (ta ∈ fr) && (decide (tb = w) && decide (td = 0))) = false:=by
             rw [Bool.eq_false_iff];intro z;rw [wX,wX,decide_eq_true_eq,decide_eq_true_eq,decide_eq_true_eq] at z;exact hn ⟨z.2.2,z.1,by rw [z.2.1]; exact hw2⟩
           rw [this]; simp
         refine zjR ix12 rfl (λ zs t=>?_);rw [zbA.mp t,wv,wv,wv,WE];wtm_at "gg"
         . rename_i z
           refine zi3 (.inl (.of (X12.at nfc ef11))) ?_;wtm_at "gg"
           . rename_i z2
             refine zeQ (.inl (.of (X12.at ngc' e11))) ?_;wtm_at "gg"
             . rename_i z3
               have z0 : td = 0:=by omega
               refine zdF (.of ec12) (by omega) (by omega) ?_;rw [wG];wtm_at "gg";refine zds (j:=tb) ec12 (by rw [wd,hcl12]; unfold ixN; rw [if_pos (by omega),if_pos (by omega)]; simp) (λ H13 E13 e13=>?_);rw [map_set] at e13;wtm_at "gg";refine ⟨_,_,_,_,rfl,X12.trans E13,K12.trans (E13.keep ec12),e13,by rw [vD,hcl12],λ w hw1=>?_,λ w hw1 hw2=>?_⟩
               . rw [zhi (by omega)]
                 have:=hz12 w hw1;have:=hz12 tb h2
                 split <;> omega
               . rw [zhi (by omega),zfF hk,zkn et,decide_eq_true z2,decide_eq_true z0,Wx,xV]
                 have:=he12 w hw1 hw2
                 by_cases e : tb = w
                 . subst e
                   rw [if_pos rfl,decide_eq_true rfl,if_pos rfl];omega
                 . rw [if_neg e,decide_eq_false e,if_neg (by decide)]
                   omega
             . rename_i z3
               exact ⟨_,_,_,cv',rfl,X12,K12,ec12,hcl12,hz12,stay λ zz=>zz.2.2 z3⟩
           . rename_i z2
             exact ⟨_,_,_,cv',rfl,X12,K12,ec12,hcl12,hz12,stay λ zz=>z2 zz.2.1⟩
         . rename_i z
           exact ⟨_,_,_,cv',rfl,X12,K12,ec12,hcl12,hz12,stay λ zz=>z (by rw [zz.1]; rfl)⟩
       . rintro σ H12 ⟨o8,o9,o10,cv',rfl,X12,K12,ec12,hcl12,hz12,he12⟩
         rw [htl,Wd] at he12;have S012 : zag H H12:=λ b o h=>X12 b o (zay h nc0) (S011 b o h)
         have eg12:=X12.at ngc' e11;have ew12:=X12.at nwc (S11 _ _ e10);have ta12 : IsAll K H12 (av ++ [.ref l9]) ((acc ++ [fr]).map TW):=IsAll.keep (S11.keep.trans K12) _ _ (zdO _) ta10;have ef12:=X12.at nfc ef11
         by_cases hfe : fr = []
         . subst hfe
           obtain ⟨ha,hg⟩:=R5.stop hfr;rw [vS] at eg12;refine ⟨0,by omega,_,_,_,_,g,acc,cv',lg',_,_,rfl,S012,ec12,hcl12,eg12,ngc',ngw',ng0',ew12,G5,.inr ⟨rfl,ta12,by omega,by rw [hwT]; exact ha,by rw [hgT]; exact hg,⟨lf,rfl,ef12⟩,lh,hv,rfl,X12.at nhc (S11 _ _ eh10),hhl,hhb,hhp⟩⟩
         . have hfe' : GM.fresh rs us ts ps cs g ≠ []:=by rw [hfr]; exact hfe
           obtain ⟨f',rfl,R6⟩:=R5.step hfe';rw [hfr] at R6;refine ⟨f' + 1,by omega,_,_,_,_,g ++ fr,acc ++ [fr],cv',lg',_,_,rfl,S012,ec12,hcl12,eg12,ngc',ngw',ng0',ew12,hGa,.inl ⟨f',rfl,ta12,R6,by rw [wf,vq]; omega,⟨hcl12,hz12,λ w hw1 hw2=>?_⟩,.inr ⟨lf,fr,rfl,ef12,hfe⟩⟩⟩;rw [he12 w hw1 hw2,C5.e w hw1 (λ z=>hw2 (vF _ z)),zhk hdis];omega
 . have hal : av.length = acc.length + 1:=by rw [ta5.length,wd,wf]; rfl
   wtm_at "ga";rename_i le H6 ne S6 ee;refine znI (S6 _ _ ef5) ee ?_;rw [show decide (([] : List Nat) ≠ []) = false from rfl];have S06:=S5.trans S6;have eg6:=S6 _ _ eg5;have eh6:=S6 _ _ eh5;wtm_at "gg";refine zmd (n:=(rs.length : Int)) (by omega) (by omega) (o0:=none) (tl:=[some (.ref lh),some (.ref lg)]) rfl (λ j y H'=>y = .int ((zb8 rs us ts ps cm).getD j 0)) ?_ ?_
   . intro D i ys o H7 hi inv
     have hi : i < rs.length:=by omega
     have S7:=inv.same;have hb:=hhb i hi;wtm_at "gg";refine zdF (.of (S7 _ _ eh6)) (by omega) (by omega) ?_;rw [wG];wtm_at "gg";refine zeQ (.inl (.of (S7 _ _ eg6))) ?_;wtm_at "gg";refine zbG inv (by omega) (λ _ _ _ _ _ z=>z) ⟨_,rfl⟩ (zag.refl _) ?_;unfold zb8;rw [zbx hi,<- hg,hcs]
     by_cases z : i ∈ g
     . rw [if_pos z,decide_eq_true z]; simp
     . rw [if_neg z,decide_eq_false z,hhp i hi z]; simp
   . intro D zs H7 n7 S7 e7 hl7 hr7
     have hzs : zs = (zb8 rs us ts ps cm).map V.int:=zfw (by rw [hl7]; simp [zb8]) hr7;subst hzs;have S57:=S6.trans S7;wtm_at "gg";refine zbr (.of e7) (λ l8 H8 n8' S8 e8=>?_);have S58:=S57.trans S8;wtm_at "gg";refine zlF (zaF.mpr ⟨lw,av,rfl,.of (S58 _ _ ew5),IsAll.same S58 _ _ ta5⟩) (λ l9 H9 ys9 n9 S9 e9 t9=>?_);rw [zoo,<- List.map_dropLast,List.dropLast_concat,hacc] at t9;wtm_at "gg";refine zbn (zaF.mpr ⟨l9,ys9,rfl,.of e9,t9⟩) (λ v10 H10 S10 i10=>?_);have S510:=S58.trans (S9.trans S10);wtm_at "gg";refine ziL (s5.by S510) (λ v11 i11=>?_);wtm_at "gg";refine zhX (w5.by S510) ok i11 so.cl (λ d hd=>(so.c d hd).1) (S510 _ _ eg5) (λ v12 H12 S12 i12=>?_);have i12 : Is K H12 v12 (TTr (zeC rs us ts ps cm)):=by unfold zeC; rw [<- hg]; exact i12
     wtm_at "gg";have i8 : Is K H12 (.ref l8) (TZ (zb8 rs us ts ps cm)):=zct.mpr ⟨l8,rfl,.of ((S9.trans (S10.trans S12)) _ _ e8)⟩;refine zbh (ds:=[TZ (zb8 rs us ts ps cm),TTr (zeC rs us ts ps cm)]) (by simp) (.cons i8 (.cons i12 .nil)) (λ v13 H13 S13 i13=>?_);wtm_at "gg";have i10' : Is K H13 v10 (TWs (zdH rs us ts ps cm)):=(i10.by S12).by S13;refine zbh (ds:=[TWs (zdH rs us ts ps cm),StD (zb8 rs us ts ps cm) (zeC rs us ts ps cm)]) (by simp) (.cons i10' (.cons i13 .nil)) (λ v14 H14 S14 i14=>?_);exact q v14 H14 (S5.trans (S510.trans (S12.trans (S13.trans S14)))) i14
def zeV (n : Nat) : List (List Int):=wl 4 (wl n 0)
theorem znH {rs ps : List Int} (hl : ps.length = rs.length) (hp : ∀ i,i < rs.length -> 0 <= ps.getD i 0 /\ ps.getD i 0 < rs.getD i 0) : za8 rs ps (zeV rs.length):=by
 refine ⟨hl,hp,by simp [zeV],λ d hd=>?_⟩
 have e : (zeV rs.length).getD d [] = wl rs.length 0:=by
   unfold zeV;rw [wc,WZ,if_pos hd]; rfl
 rw [e];refine ⟨by simp,λ i hi=>?_⟩;rw [wc,WZ,if_pos hi];simp;omega
def zfI (K : wa) : Sp:=λ vs H Q _=>∃ x0 x1,vs = [x0,x1] /\ ∃ (p : Addr) (k : Int) (rs : List Int) (us ts : List (List Int)),x0 = .ref p /\ Pen H p k /\ Is K H x1 (zbF rs us ts) /\ zaU rs us ts /\ ∀ v H' ps,Exc p H H' -> zaM H H' -> Pen H' p k -> Is K H' v (StD ps (zeV rs.length)) -> ps.length = rs.length -> (∀ i,i < rs.length -> 0 <= ps.getD i 0 /\ ps.getD i 0 < rs.getD i 0) -> Q v H'
theorem zja {K : wa} {H : Hp} {Q : VK} {E : XK} {p : Addr} {k : Int} {v : V} {rs : List Int} {us ts : List (List Int)} (h : Pen H p k) (h1 : Is K H v (zbF rs us ts)) (ok : zaU rs us ts) (q : ∀ v H' ps,Exc p H H' -> zaM H H' -> Pen H' p k -> Is K H' v (StD ps (zeV rs.length)) -> ps.length = rs.length -> (∀ i,i < rs.length -> 0 <= ps.getD i 0 /\ ps.getD i 0 < rs.getD i 0) -> Q v H') : zfI K [.ref p,v] H Q E:=⟨_,_,rfl,p,k,rs,us,ts,rfl,h,h1,ok,q⟩
theorem zmJ {xs : List Int} {x : Int} {i : Nat} (h : i < xs.length + 1) : (xs ++ [x]).getD i 0 = if i < xs.length then xs.getD i 0 else x:=by
 rw [wc,qX]
 split
 . rw [wc]
 . have : i - xs.length = 0:=by omega
   rw [this]; rfl
set_option maxHeartbeats 4000000 in
theorem ziS (T : Txt K mg a) : zbB P w K mg base CX0 2 a.law_begin a.fd_law_begin ["_law_pen_here","_law_web_here"] (zfI K):=by
 refine T.F_law_begin.ok zcy (λ vs H Q E h=>by obtain ⟨_,_,rfl,_⟩:=h; rfl) (λ cdv A outer s H vs Q E hr h=>?_);obtain ⟨x0,x1,rfl,h⟩:=h;have hu:=hr.units
 refine ⟨_,(zac (zam (i:=2) zcy.nd rfl (Or.inl rfl) (zai (zat T) (hr.mono (by decide)) rfl T.g_law_draw T.F_law_draw.kp T.b_law_draw .nil zaq (zaa (pv 0) (zaa zad zab))))
     (zac (zam (i:=3) zcy.nd rfl (Or.inl rfl) (zaP zab))
     (zac (zcv wY rfl (zdJ (zaj zah (pv 1) zad (λ _ _=>rfl))) (zan (i:=4) zcy.nd rfl (Or.inl rfl)) (zac (zam (i:=5) zcy.nd rfl (Or.inl rfl) (zai (zat T) (hr.mono (by decide)) rfl T.g_law_draw T.F_law_draw.kp T.b_law_draw .nil zaq (zaa (pv 0) (zaa (pv 4) zab))))
     (zaf (zdw (ze3 vE vJ vK zb0 (pv 3) (zaa (zaj zah (zaP (zaa (pv 5) (zaa (pv 5) (zaa (pv 5) (zaa (pv 5) (zaa zad (zaa (zaw zf5 (pv 4) zad) zab))))))) (pv 2) (λ _ _=>rfl)) zab))))))
     (zaf (zas (zaD (zaa (zak (show zal _ (.type "tuple") (zaz K) from zap) rfl T.z_tuple zaN (zaa (pv 3) zab)) (zaa (zaw (show OpR _ (binaryOp .Mult) (zjL K) from zlD) (zaD (zaa (zaw (show OpR _ (binaryOp .Mult) (zjL K) from zlD) (zaD (zaa zad zab)) (zao (show zal _ (.builtin "len") (zb7 K) from zax) rfl T.z_len za2 (zaa (pv 3) zab))) zab)) zad) zab)))))))),?_⟩
 clear hu
 try clear hgd
 try dsimp only [zbz,zbb]
 rw [show start ["_law_pen_here","_law_web_here","_law_way","_law_found","_law_size","_law_drawn"] [x0,x1] = [some x0,some x1,none,none,none,none] from rfl];obtain ⟨p,k,rs,us,ts,rfl,hp,hw,ok,q⟩:=h;have n8:=ok.n8;have n1:=ok.n1;wtm_at "ga";rename_i wy H1 w0 w1 E1 K1 P1 lf H2 n2 S2 e2;have nlp : lf ≠ p:=Pen.ne n2 P1
 have nlf0 : H lf = none:=by
   cases z : H lf with
   | none=>rfl
   | some o=>rw [E1 lf o nlp z] at n2; cases n2
 have K02:=K1.trans S2.keep;refine zcO (hw.thruW K02) (λ x3 i3=>?_);obtain ⟨ar,rfl,hsr⟩:=zct.mp i3
 refine zf9 hsr (λ i σ H'=>∃ (o4 o5 : Option V) (ps : List Int),σ = [some (.ref p),some x1,some (.int wy),some (.ref lf),o4,o5] /\ Exc p H H' /\ zaM H H' /\ zaM H2 H' /\ Pen H' p k /\ H' lf = some (.lst (ps.map V.int)) /\ ps.length = i /\ ∀ j,j < ps.length -> 0 <= ps.getD j 0 /\ ps.getD j 0 < rs.getD j 0)
   ⟨_,_,[],rfl,E1.trans S2.exc,K02,zaM.refl _,P1.same S2,e2,rfl,by simp⟩ (λ i σ H' _ ⟨_,_,_,_,_,_,k,_⟩=>k.sqT hsr) ?_ ?_
 . rintro i x σ H3 hx ⟨o4,o5,ps,rfl,X3,K3,L3,P3,e3,hpl,hps⟩
   obtain ⟨hi,rfl⟩:=zfR hx;have hr:=ok.ri hi;wtm_at "gg";rename_i d4 H4 d40 d41 E4 K4 P4;refine zec (.of (E4.at nlp e3)) ?_;wtm_at "ga";rename_i l5 H5 n5 S5 e5 z5 hz5;have e35:=S5 _ _ (E4.at nlp e3);refine zcC e35 (by rw [wd]; omega) (λ H6 E6 e6=>?_);have k6:=E6.keep e35;wtm_at "gg";refine ⟨_,_,ps ++ [z5],rfl,λ b o hb h=>E6 b o (zay h nlf0) (S5 b o (E4 b o hb (X3 b o hb h))),K3.trans (K4.trans (S5.keep.trans k6)),L3.trans (K4.trans (S5.keep.trans k6)),(P4.same S5).exc E6 (vH nlp),by rw [wB]; exact e6,by rw [wf,hpl]; rfl,λ j hj=>?_⟩;rw [wf,vq] at hj;rw [zmJ hj]
   split
   . rename_i z; exact hps j z
   . have e : j = i:=by omega
     subst e;omega
 . rintro σ H3 ⟨o4,o5,ps,rfl,X3,K3,L3,P3,e3,hpl,hps⟩
   rw [wd] at hpl;wtm_at "gg";refine zbr (.of e3) (λ l4 H4 n4 S4 e4=>?_);wtm_at "gg";refine zbh (ds:=[.int 0]) (by simp) (.cons (zbf.mpr rfl) .nil) (λ v5 H5 S5 i5=>?_);wtm_at "gg";refine zaS (.of (S5 _ _ (S4 _ _ e3))) ?_;rw [wd,hpl];refine zjG i5 (by omega) (by omega) (λ v6 H6 S6 i6=>?_);wtm_at "gg";rw [wG] at i6;refine zbh (ds:=[.tuple (wl rs.length (.int 0))]) (by simp) (.cons i6 .nil) (λ v7 H7 S7 i7=>?_);wtm_at "gg";refine zjG i7 (by decide) (by decide) (λ v8 H8 S8 i8=>?_);wtm_at "gg";have T8:=S5.trans (S6.trans (S7.trans S8))
   have i8' : Is K H8 v8 (TTr (zeV rs.length)):=by
     unfold TTr zeV TZ;rw [QC,QC];exact i8
   have i4 : Is K H8 (.ref l4) (TZ ps):=zct.mpr ⟨l4,rfl,.of (T8 _ _ e4)⟩;refine zbh (ds:=[TZ ps,TTr (zeV rs.length)]) (by simp) (.cons i4 (.cons i8' .nil)) (λ v9 H9 S9 i9=>?_);have T9:=S4.trans (T8.trans S9);exact q v9 H9 ps (X3.trans T9.exc) (K3.trans T9.keep) (P3.same T9) i9 hpl (λ i hi=>hps i (by omega))
def zfs (K : wa) (H H' : Hp) (v : V) (f : Nat -> TB.SK) (i : Nat) (w : V) : Prop:=∃ t l sv,v = .ref t /\ SqT K H' t [.ref l,w] /\ H l = none /\ H' l = some (.lst sv) /\ IsAll K H' sv ((wo i).map (StF f))
def zeU (K : wa) : Sp:=λ vs H Q _=>∃ x0 x1 x2,vs = [x0,x1,x2] /\ ∃ (rs ps : List Int) (us ts cm : List (List Int)) (n : Nat),Is K H x0 (zbF rs us ts) /\ zaU rs us ts /\ Is K H x1 (StD ps cm) /\ za8 rs ps cm /\ x2 = .int (n : Int) /\ n <= 3000 /\
 (∀ i j,zoe (stN rs us ts ps cm) i j -> i <= n -> ∀ v H',zag H H' -> zfs K H H' v (stN rs us ts ps cm) i (.int (j : Int)) -> Q v H') /\ (zm4 (stN rs us ts ps cm) (n + 1) -> ∀ v H',zag H H' -> zfs K H H' v (stN rs us ts ps cm) n .non -> Q v H')
theorem zhV {K : wa} {H : Hp} {Q : VK} {E : XK} {v w : V} {rs ps : List Int} {us ts cm : List (List Int)} {n : Nat} (h : Is K H v (zbF rs us ts)) (ok : zaU rs us ts) (h2 : Is K H w (StD ps cm)) (so : za8 rs ps cm) (hn : n <= 3000)
   (q1 : ∀ i j,zoe (stN rs us ts ps cm) i j -> i <= n -> ∀ v H',zag H H' -> zfs K H H' v (stN rs us ts ps cm) i (.int (j : Int)) -> Q v H') (q2 : zm4 (stN rs us ts ps cm) (n + 1) -> ∀ v H',zag H H' -> zfs K H H' v (stN rs us ts ps cm) n .non -> Q v H') : zeU K [v,w,.int (n : Int)] H Q E:=⟨_,_,_,rfl,rs,ps,us,ts,cm,n,h,ok,h2,so,rfl,hn,q1,q2⟩
set_option maxHeartbeats 4000000 in
theorem zhY (T : Txt K mg a) : zbB P w K mg base CX0 3 a.law_stands a.fd_law_stands ["_law_web_here","_law_stand","_law_most"] (zeU K):=by
 refine T.F_law_stands.ok zcM (λ vs H Q E h=>by obtain ⟨_,_,_,rfl,_⟩:=h; rfl) (λ cdv A outer s H vs Q E hr h=>?_);obtain ⟨x0,x1,x2,rfl,h⟩:=h;have hu:=hr.units
 refine ⟨_,(zac (zam (i:=3) zcM.nd rfl (Or.inl rfl) znR)
     (zac (zam (i:=4) zcM.nd rfl (Or.inl rfl) (zaP zab))
     (zac (zfl wY (zpg (zlk (vY (Wa (by decide) _) hu) (pv 1) (pv 3)) (by with_unfolding_all rfl)) (zac (zbm (zau (show OpR _ (compareOp .Eq) (zcV K) from zbI hu) (zao (show zal _ (.builtin "len") (zb7 K) from zax) rfl T.z_len za2 (zaa (pv 4) zab)) (pv 2) (zaH _)) (zaf (zas (zaD (zaa (pv 4) (zaa zkG zab))))) zaL)
     (zac (zpf (vY (Wa (by decide) _) hu) (pv 3) (pv 1) (zao (show zal _ (.builtin "len") (zb7 K) from zax) rfl T.z_len za2 (zaa (pv 4) zab)) rfl)
     (zac (zdw (ze3 vE vJ vK zb0 (pv 4) (zaa (pv 1) zab)))
     (zaf (zam (i:=1) zcM.nd rfl (Or.inl rfl) (zaj zah (zai (zgl T) (hr.mono (by decide)) rfl T.g_law_tick T.F_law_tick.kp T.b_law_tick .nil zaq (zaa (pv 0) (zaa (pv 1) zab))) zad (λ _ _=>rfl))))))))
     (zaf (zas (zaD (zaa (pv 4) (zaa (zo2 (vY (Wa (by decide) _) hu) (pv 3) (pv 1) (λ _ _=>rfl)) zab)))))))),?_⟩
 clear hu
 try clear hgd
 try dsimp only [zbz,zbb]
 rw [show start ["_law_web_here","_law_stand","_law_most","_law_places","_law_stands_here"] [x0,x1,x2] = [some x0,some x1,some x2,none,none] from rfl];obtain ⟨rs,ps,us,ts,cm,n,hw,ok,hs,so,rfl,hn,q1,q2⟩:=h;generalize hf : stN rs us ts ps cm = f at q1 q2;wtm_at "gg";refine zo9 (λ ld H1 n1 S1 e1=>?_);wtm_at "ga";rename_i lo H2 n2 S2 e2
 have nlo : H lo = none:=by
   cases z : H lo with
   | none=>rfl
   | some o=>rw [S1 _ _ z] at n2; cases n2
 refine zeR (λ m σ H'=>∃ (i : Nat) (v : V) (sv : List V) (xs : List (TB.SK × Addr × Int)),m = n - i /\ i <= n /\ σ = [some x0,some v,some (.int (n : Int)),some (.ref ld),some (.ref lo)] /\ zag H H' /\ H' lo = some (.lst sv) /\ IsAll K H' sv ((wo i).map (StF f)) /\ H' ld = some (zc1 ld xs) /\ zbW K H' xs /\ zhL f i xs /\ Is K H' v (StF f i) /\ zm4 f i)
   n ⟨0,x1,[],[],by omega,by omega,rfl,S1.trans S2,e2,.nil,S2 _ _ e1,zbW.nil,rfl,by rw [<- hf]; exact hs.by (S1.trans S2),λ a b h1 h2=>by omega⟩ ?_
 rintro m σ H3 ⟨i,v,sv,xs,rfl,hin,rfl,S3,e3,t3,d3,k3,di,i3,ds⟩;obtain ⟨av,_,rfl,_⟩:=zaI.mp i3;have hsl : sv.length = i:=by rw [t3.length,wd,vc]
 wtm_at "gg";refine zkF ?_;wtm_at "gg";refine ⟨ld,av,xs,(f i).1,(f i).2,rfl,rfl,d3,k3,i3,?_⟩
 by_cases hx : ∃ j,j < i /\ f j = f i
 . obtain ⟨j,hj,ej⟩:=hx
   rw [zie di ds hj ej,show (!(some (j : Int)).isSome) = false from rfl];wtm_at "gg";refine zoD ?_;wtm_at "gg";refine ⟨ld,av,xs,(f i).1,(f i).2,(j : Int),rfl,rfl,d3,k3,i3,zie di ds hj ej,?_⟩;wtm_at "gg";refine zbC (by simp) (λ t4 H4 n4 S4 e4=>?_);exact q1 i j ⟨ds,hj,ej.symm⟩ hin _ H4 (S3.trans S4) ⟨t4,lo,sv,rfl,.of e4,nlo,S4 _ _ e3,IsAll.same S4 _ _ t3⟩
 . have ds' : zm4 f (i + 1):=λ a b h1 h2=>by
     rcases wK b i with z | z
     . exact ds a b h1 z
     . have : b = i:=by omega
       subst this;exact λ e=>hx ⟨a,h1,e⟩
   have hl:=zm5 di (λ k hk e=>hx ⟨k,hk,e⟩);rw [hl,show (!(none : Option Int).isSome) = true from rfl];wtm_at "gg";refine zfM ?_;wtm_at "gg";refine zaS (.of e3) ?_;rw [hsl];wtm_at "gg"
   . rename_i hi
     have hi : i = n:=by omega
     subst hi;refine zbC (by simp) (λ t4 H4 n4 S4 e4=>?_);exact q2 ds' _ H4 (S3.trans S4) ⟨t4,lo,sv,rfl,.of e4,nlo,S4 _ _ e3,IsAll.same S4 _ _ t3⟩
   . rename_i hi
     have hi : ¬ i = n:=λ e=>hi (by omega)
     refine zng ?_;wtm_at "gg";refine zaS (.of e3) ?_;rw [hsl];wtm_at "gg";refine zpL d3 k3 i3 hl (by rw [di.len]; omega) (λ H5 E5 K5 d5 k5=>?_);have nld : lo ≠ ld:=λ e=>by rw [e,d3] at e3; cases e3
     have e5:=E5 _ _ nld e3;wtm_at "gg";refine zec (.of e5) ?_;wtm_at "gg";refine zkI e5 (by omega) (λ H6 E6 e6=>?_);have K6:=E6.keep e5;have S6 : zag H H6:=λ b o h=>E6 b o (zay h nlo) (E5 b o (zay h n1) (S3 b o h))
     have K56:=K5.trans K6;have i6 : Is K H6 (.ref av) (StF f i):=i3.thruS K56;wtm_at "gg";have so':=zk9 ok so i;rw [hf] at so';refine zgf (hw.by S6) ok i6 so' (λ v7 H7 S7 i7=>?_);wtm_at "gg";refine zkY i7 (λ v8 i8=>?_);wtm_at "gg";refine ⟨n - (i + 1),by omega,i + 1,v8,sv ++ [.ref av],xs ++ [(((f i).1,(f i).2),av,(i : Int))],rfl,by omega,rfl,S6.trans S7,S7 _ _ e6,?_,S7 _ _ (E6 _ _ (λ e=>nld e.symm) d5),(k5.thru K6).thru S7.keep,di.snoc av,?_,ds'⟩
     . rw [WJ,wB]
       exact (IsAll.keep (K56.trans S7.keep) _ _ (zhI f _) t3).append (.cons (i6.by S7) .nil)
     . rw [<- hf] at i8 ⊢
       exact i8
structure zhy (A B A' B' : List TB.SK) : Prop where
 a : ∀ s ∈ A',s ∈ A ++ B
 b : ∀ s ∈ B',s ∈ A ++ B
 l : A'.length + B'.length <= 700
def zgd (K : wa) : Sp:=λ vs H Q _=>∃ x0 x1 x2,vs = [x0,x1,x2] /\ ∃ (p l m : Addr) (k : Int) (xs ys : List V) (A B : List TB.SK),x0 = .ref p /\ x1 = .ref l /\ x2 = .ref m /\ Pen H p k /\ H l = some (.lst xs) /\ H m = some (.lst ys) /\ l ≠ p /\ m ≠ p /\ IsAll K H xs (A.map StS) /\ IsAll K H ys (B.map StS) /\ 1 <= B.length /\ A.length + B.length <= 300 /\
 ∀ v H' A' B',Exc p H H' -> zaM H H' -> Pen H' p k -> zfB K H' p v A' B' -> zhy A B A' B' -> Q v H'
theorem zkv {K : wa} {H : Hp} {Q : VK} {E : XK} {p l m : Addr} {k : Int} {xs ys : List V} {A B : List TB.SK} (hp : Pen H p k) (el : H l = some (.lst xs)) (em : H m = some (.lst ys)) (nl : l ≠ p) (nm : m ≠ p) (tx : IsAll K H xs (A.map StS)) (ty : IsAll K H ys (B.map StS)) (hB : 1 <= B.length) (hz : A.length + B.length <= 300)
   (q : ∀ v H' A' B',Exc p H H' -> zaM H H' -> Pen H' p k -> zfB K H' p v A' B' -> zhy A B A' B' -> Q v H') : zgd K [.ref p,.ref l,.ref m] H Q E:=⟨_,_,_,rfl,p,l,m,k,xs,ys,A,B,rfl,rfl,rfl,hp,el,em,nl,nm,tx,ty,hB,hz,q⟩
theorem zeN {K : wa} {H : Hp} {xs : List V} {C : List TB.SK} (t : IsAll K H xs (C.map StS)) {i : Nat} {x : V} {s : TB.SK} (h : Is K H x (StS s)) : IsAll K H (xs.set i x) ((C.set i s).map StS):=by
 have hl:=t.length;rw [wd] at hl
 by_cases hi : i < xs.length
 . rw [VH,if_pos hi,VH,if_pos (by omega)]
   rw [wB,wv];refine IsAll.append (zaX t i) (.cons h (zaW t (i + 1)))
 . rw [qt (by omega),qt (by omega)]
   exact t
theorem zfq {n j : Nat} (h : j < n) : ixN n (j : Int) = some j:=by
 unfold ixN;rw [if_pos (by omega),if_pos (by omega)];simp
theorem zfG {C : List TB.SK} {i : Nat} {s t : TB.SK} (h : t ∈ C.set i s) : t ∈ C \/ t = s:=List.mem_or_eq_of_mem_set h
set_option maxHeartbeats 4000000 in
theorem zko (T : Txt K mg a) : zbB P w K mg base CX0 2 a.law_bent a.fd_law_bent ["_law_pen_here","_law_lead","_law_again"] (zgd K):=by
 refine T.F_law_bent.ok zbK (λ vs H Q E h=>by obtain ⟨_,_,_,rfl,_⟩:=h; rfl) (λ cdv A outer s H vs Q E hr h=>?_);obtain ⟨x0,x1,x2,rfl,h⟩:=h;have hu:=hr.units
 refine ⟨_,(zac (zam (i:=3) zbK.nd rfl (Or.inl rfl) (zai (zat T) (hr.mono (by decide)) rfl T.g_law_draw T.F_law_draw.kp T.b_law_draw .nil zaq (zaa (pv 0) (zaa zad zab))))
     (zac (zam (i:=4) zbK.nd rfl (Or.inl rfl) (zai (zat T) (hr.mono (by decide)) rfl T.g_law_draw T.F_law_draw.kp T.b_law_draw .nil zaq (zaa (pv 0) (zaa (zao (show zal _ (.builtin "len") (zb7 K) from zax) rfl T.z_len za2 (zaa (pv 2) zab)) zab))))
     (zac (zam (i:=5) zbK.nd rfl (Or.inl rfl) (zaw zaC (pv 1) (pv 2)))
     (zac (zam (i:=6) zbK.nd rfl (Or.inl rfl) (zai (zat T) (hr.mono (by decide)) rfl T.g_law_draw T.F_law_draw.kp T.b_law_draw .nil zaq (zaa (pv 0) (zaa (zao (show zal _ (.builtin "len") (zb7 K) from zax) rfl T.z_len za2 (zaa (pv 5) zab)) zab))))
     (zac (zam (i:=7) zbK.nd rfl (Or.inl rfl) (zai (zat T) (hr.mono (by decide)) rfl T.g_law_draw T.F_law_draw.kp T.b_law_draw .nil zaq (zaa (pv 0) (zaa (zao (show zal _ (.builtin "len") (zb7 K) from zax) rfl T.z_len za2 (zaa (pv 5) zab)) zab))))
     (zac (zbm (zau (show OpR _ (compareOp .Eq) (zcV K) from zbI hu) (pv 3) zad (zaH _)) (zaf (zas (zaD (zaa (zaw zaC (pv 1) (zaT zbq (pv 2) za5 (za4 (pv 4)))) (zaa (zaw zaC (zaT zbq (pv 2) (za4 (pv 4)) za5) (zaT zbq (pv 2) za5 (za4 (pv 4)))) zab))))) zaL)
     (zac (zbm (zau (show OpR _ (compareOp .Eq) (zcV K) from zbI hu) (pv 3) zad (zaH _)) (zaf (zas (zaD (zaa (pv 1) (zaa (zaw zaC (pv 2) (pv 2)) zab))))) zaL)
     (zac (zbm (zau (show OpR _ (compareOp .Eq) (zcV K) from zbI hu) (pv 3) zad (zaH _)) (zaf (zas (zaD (zaa (pv 5) (zaa (pv 2) zab))))) zaL)
     (zac (zbm (zau (show OpR _ (compareOp .Eq) (zcV K) from zbI hu) (pv 3) zad (zaH _)) (zaf (zam (i:=5) zbK.nd rfl (Or.inl rfl) (zaw zaC (zaT zbq (pv 5) za5 (za4 (pv 6))) (zaT zbq (pv 5) (za4 (zaw zaC (pv 6) zad)) za5)))) zaL)
     (zac (zbm (zau (show OpR _ (compareOp .Eq) (zcV K) from zbI hu) (pv 3) zad (zaH _)) (zaf (zam (i:=5) zbK.nd rfl (Or.inl rfl) (zaw zaC (zaw zaC (zaT zbq (pv 5) za5 (za4 (pv 6))) (zaP (zaa (zaj zah (pv 5) (pv 6) (λ _ _=>rfl)) zab))) (zaT zbq (pv 5) (za4 (pv 6)) za5)))) zaL)
     (zac (zbm (zau (show OpR _ (compareOp .Eq) (zcV K) from zbI hu) (pv 3) zad (zaH _)) (zaf (zeD (zaD (zaa (zaj zah (pv 5) (pv 7) (λ _ _=>rfl)) (zaa (zaj zah (pv 5) (pv 6) (λ _ _=>rfl)) zab))) (zcZ (n:=2) rfl (zaJ (zd9 (pv 5) (pv 6) zcs) (zaJ (zd9 (pv 5) (pv 7) zcs) zcf))))) zaL)
     (zac (zbm (zau (show OpR _ (compareOp .Eq) (zcV K) from zbI hu) (pv 3) zad (zaH _)) (zaf (zas (zaD (zaa (pv 5) (zaa (zaP zab) zab))))) zaL)
     (zac (zbm (zau (show OpR _ (compareOp .Eq) (zcV K) from zbI hu) (pv 3) zad (zaH _)) (zaf (zas (zaD (zaa (pv 1) (zaa (zaT zbq (pv 2) (za4 (pv 4)) za5) zab))))) zaL)
     (zaf (zas (zaD (zaa (zaT zbq (pv 5) za5 (za4 (zao (show zal _ (.builtin "len") (zb7 K) from zax) rfl T.z_len za2 (zaa (pv 1) zab)))) (zaa (zaT zbq (pv 5) (za4 (zao (show zal _ (.builtin "len") (zb7 K) from zax) rfl T.z_len za2 (zaa (pv 1) zab))) za5) zab)))))))))))))))))),?_⟩
 clear hu
 try clear hgd
 try dsimp only [zbz,zbb]
 rw [show start ["_law_pen_here","_law_lead","_law_again","_law_way","_law_at","_law_row","_law_spot","_law_other"] [x0,x1,x2] = [some x0,some x1,some x2,none,none,none,none,none] from rfl];obtain ⟨p,l,m,k,xs,ys,A,B,rfl,rfl,rfl,hp,el,em,nl,nm,tx,ty,hB,hz,q⟩:=h;have hxl : xs.length = A.length:=by rw [tx.length,wd]
 have hyl : ys.length = B.length:=by rw [ty.length,wd]
 wtm_at "gg";rename_i w H1 w0 w1 E1 K1 P1;refine zaS (.of (E1.at nm em)) ?_;rw [hyl];wtm_at "gg";rename_i at_ H2 a0 a1 E2 K2 P2;have E02:=E1.trans E2;have K02:=K1.trans K2;refine zby (E02.at nl el) (E02.at nm em) (zcF (by omega)) (λ l3 H3 n3 S3 e3=>?_);have P3:=P2.same S3;have n3p : l3 ≠ p:=Pen.ne n3 P2
 have n03 : H l3 = none:=by
   cases z : H l3 with
   | none=>rfl
   | some o=>rw [E02 l3 o n3p z] at n3; cases n3
 have nl3 : l ≠ l3:=λ e=>by rw [<- e,el] at n03; cases n03
 have hcl : (xs ++ ys).length = xs.length + ys.length:=wf;wtm_at "gg";refine zaS (.of e3) ?_;rw [hcl];wtm_at "gg";rename_i sp H4 s0 s1 E4 K4 P4;have e4:=E4.at n3p e3;refine zaS (.of e4) ?_;rw [hcl];wtm_at "gt";rename_i ot H5 o0 o1 E5 K5 P5;obtain ⟨a,rfl⟩:=vQ a0;obtain ⟨s,rfl⟩:=vQ s0;obtain ⟨o,rfl⟩:=vQ o0;have ha : a < B.length:=by omega
 have hs : s < xs.length + ys.length:=by omega
 have ho : o < xs.length + ys.length:=by omega
 have E05 : Exc p H H5:=E02.trans (S3.exc.trans (E4.trans E5));have K05 : zaM H H5:=K02.trans (S3.keep.trans (K4.trans K5));have el5:=E05.at nl el;have em5:=E05.at nm em;have e5:=E5.at n3p e4;have tx5 : IsAll K H5 xs (A.map StS):=IsAll.keep K05 _ _ (zbo _) tx;have ty5 : IsAll K H5 ys (B.map StS):=IsAll.keep K05 _ _ (zbo _) ty;have tC5:=zbu tx5 ty5;clear E1 K1 P1 E2 K2 P2 E02 K02 S3 P3 E4 K4 P4 E5 K5 e3 e4 n3 a0 a1 s0 s1 o0 o1 el em tx ty hp;have fin : ∀ (H6 : Hp) (t u v : Addr) (zs ws : List V) (A' B' : List TB.SK),Exc p H H6 -> zaM H H6 -> Pen H6 p k -> H6 t = some (.tup [.ref u,.ref v]) -> H6 u = some (.lst zs) -> H6 v = some (.lst ws) -> u ≠ p -> v ≠ p -> IsAll K H6 zs (A'.map StS) -> IsAll K H6 ws (B'.map StS) -> zhy A B A' B' -> Q (.ref t) H6:=λ H6 t u v zs ws A' B' E6 K6 P6 et eu ev nu nv tz tw b=>q _ H6 A' B' E6 K6 P6 ⟨t,u,v,zs,ws,rfl,.of et,eu,ev,nu,nv,tz,tw⟩ b
 clear q;rcases (show w = 0 \/ w = 1 \/ w = 2 \/ w = 3 \/ w = 4 \/ w = 5 \/ w = 6 \/ w = 7 \/ w = 8 by omega) with rfl | rfl | rfl | rfl | rfl | rfl | rfl | rfl | rfl
 all_goals wtm_at "tl"
 all_goals wtm_at "gg"
 all_goals try omega
 . refine zbd (.of em5) (λ l6 H6 n6 S6 e6=>?_)
   rw [zce] at e6;refine zby (S6 _ _ el5) e6 (zcF (by rw [wC]; omega)) (λ l7 H7 n7 S7 e7=>?_);have S57:=S6.trans S7;wtm_at "gg";refine zbd (.of (S57 _ _ em5)) (λ l8 H8 n8 S8 e8=>?_);rw [zbs _ _ (by omega)] at e8;wtm_at "gg";have S58:=S57.trans S8;refine zbd (.of (S58 _ _ em5)) (λ l9 H9 n9 S9 e9=>?_);rw [zce] at e9;refine zby (S9 _ _ e8) e9 (zcF (by rw [wC,wP]; omega)) (λ l10 H10 n10 S10 e10=>?_);wtm_at "gg";refine zbC (by simp) (λ t11 H11 n11 S11 e11=>?_);have S711:=S8.trans (S9.trans (S10.trans S11));have S511:=S57.trans S711
   exact fin H11 t11 l7 l10 _ _ (A ++ B.take a) (B.drop a ++ B.take a) (E05.trans S511.exc) (K05.trans S511.keep) (P5.same S511) e11 (S711 _ _ e7) (S11 _ _ e10) (Pen.ne n7 (P5.same S6)) (Pen.ne n10 ((P5.same S58).same S9)) (IsAll.same S511 _ _ (zbu tx5 (zaX ty5 _))) (IsAll.same S511 _ _ (zbu (zaW ty5 _) (zaX ty5 _))) ⟨λ s hs=>by
     rcases wJ.mp hs with h | h
     . exact vF _ h
     . exact wM _ (vk h),λ s hs=>by
     rcases wJ.mp hs with h | h
     . exact wM _ (vj h)
     . exact wM _ (vk h),by rw [wf,wf,wC,wP]; omega⟩
 . refine zby em5 em5 (zcF (by omega)) (λ l6 H6 n6 S6 e6=>?_)
   wtm_at "gg";refine zbC (by simp) (λ t7 H7 n7 S7 e7=>?_);have S57:=S6.trans S7
   exact fin H7 t7 l l6 _ _ A (B ++ B) (E05.trans S57.exc) (K05.trans S57.keep) (P5.same S57) e7 (S57 _ _ el5) (S7 _ _ e6) nl (Pen.ne n6 P5) (IsAll.same S57 _ _ tx5) (IsAll.same S57 _ _ (zbu ty5 ty5)) ⟨λ s hs=>vF _ hs,λ s hs=>by
     rcases wJ.mp hs with h | h <;> exact wM _ h,by rw [wf]; omega⟩
 . refine zbC (by simp) (λ t7 H7 n7 S7 e7=>?_)
   exact fin H7 t7 l3 m _ _ (A ++ B) B (E05.trans S7.exc) (K05.trans S7.keep) (P5.same S7) e7 (S7 _ _ e5) (S7 _ _ em5) n3p nm (IsAll.same S7 _ _ tC5) (IsAll.same S7 _ _ ty5) ⟨λ s hs=>hs,λ s hs=>wM _ hs,by rw [wf]; omega⟩
 . refine zbd (.of e5) (λ l6 H6 n6 S6 e6=>?_)
   rw [zce] at e6;wtm_at "gg";refine zbd (.of (S6 _ _ e5)) (λ l7 H7 n7 S7 e7=>?_);rw [show (s : Int) + 1 = ((s + 1 : Nat) : Int) from by omega,zbs _ _ (by omega)] at e7;refine zby (S7 _ _ e6) e7 (zcF (by rw [wC,wP]; omega)) (λ l8 H8 n8 S8 e8=>?_);have S58:=S6.trans (S7.trans S8);have E6 : Exc p H H8:=E05.trans S58.exc;have K6:=K05.trans S58.keep;have P6:=P5.same S58;have t6 : IsAll K H8 _ _:=IsAll.same S58 _ _ (zbu (zaX tC5 s) (zaW tC5 (s + 1)));have el6:=S58 _ _ el5
   have hm : ∀ t ∈ (A ++ B).take s ++ (A ++ B).drop (s + 1),t ∈ A ++ B:=λ t ht=>by
     rcases wJ.mp ht with h | h
     . exact vk h
     . exact vj h
   have hcz : ((A ++ B).take s ++ (A ++ B).drop (s + 1)).length <= 301:=by rw [wf,wC,wP,wf]; omega
   have hcv : A.length <= ((xs ++ ys).take s ++ (xs ++ ys).drop (s + 1)).length:=by rw [wf,wC,wP]; omega
   generalize (A ++ B).take s ++ (A ++ B).drop (s + 1) = C at *;generalize (xs ++ ys).take s ++ (xs ++ ys).drop (s + 1) = cv at *;have e6:=e8;wtm_at "gg"
   all_goals try omega
   refine zaS (.of el6) ?_;rw [hxl];wtm_at "gg";refine zbd (.of e6) (λ l7 H7 n7 S7 e7=>?_);rw [zce] at e7;wtm_at "gg";refine zaS (.of (S7 _ _ el6)) ?_;rw [hxl];wtm_at "gg";refine zbd (.of (S7 _ _ e6)) (λ l8 H8 n8 S8 e8=>?_);rw [zbs _ _ (by omega)] at e8;wtm_at "gg";refine zbC (by simp) (λ t9 H9 n9 S9 e9=>?_);have S79:=S7.trans (S8.trans S9);exact fin H9 t9 l7 l8 _ _ (C.take A.length) (C.drop A.length) (E6.trans S79.exc) (K6.trans S79.keep) (P6.same S79) e9 (S9 _ _ (S8 _ _ e7)) (S9 _ _ e8) (Pen.ne n7 P6) (Pen.ne n8 (P6.same S7)) (IsAll.same S79 _ _ (zaX t6 _)) (IsAll.same S79 _ _ (zaW t6 _)) ⟨λ s hs=>hm s (vk hs),λ s hs=>hm s (vj hs),by rw [wC,wP]; omega⟩
 . refine zbd (.of e5) (λ l6 H6 n6 S6 e6=>?_)
   rw [zce] at e6;wtm_at "gg";obtain ⟨x6,hx6⟩ : ∃ x,(xs ++ ys)[s]? = some x:=⟨(xs ++ ys)[s]'(by omega),we (by omega)⟩;obtain ⟨hs6,ix6⟩:=zbH tC5 hx6;refine zcb (m:=(s : Int)) (.of (S6 _ _ e5)) (zbP (j:=s) hx6) ?_;wtm_at "gg";refine zcX (by simp) (λ l7 H7 n7 S7 e7=>?_);refine zby (S7 _ _ e6) e7 (zcF (by rw [wC,vq]; omega)) (λ l8 H8 n8 S8 e8=>?_);have S58:=S6.trans (S7.trans S8);wtm_at "gg";refine zbd (.of (S58 _ _ e5)) (λ l9 H9 n9 S9 e9=>?_);rw [zbs _ _ (by omega)] at e9;refine zby (S9 _ _ e8) e9 (zcF (by rw [wf,wC,vq,wP]; omega)) (λ l10 H10 n10 S10 e10=>?_);have S510:=S58.trans (S9.trans S10);have E6 : Exc p H H10:=E05.trans S510.exc;have K6:=K05.trans S510.keep;have P6:=P5.same S510;have t6 : IsAll K H10 _ _:=IsAll.same S510 _ _ (zbu (zbu (zaX tC5 s) (show IsAll K H5 [x6] ([(A ++ B).getD s ([],[])].map StS) from .cons ix6 .nil)) (zaW tC5 s));have el6:=S510 _ _ el5
   have hm : ∀ t ∈ (A ++ B).take s ++ [(A ++ B).getD s ([],[])] ++ (A ++ B).drop s,t ∈ A ++ B:=λ t ht=>by
     rcases wJ.mp ht with h | h
     . rcases wJ.mp h with h | h
       . exact vk h
       . rw [wz] at h
         subst h;exact zaY hs6
     . exact vj h
   have hcz : ((A ++ B).take s ++ [(A ++ B).getD s ([],[])] ++ (A ++ B).drop s).length <= 301:=by rw [wf,wf,wC,wP,wf,vq]; omega
   have hcv : A.length <= ((xs ++ ys).take s ++ [x6] ++ (xs ++ ys).drop s).length:=by rw [wf,wf,wC,wP]; omega
   generalize (A ++ B).take s ++ [(A ++ B).getD s ([],[])] ++ (A ++ B).drop s = C at *;generalize (xs ++ ys).take s ++ [x6] ++ (xs ++ ys).drop s = cv at *;have e6:=e10;wtm_at "gg"
   all_goals try omega
   refine zaS (.of el6) ?_;rw [hxl];wtm_at "gg";refine zbd (.of e6) (λ l7 H7 n7 S7 e7=>?_);rw [zce] at e7;wtm_at "gg";refine zaS (.of (S7 _ _ el6)) ?_;rw [hxl];wtm_at "gg";refine zbd (.of (S7 _ _ e6)) (λ l8 H8 n8 S8 e8=>?_);rw [zbs _ _ (by omega)] at e8;wtm_at "gg";refine zbC (by simp) (λ t9 H9 n9 S9 e9=>?_);have S79:=S7.trans (S8.trans S9);exact fin H9 t9 l7 l8 _ _ (C.take A.length) (C.drop A.length) (E6.trans S79.exc) (K6.trans S79.keep) (P6.same S79) e9 (S9 _ _ (S8 _ _ e7)) (S9 _ _ e8) (Pen.ne n7 P6) (Pen.ne n8 (P6.same S7)) (IsAll.same S79 _ _ (zaX t6 _)) (IsAll.same S79 _ _ (zaW t6 _)) ⟨λ s hs=>hm s (vk hs),λ s hs=>hm s (vj hs),by rw [wC,wP]; omega⟩
 . obtain ⟨x6,hx6⟩ : ∃ x,(xs ++ ys)[o]? = some x:=⟨(xs ++ ys)[o]'(by omega),we (by omega)⟩
   obtain ⟨x7,hx7⟩ : ∃ x,(xs ++ ys)[s]? = some x:=⟨(xs ++ ys)[s]'(by omega),we (by omega)⟩;obtain ⟨hs6,ix6⟩:=zbH tC5 hx6;obtain ⟨hs7,ix7⟩:=zbH tC5 hx7;refine zcb (m:=(o : Int)) (.of e5) (zbP (j:=o) hx6) ?_;wtm_at "gg";refine zcb (m:=(s : Int)) (.of e5) (zbP (j:=s) hx7) ?_;wtm_at "gg";refine zbC (by simp) (λ t6 H6 n6 S6 e6=>?_);wtm_at "gg";refine zcw (.of e6) rfl ?_;wtm_at "gg";refine zds (S6 _ _ e5) (j:=s) (by rw [hcl]; exact zfq hs) (λ H7 E7 e7=>?_);wtm_at "gg";refine zds e7 (j:=o) (by rw [vD,hcl]; exact zfq ho) (λ H8 E8 e8=>?_);have K8:=E8.keep e7;have K7:=E7.keep (S6 _ _ e5);have K58:=S6.keep.trans (K7.trans K8)
   have E6 : Exc p H H8:=λ b oo hb hh=>by
     have hbl : b ≠ l3:=λ e=>by rw [e,n03] at hh; cases hh
     exact E8 b oo hbl (E7 b oo hbl (S6 b oo (E05 b oo hb hh)))
   have K6:=K05.trans K58;have P6:=((P5.same S6).exc E7 n3p.symm).exc E8 n3p.symm;have t6 : IsAll K H8 _ _:=zeN (i:=o) (zeN (i:=s) (IsAll.keep K58 _ _ (zbo _) tC5) (ix6.byK K58 (zc5 _ _))) (ix7.byK K58 (zc5 _ _));have el6:=E8.at nl3 (E7.at nl3 (S6 _ _ el5))
   have hm : ∀ t ∈ (((A ++ B).set s ((A ++ B).getD o ([],[]))).set o ((A ++ B).getD s ([],[]))),t ∈ A ++ B:=λ t ht=>by
     rcases zfG ht with h | rfl
     . rcases zfG h with h | rfl
       . exact h
       . exact zaY hs6
     . exact zaY hs7
   have hcz : (((A ++ B).set s ((A ++ B).getD o ([],[]))).set o ((A ++ B).getD s ([],[]))).length <= 301:=by rw [vD,vD,wf]; omega
   have hcv : A.length <= (((xs ++ ys).set s x6).set o x7).length:=by rw [vD,vD]; omega
   generalize ((A ++ B).set s ((A ++ B).getD o ([],[]))).set o ((A ++ B).getD s ([],[])) = C at *;generalize ((xs ++ ys).set s x6).set o x7 = cv at *;have e6:=e8;wtm_at "gg"
   all_goals try omega
   refine zaS (.of el6) ?_;rw [hxl];wtm_at "gg";refine zbd (.of e6) (λ l7 H7 n7 S7 e7=>?_);rw [zce] at e7;wtm_at "gg";refine zaS (.of (S7 _ _ el6)) ?_;rw [hxl];wtm_at "gg";refine zbd (.of (S7 _ _ e6)) (λ l8 H8 n8 S8 e8=>?_);rw [zbs _ _ (by omega)] at e8;wtm_at "gg";refine zbC (by simp) (λ t9 H9 n9 S9 e9=>?_);have S79:=S7.trans (S8.trans S9);exact fin H9 t9 l7 l8 _ _ (C.take A.length) (C.drop A.length) (E6.trans S79.exc) (K6.trans S79.keep) (P6.same S79) e9 (S9 _ _ (S8 _ _ e7)) (S9 _ _ e8) (Pen.ne n7 P6) (Pen.ne n8 (P6.same S7)) (IsAll.same S79 _ _ (zaX t6 _)) (IsAll.same S79 _ _ (zaW t6 _)) ⟨λ s hs=>hm s (vk hs),λ s hs=>hm s (vj hs),by rw [wC,wP]; omega⟩
 . refine zcX (by simp) (λ l6 H6 n6 S6 e6=>?_)
   wtm_at "gg";refine zbC (by simp) (λ t7 H7 n7 S7 e7=>?_);have S57:=S6.trans S7;exact fin H7 t7 l3 l6 _ _ (A ++ B) [] (E05.trans S57.exc) (K05.trans S57.keep) (P5.same S57) e7 (S57 _ _ e5) (S7 _ _ e6) n3p (Pen.ne n6 P5) (IsAll.same S57 _ _ tC5) .nil ⟨λ s hs=>hs,λ s hs=>(by cases hs),by rw [wf]; simp; omega⟩
 . refine zbd (.of em5) (λ l6 H6 n6 S6 e6=>?_)
   rw [zbs _ _ (by omega)] at e6;wtm_at "gg";refine zbC (by simp) (λ t7 H7 n7 S7 e7=>?_);have S57:=S6.trans S7;exact fin H7 t7 l l6 _ _ A (B.drop a) (E05.trans S57.exc) (K05.trans S57.keep) (P5.same S57) e7 (S57 _ _ el5) (S7 _ _ e6) nl (Pen.ne n6 P5) (IsAll.same S57 _ _ tx5) (IsAll.same S57 _ _ (zaW ty5 a)) ⟨λ s hs=>vF _ hs,λ s hs=>wM _ (vj hs),by rw [wP]; omega⟩
 . have E6:=E05
   have K6:=K05;have P6:=P5;have e6:=e5;have t6:=tC5;have hcz : (A ++ B).length <= 301:=by rw [wf]; omega
   have hcv : A.length <= (xs ++ ys).length:=by omega
   generalize hC : A ++ B = C at t6 hcz;have hm : ∀ t ∈ C,t ∈ A ++ B:=λ t ht=>by rw [hC]; exact ht
   generalize xs ++ ys = cv at *;refine zaS (.of el5) ?_;rw [hxl];wtm_at "gg";refine zbd (.of e6) (λ l7 H7 n7 S7 e7=>?_);rw [zce] at e7;wtm_at "gg";refine zaS (.of (S7 _ _ el5)) ?_;rw [hxl];wtm_at "gg";refine zbd (.of (S7 _ _ e6)) (λ l8 H8 n8 S8 e8=>?_);rw [zbs _ _ (by omega)] at e8;wtm_at "gg";refine zbC (by simp) (λ t9 H9 n9 S9 e9=>?_);have S79:=S7.trans (S8.trans S9);exact fin H9 t9 l7 l8 _ _ (C.take A.length) (C.drop A.length) (E6.trans S79.exc) (K6.trans S79.keep) (P6.same S79) e9 (S9 _ _ (S8 _ _ e7)) (S9 _ _ e8) (Pen.ne n7 P6) (Pen.ne n8 (P6.same S7)) (IsAll.same S79 _ _ (zaX t6 _)) (IsAll.same S79 _ _ (zaW t6 _)) ⟨λ s hs=>hm s (vk hs),λ s hs=>hm s (vj hs),by rw [wC,wP]; omega⟩
def zez (K : wa) : Sp:=λ vs H Q _=>∃ x0,vs = [x0] /\ ∃ (rs : List Int) (us ts : List (List Int)) (st : TB.SK),zaU rs us ts /\ Is K H x0 (StS st) /\ za8 rs st.1 st.2 /\ ∀ x H',zag H H' -> Q (.str x) H'
theorem zg0 {K : wa} {H : Hp} {Q : VK} {E : XK} {v : V} {rs : List Int} {us ts : List (List Int)} {st : TB.SK} (ok : zaU rs us ts) (h1 : Is K H v (StS st)) (so : za8 rs st.1 st.2) (q : ∀ x H',zag H H' -> Q (.str x) H') : zez K [v] H Q E:=⟨_,rfl,rs,us,ts,st,ok,h1,so,q⟩
theorem zjV : ∀ {zs : List V},(∀ y ∈ zs,∃ x : Str,y = .str x /\ x.length <= 10000) -> ∃ ts : List Str,zs = ts.map V.str /\ ∀ y ∈ ts,y.length <= 10000
 | [],_=>⟨[],rfl,by simp⟩
 | z :: zs,h=>by
   obtain ⟨x,rfl,hx⟩:=h z (wO ..);obtain ⟨ts,rfl,ht⟩:=zjV λ y hy=>h y (wI _ hy)
   refine ⟨x :: ts,rfl,λ y hy=>?_⟩;rcases wm.mp hy with rfl | hy
   . exact hx
   . exact ht y hy
theorem zlT {zs : List V} (h : ∀ (j : Nat) (y : V),zs[j]? = some y -> ∃ x : Str,y = .str x /\ x.length <= 10000) : ∃ ts : List Str,zs = ts.map V.str /\ ∀ y ∈ ts,y.length <= 10000:=zjV λ y hy=>by
 obtain ⟨j,hj⟩:=vM.mp hy;exact h j y hj
set_option maxHeartbeats 4000000 in
theorem zhj (T : Txt K mg a) : zbB P w K mg base CX0 1 a.law_written a.fd_law_written ["_law_stand"] (zez K):=by
 refine T.F_law_written.ok zhq (λ vs H Q E h=>by obtain ⟨_,rfl,_⟩:=h; rfl) (λ cdv A outer s H vs Q E hr h=>?_);obtain ⟨x0,rfl,h⟩:=h;have hu:=hr.units;have hgd:=hr.gd;refine ⟨_,(zaf (zas (ze3 PySem.F.plainAttrs_str PySem.F.slot_str_join PySem.F.type_str_join (show MtM _ "str.join" (zoT K) from zqr) ziT (zaa (zaw zaC (zaV rfl (zaO.by (N':=["_law_phase_here"]) (src:=[none]) rfl (show zaK _ (zae zbl).names ["_law_stand"] ["_law_phase_here"] [none] = true from by decide +kernel)) (zdJ (zaj zah (pv 0) zad (λ _ _=>rfl))) (λ _ _ _ _ _=>(zan (i:=0) (show (["_law_phase_here"] : List Str).Nodup from by decide) rfl (Or.inl rfl))) (λ _ _ _ _ _=>za7) (λ _ _ _ _ _=>(zak (show zal _ (.type "str") (zg5 K) from zhF hgd hu) rfl T.z_str znK (zaa (pv 0) zab)))) (zaV rfl (zaO.by (N':=["_law_row"]) (src:=[none]) rfl (show zaK _ (zae zbl).names ["_law_stand"] ["_law_row"] [none] = true from by decide +kernel)) (zdJ (zaj zah (pv 0) zad (λ _ _=>rfl))) (λ _ _ _ _ _=>(zan (i:=0) (show (["_law_row"] : List Str).Nodup from by decide) rfl (Or.inl rfl))) (λ _ _ _ _ _=>za7) (λ _ _ _ _ _=>(zak (show zal _ (.type "str") (zg5 K) from zhF hgd hu) rfl T.z_str znK (zaa (pv 0) zab))))) zab)))),?_⟩;clear hu
 try clear hgd
 try dsimp only [zbz,zbb]
 rw [show start ["_law_stand"] [x0] = [some x0] from rfl];obtain ⟨rs,us,ts,st,ok,hst,so,q⟩:=h;have n8:=ok.n8;have hst' : Is K H x0 (.tuple [TZ st.1,.tuple (st.2.map TZ)]):=hst;wtm_at "gg";refine zsb ?_;wtm_at "gg";refine zdj (j:=0) hst' rfl (λ v1 i1=>?_);obtain ⟨a1,rfl,s1⟩:=zct.mp i1;refine zeM s1 (o0:=none) (tl:=[]) rfl (λ j y H'=>∃ x : Str,y = .str x /\ x.length <= 10000) ?_ ?_
 . intro D i x ys o H3 hx inv
   obtain ⟨hi,rfl⟩:=zfR hx;have h1:=so.p i (by rw [<- so.pl]; exact hi);have h2:=zfE (P:=λ x=>x <= 60) (d:=0) (λ r h=>(ok.r r h).2) (by decide) (l:=rs) i;have hz : i < 8:=by have:=so.pl; omega
   wtm_at "gg";refine zpt (by omega) (λ x hx=>?_);exact zbG inv (by omega) (λ _ _ _ _ _ h=>h) ⟨_,rfl⟩ (λ _ _ h=>h) ⟨x,rfl,hx⟩
 intro D3 ys3 H3 n3 S3 e3 hl3 r3;obtain ⟨t3,rfl,b3⟩:=zlT r3;wtm_at "gg";refine zdj (j:=1) (hst'.by S3) rfl (λ v4 i4=>?_);obtain ⟨a4,w4,rfl,s4,t4⟩:=zaI.mp i4;refine zeM s4 (o0:=none) (tl:=[]) rfl (λ j y H'=>∃ x : Str,y = .str x /\ x.length <= 10000) ?_ ?_
 . intro D i x ys o H5 hx inv
   obtain ⟨hi,ix⟩:=zd0 t4 hx;rw [wd] at hi;have hi4 : i < 4:=by rw [<- so.cl]; exact hi
   obtain ⟨h1,h2⟩:=so.c i hi4
   have ix : Is K H3 x (TZ (st.2.getD i [])):=by
     rw [wc,wE,we hi] at ix;rw [wc,we hi];exact ix
   wtm_at "gg";refine zqx (ix.by inv.same) rfl (zpl (k:=8) (λ n hn=>?_) (by rw [h1]; exact n8)) (by decide) (by decide) (λ x hx=>?_)
   . obtain ⟨j,hj,rfl⟩:=zem 0 hn
     have:=h2 j (by rw [<- h1]; exact hj);omega
   exact zbG inv (by omega) (λ _ _ _ _ _ h=>h) ⟨_,rfl⟩ (λ _ _ h=>h) ⟨x,rfl,hx⟩
 intro D6 ys6 H6 n6 S6 e6 hl6 r6;obtain ⟨t6,rfl,b6⟩:=zlT r6
 have l3 : t3.length <= 8:=by
   have:=so.pl;rw [wd] at hl3;rw [hl3,wd];omega
 have l6 : t6.length <= 4:=by
   rw [wd] at hl6;rw [hl6,t4.length,wd,so.cl];exact wg _
 refine zby (S6 _ _ e3) e6 (zcF (by rw [wd,wd]; omega)) (λ l7 H7 n7 S7 e7=>?_);rw [<- wB] at e7;wtm_at "gg";refine zpH (B:=10000) (.of e7) (λ y hy=>?_) ?_ (λ t=>?_)
 . rcases wJ.mp hy with h | h
   . exact b3 y h
   . exact b6 y h
 . rw [wf,show (Ww "").length = 0 from rfl]
   omega
 wtm_at "gg";exact q t H7 (S3.trans (S6.trans S7))
def zft (K : wa) : Sp:=λ vs H Q _=>∃ x0 x1,vs = [x0,x1] /\ ∃ (p l m : Addr) (k : Int) (rs : List Int) (us ts : List (List Int)) (xs ys : List V) (A B : List TB.SK),x0 = .ref l /\ x1 = .ref m /\ zaU rs us ts /\ Pen H p k /\ H l = some (.lst xs) /\ H m = some (.lst ys) /\ l ≠ p /\ m ≠ p /\ IsAll K H xs (A.map StS) /\ IsAll K H ys (B.map StS) /\ (∀ s ∈ A,za8 rs s.1 s.2) /\ (∀ s ∈ B,za8 rs s.1 s.2) /\ A.length + B.length <= 300 /\
 ∀ v H' A' B',zag H H' -> zfB K H' p v A' B' -> zhy A B A' B' -> Q v H'
theorem zjc {K : wa} {H : Hp} {Q : VK} {E : XK} {p l m : Addr} {k : Int} {rs : List Int} {us ts : List (List Int)} {xs ys : List V} {A B : List TB.SK} (ok : zaU rs us ts) (hp : Pen H p k) (el : H l = some (.lst xs)) (em : H m = some (.lst ys)) (nl : l ≠ p) (nm : m ≠ p) (tx : IsAll K H xs (A.map StS)) (ty : IsAll K H ys (B.map StS)) (okA : ∀ s ∈ A,za8 rs s.1 s.2) (okB : ∀ s ∈ B,za8 rs s.1 s.2) (hz : A.length + B.length <= 300)
   (q : ∀ v H' A' B',zag H H' -> zfB K H' p v A' B' -> zhy A B A' B' -> Q v H') : zft K [.ref l,.ref m] H Q E:=⟨_,_,rfl,p,l,m,k,rs,us,ts,xs,ys,A,B,rfl,rfl,ok,hp,el,em,nl,nm,tx,ty,okA,okB,hz,q⟩
set_option maxHeartbeats 4000000 in
theorem ziK (T : Txt K mg a) : zbB P w K mg base CX0 2 a.law_twins a.fd_law_twins ["_law_lead","_law_again"] (zft K):=by
 refine T.F_law_twins.ok zb2 (λ vs H Q E h=>by obtain ⟨_,_,rfl,_⟩:=h; rfl) (λ cdv A outer s H vs Q E hr h=>?_);obtain ⟨x0,x1,rfl,h⟩:=h;have hu:=hr.units
 refine ⟨_,(zac (zam (i:=2) zb2.nd rfl (Or.inl rfl) (zaw zaC (pv 0) (pv 1)))
     (zac (zam (i:=3) zb2.nd rfl (Or.inl rfl) zpm)
     (zac (zcv wY rfl (zoJ rfl T.z_enumerate (zaa (zak (show zal _ (.type "list") (zcN K) from zcj) rfl T.z_list zc9 (zaa (pv 2) zab)) zab)) (zcZ (n:=2) rfl (zaJ (zan (i:=4) zb2.nd rfl (Or.inl rfl)) (zaJ (zan (i:=5) zb2.nd rfl (Or.inl rfl)) zcf))) (zac (zam (i:=6) zb2.nd rfl (Or.inl rfl) (zai (zhj T) (hr.mono (by decide)) rfl T.g_law_written T.F_law_written.kp T.b_law_written .nil zaq (zaa (pv 5) zab)))
     (zac (zbm (PW.pt (zeF (zpg (zr8 (vY (Wa (by decide) _) hu) (pv 6) (pv 3)) (by with_unfolding_all rfl)) (zd5 (zau (show OpR _ (compareOp .NotEq) (zek K) from zdK hu) (zaj zah (pv 2) (zje (vY (Wa (by decide) _) hu) (pv 3) (pv 6) (λ _ _=>rfl)) (λ _ _=>rfl)) (pv 5) (zaH _))))) (zac (zeD (zaD (zaa (zaj zah (pv 2) (pv 4) (λ _ _=>rfl)) (zaa (zaj zah (pv 2) (zje (vY (Wa (by decide) _) hu) (pv 3) (pv 6) (λ _ _=>rfl)) (λ _ _=>rfl)) zab))) (zcZ (n:=2) rfl (zaJ (zd9 (pv 2) (zje (vY (Wa (by decide) _) hu) (pv 3) (pv 6) (λ _ _=>rfl)) zcs) (zaJ (zd9 (pv 2) (pv 4) zcs) zcf))))
     (zaf (zas (zaD (zaa (zaT zbq (pv 2) za5 (za4 (zao (show zal _ (.builtin "len") (zb7 K) from zax) rfl T.z_len za2 (zaa (pv 0) zab)))) (zaa (zaT zbq (pv 2) (za4 (zao (show zal _ (.builtin "len") (zb7 K) from zax) rfl T.z_len za2 (zaa (pv 0) zab))) za5) zab)))))) zaL)
     (zaf (zpW (vY (Wa (by decide) _) hu) (pv 3) (pv 6) (pv 4) rfl)))))
     (zaf (zas (zaD (zaa (pv 0) (zaa (pv 1) zab)))))))),?_⟩
 clear hu
 try clear hgd
 try dsimp only [zbz,zbb]
 rw [show start ["_law_lead","_law_again","_law_row","_law_seen","_law_at","_law_stand","_law_text"] [x0,x1] = [some x0,some x1,none,none,none,none,none] from rfl];obtain ⟨p,l,m,k,rs,us,ts,xs,ys,A,B,rfl,rfl,ok,hp,el,em,nl,nm,tx,ty,okA,okB,hz,q⟩:=h;have hxl : xs.length = A.length:=by rw [tx.length,wd]
 have hyl : ys.length = B.length:=by rw [ty.length,wd]
 wtm_at "gg";refine zby el em (zcF (by omega)) (λ l1 H1 n1 S1 e1=>?_);have n1p : l1 ≠ p:=Pen.ne n1 hp;have hcl : (xs ++ ys).length = xs.length + ys.length:=wf;have tC1 : IsAll K H1 (xs ++ ys) ((A ++ B).map StS):=IsAll.same S1 _ _ (zbu tx ty)
 have okC : ∀ s ∈ A ++ B,za8 rs s.1 s.2:=λ s hs=>by
   rcases wJ.mp hs with h | h
   . exact okA s h
   . exact okB s h
 have hCl : (A ++ B).length = A.length + B.length:=wf;generalize hcv : xs ++ ys = cv at *;wtm_at "gg";refine zmc (λ d2 H2 n2 S2 e2=>?_);wtm_at "gg";refine zdT (zaF.mpr ⟨l1,cv,rfl,.of (S2 _ _ e1),IsAll.same S2 _ _ tC1⟩) (λ l3 H3 zs n3 S3 e3 t3=>?_);have n21 : d2 ≠ l1:=λ e=>by rw [e,e1] at n2; cases n2
 have n02 : H d2 = none:=by
   cases z : H d2 with
   | none=>rfl
   | some o=>rw [S1 _ _ z] at n2; cases n2
 have n32 : l3 ≠ d2:=λ e=>by rw [e,e2] at n3; cases n3
 have hzl : zs.length = (A ++ B).length:=by rw [t3.length,wd]
 have S03 : zag H H3:=S1.trans (S2.trans S3);refine zkX (SqL.of e3) (λ i σ H'=>∃ o4 o5 o6 kvs,σ = [some (.ref l),some (.ref m),some (.ref l1),some (.ref d2),o4,o5,o6] /\ zag H H' /\ zaM H3 H' /\ H' l1 = some (.lst cv) /\ H' l3 = some (.lst zs) /\ H' d2 = some (.dK kvs) /\ kvs.length <= i /\ ∀ kv ∈ kvs,∃ j : Nat,j < cv.length /\ kv.2 = .int (j : Int)) ⟨_,_,_,[],rfl,S03,zaM.refl _,S3 _ _ (S2 _ _ e1),e3,S3 _ _ e2,wg _,by simp⟩ (λ i σ H' _ ⟨_,_,_,_,_,_,_,_,e,_⟩=>.of e) ?_ ?_
 . rintro i x σ H4 c H5 hx ⟨o4,o5,o6,kvs,rfl,S4,K4,ec4,ez4,ed4,hkl,hkv⟩ nc S5 ec
   obtain ⟨hi,ix⟩:=zbH t3 hx;have K35:=K4.trans S5.keep;have ix5:=ix.byK K35 (zc5 _ _);have S05:=S4.trans S5;have ec5:=S5 _ _ ec4;have ez5:=S5 _ _ ez4;have ed5:=S5 _ _ ed4;have hcvl : cv.length = (A ++ B).length:=by rw [tC1.length,wd]
   have tC5 : IsAll K H5 cv ((A ++ B).map StS):=IsAll.keep (S2.keep.trans (S3.keep.trans K35)) _ _ (zbo _) tC1;refine zcw (.of ec) rfl ?_;clear S4 S5 ec4 ez4 ed4 K4 nc ec;wtm_at "gg";refine zg0 ok ix5 (okC _ (zaY hi)) (λ x6 H6 S6=>?_);have ed6:=S6 _ _ ed5;have ec6:=S6 _ _ ec5;have ez6:=S6 _ _ ez5;have S06:=S05.trans S6;have K36:=K35.trans S6.keep;have tC6 : IsAll K H6 cv ((A ++ B).map StS):=IsAll.same S6 _ _ tC5;wtm_at "gg";refine zqA ed6 ?_;have go : ∀ {R : Prop},(∀ H7,Exc d2 H6 H7 -> H7 d2 = some (.dK (zdX kvs (.inr x6) (.int (i : Int)))) -> R) -> R:=λ h=>h _ (Exc.upd d2 H6 _) zar
   have nxt : ∀ H7,Exc d2 H6 H7 -> H7 d2 = some (.dK (zdX kvs (.inr x6) (.int (i : Int)))) -> zag H H7 /\ zaM H3 H7 /\ H7 l1 = some (.lst cv) /\ H7 l3 = some (.lst zs) /\ (zdX kvs (.inr x6) (.int (i : Int))).length <= i + 1 /\ ∀ kv ∈ zdX kvs (.inr x6) (.int (i : Int)),∃ j : Nat,j < cv.length /\ kv.2 = .int (j : Int):=λ H7 E7 e7=>by
     have K7:=E7.keepD ed6;refine ⟨λ b o hb=>E7 b o (λ e=>by rw [e,n02] at hb; cases hb) (S06 b o hb),K36.trans K7,E7.at (vH n21) ec6,E7.at n32 ez6,wV (zoU _ _) (by omega),?_⟩;exact zpb (P:=λ v=>∃ j : Nat,j < cv.length /\ v = .int (j : Int)) hkv ⟨i,by omega,rfl⟩
   clear go;cases hv : zeT kvs (.inr x6) with
   | none =>
     rw [show (none : Option V).isSome = false from rfl];wtm_at "gg";refine zjZ ed6 (by omega) (λ H7 E7 e7=>?_);obtain ⟨h1,h2,h3,h4,h5,h6⟩:=nxt H7 E7 e7;exact ⟨_,_,_,_,rfl,h1,h2,h3,h4,e7,h5,h6⟩
   | some w =>
     obtain ⟨j,hj,rfl⟩:=znl (P:=λ v=>∃ j : Nat,j < cv.length /\ v = .int (j : Int)) hkv hv;obtain ⟨xj,hxj⟩ : ∃ x,cv[j]? = some x:=⟨cv[j],we hj⟩;obtain ⟨hj',ij⟩:=zbH tC6 hxj;rw [show (some (V.int (j : Int))).isSome = true from rfl];wtm_at "gg";refine zhG ed6 hv ?_;refine zcb (m:=(j : Int)) (.of ec6) (zbP (j:=j) hxj) ?_;wtm_at "gg";refine zgI ij (ix5.by S6) (zcU ok (okC _ (zaY hj'))) (zcU ok (okC _ (zaY hi))) (by decide) (by decide) ?_
     by_cases hne : (A ++ B).getD j ([],[]) = (A ++ B).getD i ([],[])
     . rw [decide_eq_true hne,show (!true) = false from rfl]
       wtm_at "gg";refine zjZ ed6 (by omega) (λ H7 E7 e7=>?_);obtain ⟨h1,h2,h3,h4,h5,h6⟩:=nxt H7 E7 e7;exact ⟨_,_,_,_,rfl,h1,h2,h3,h4,e7,h5,h6⟩
     . rw [decide_eq_false hne,show (!false) = true from rfl]
       clear nxt;obtain ⟨xi,hxi⟩ : ∃ x,cv[i]? = some x:=⟨cv[i]'(by omega),we (by omega)⟩;obtain ⟨_,ii⟩:=zbH tC6 hxi;wtm_at "gg";refine zcb (m:=(i : Int)) (.of ec6) (zbP (j:=i) hxi) ?_;wtm_at "gg";refine zhG ed6 hv ?_;refine zcb (m:=(j : Int)) (.of ec6) (zbP (j:=j) hxj) ?_;wtm_at "gg";refine zbC (by simp) (λ t7 H7 n7 S7 e7=>?_);wtm_at "gg";refine zcw (.of e7) rfl ?_;wtm_at "gg";refine zhG (S7 _ _ ed6) hv ?_;refine zds (S7 _ _ ec6) (j:=j) (zfq hj) (λ H8 E8 e8=>?_);wtm_at "gg";refine zds e8 (j:=i) (by rw [vD]; exact zfq (by omega)) (λ H9 E9 e9=>?_);have K79:=(E8.keep (S7 _ _ ec6)).trans (E9.keep e8)
       have S09 : zag H H9:=λ b o hb=>by
         have hbl : b ≠ l1:=λ e=>by rw [e,n1] at hb; cases hb
         exact E9 b o hbl (E8 b o hbl (S7 b o (S06 b o hb)))
       have K69:=S7.keep.trans K79;have t9 : IsAll K H9 _ _:=zeN (i:=i) (zeN (i:=j) (IsAll.keep K69 _ _ (zbo _) tC6) (ii.byK K69 (zc5 _ _))) (ij.byK K69 (zc5 _ _))
       have hm : ∀ t ∈ (((A ++ B).set j ((A ++ B).getD i ([],[]))).set i ((A ++ B).getD j ([],[]))),t ∈ A ++ B:=λ t ht=>by
         rcases zfG ht with h | rfl
         . rcases zfG h with h | rfl
           . exact h
           . exact zaY hi
         . exact zaY hj'
       have hcz : (((A ++ B).set j ((A ++ B).getD i ([],[]))).set i ((A ++ B).getD j ([],[]))).length <= 300:=by rw [vD,vD]; omega
       have hcv : xs.length <= ((cv.set j xi).set i xj).length:=by rw [vD,vD]; omega
       generalize ((A ++ B).set j ((A ++ B).getD i ([],[]))).set i ((A ++ B).getD j ([],[])) = C at *;generalize (cv.set j xi).set i xj = cw at *;wtm_at "gg";refine zaS (.of (S09 _ _ el)) ?_;wtm_at "gg";refine zbd (.of e9) (λ l10 H10 n10 S10 e10=>?_);rw [zce] at e10;wtm_at "gg";refine zaS (.of (S10 _ _ (S09 _ _ el))) ?_;wtm_at "gg";refine zbd (.of (S10 _ _ e9)) (λ l11 H11 n11 S11 e11=>?_);rw [zbs _ _ (by omega)] at e11;wtm_at "gg";refine zbC (by simp) (λ t12 H12 n12 S12 e12=>?_);have S912:=S10.trans (S11.trans S12);have P9:=hp.same S09;exact q _ H12 (C.take xs.length) (C.drop xs.length) (S09.trans S912) ⟨t12,l10,l11,_,_,rfl,.of e12,S12 _ _ (S11 _ _ e10),S12 _ _ e11,Pen.ne n10 P9,Pen.ne n11 (P9.same S10),IsAll.same S912 _ _ (zaX t9 _),IsAll.same S912 _ _ (zaW t9 _)⟩ ⟨λ s hs=>hm s (vk hs),λ s hs=>hm s (vj hs),by rw [wC,wP]; omega⟩
 . rintro σ H4 ⟨o4,o5,o6,kvs,rfl,S4,K4,_,_,_,_,_⟩
   wtm_at "gg";refine zbC (by simp) (λ t5 H5 n5 S5 e5=>?_);have S05:=S4.trans S5;exact q _ H5 A B S05 ⟨t5,l,m,xs,ys,rfl,.of e5,S05 _ _ el,S05 _ _ em,nl,nm,IsAll.same S05 _ _ tx,IsAll.same S05 _ _ ty⟩ ⟨λ s hs=>vF _ hs,λ s hs=>wM _ hs,by omega⟩
theorem zon {K : wa} {H : Hp} {Q : VK} {v w : V} {ds : List PyData} {n : Nat} (h : Is K H v (.list ds)) (k : Is K H w (.list [])) (s : Sh n (.list ds)) (e : n <= 64) (q : Q (.bl ds.isEmpty) H) : zcV K v w H Q :=
 zlf h k (s.shaped e) ((zk7 (n:=1) (ds:=[]) (by simp)).shaped (by decide)) (by rw [zod]; exact q)
def zhw (K : wa) : Sp:=λ vs H Q _=>∃ x0 x1 x2,vs = [x0,x1,x2] /\ ∃ (rs : List Int) (us ts : List (List Int)) (st : TB.SK) (A B : List TB.SK),Is K H x0 (zbF rs us ts) /\ zaU rs us ts /\ Is K H x1 (StS st) /\ za8 rs st.1 st.2 /\ zfC K H x2 A B /\ (∀ s ∈ A,za8 rs s.1 s.2) /\ (∀ s ∈ B,za8 rs s.1 s.2) /\ A.length + B.length <= 700 /\ ∀ H',zag H H' -> Q (.bl (zeH rs us ts st A B)) H'
theorem zhx {K : wa} {H : Hp} {Q : VK} {E : XK} {v w z : V} {rs : List Int} {us ts : List (List Int)} {st : TB.SK} {A B : List TB.SK} (h : Is K H v (zbF rs us ts)) (ok : zaU rs us ts) (h1 : Is K H w (StS st)) (so : za8 rs st.1 st.2) (h2 : zfC K H z A B) (sa : ∀ s ∈ A,za8 rs s.1 s.2) (sb : ∀ s ∈ B,za8 rs s.1 s.2) (hl : A.length + B.length <= 700)
   (q : ∀ H',zag H H' -> Q (.bl (zeH rs us ts st A B)) H') : zhw K [v,w,z] H Q E:=⟨_,_,_,rfl,rs,us,ts,st,A,B,h,ok,h1,so,h2,sa,sb,hl,q⟩
set_option maxHeartbeats 4000000 in
theorem zhC (T : Txt K mg a) : zbB P w K mg base CX0 3 a.law_due a.fd_law_due ["_law_web_here","_law_stand","_law_told"] (zhw K):=by
 refine T.F_law_due.ok zgU (λ vs H Q E h=>by obtain ⟨_,_,_,rfl,_⟩:=h; rfl) (λ cdv A outer s H vs Q E hr h=>?_);obtain ⟨x0,x1,x2,rfl,h⟩:=h;have hu:=hr.units
 refine ⟨_,(zac (zam (i:=3) zgU.nd rfl (Or.inl rfl) (zaw zaC (zaj zah (pv 2) zad (λ _ _=>rfl)) (zaj zah (pv 2) zad (λ _ _=>rfl))))
     (zac (zbm (PW.pt (zhO (zau (show OpR _ (compareOp .Eq) (zcV K) from zbI hu) (zaj zah (pv 2) zad (λ _ _=>rfl)) (zaP zab) (zaH _)) (zgS (zau (show OpR _ (compareOp .NotEq) (zek K) from zdK hu) (zaj zah (pv 3) zad (λ _ _=>rfl)) (pv 1) (zaH _))))) (zaf (zas zdq)) zaL)
     (zaf (zas (zao (show zal _ (.builtin "all") (zh6 K) from zeP rfl) rfl T.z_all ziP (zaa (zaV rfl (zaO.by (N':=["_law_one","_law_other","_law_web_here"]) (src:=[none,none,some 0]) rfl (show zaK _ (zae zcK).names ["_law_web_here","_law_stand","_law_told","_law_row"] ["_law_one","_law_other","_law_web_here"] [none,none,some 0] = true from by decide +kernel)) (zlx rfl T.z_zip (zaa (pv 3) (zaa (zaw zaC (zaT zbq (pv 3) (za4 zad) za5) (zaT zbq (zaj zah (pv 2) zad (λ _ _=>rfl)) za5 (za4 zad))) zab))) (λ _ _ _ _ _=>by exact (show PG _ _ (zmp K 2 _) from zcZ (n:=2) rfl (zaJ (zan (i:=0) (show (["_law_one","_law_other","_law_web_here"] : List Str).Nodup from by decide) rfl (Or.inl rfl)) (zaJ (zan (i:=1) (show (["_law_one","_law_other","_law_web_here"] : List Str).Nodup from by decide) rfl (Or.inl rfl)) zcf)))) (λ _ _ _ _ _=>za7) (λ _ _ _ _ _=>(zdv (show OpR _ (compareOp .Eq) (zcV K) from zbI hu) (zaj (show IxR _ (rIx K) from zah) (zai (zgl (K:=K) (mg:=mg) (a:=a) T) (hr.mono (by decide)) rfl T.g_law_tick T.F_law_tick.kp T.b_law_tick .nil zaq (zaa (pv 2) (zaa (pv 0) zab))) zad (λ _ _=>rfl)) (pv 1) (zaH _)))) zab)))))),?_⟩
 clear hu
 try clear hgd
 try dsimp only [zbz,zbb]
 rw [show start ["_law_web_here","_law_stand","_law_told","_law_row"] [x0,x1,x2] = [some x0,some x1,some x2,none] from rfl];obtain ⟨rs,us,ts,st,A,B,hw,ok,hst,sst,two,okA,okB,hz,q⟩:=h;obtain ⟨t,l,m,xs,ys,rfl,stt,el,em,tx,ty⟩:=two;have hxl : xs.length = A.length:=by rw [tx.length,wd]
 have hyl : ys.length = B.length:=by rw [ty.length,wd]
 wtm_at "gg";refine zdI (m:=0) stt rfl ?_;wtm_at "gg";refine zdI (m:=1) stt rfl ?_;refine zby el em (zcF (by omega)) (λ l1 H1 n1 S1 e1=>?_);wtm_at "gg";refine zdI (m:=1) (S1.sqT stt) rfl ?_;wtm_at "gg";refine zcX (by simp) (λ l2 H2 n2 S2 e2=>?_);have S02:=S1.trans S2
 refine zon (n:=5) (zaF.mpr ⟨m,ys,rfl,.of (S02 _ _ em),IsAll.same S02 _ _ ty⟩) (zaF.mpr ⟨l2,[],rfl,.of e2,.nil⟩) (zk7 λ d hd=>by
   obtain ⟨s,hs,rfl⟩:=wT.mp hd;exact zcU ok (okB s hs)) (by decide) ?_
 by_cases hB : B = []
 . subst hB
   rw [show (([] : List TB.SK).map StS).isEmpty = true from rfl];wtm_at "gg";exact q H2 S02
 rw [show (B.map StS).isEmpty = false from by cases B with
   | nil=>exact absurd rfl hB
   | cons a b=>rfl]
 have hB1:=WX.mpr hB;have hCl : (A ++ B).length = A.length + B.length:=wf;have hvl : (xs ++ ys).length = xs.length + ys.length:=wf
 have okC : ∀ s ∈ A ++ B,za8 rs s.1 s.2:=λ s hs=>by
   rcases wJ.mp hs with h | h
   . exact okA s h
   . exact okB s h
 have tC2 : IsAll K H2 (xs ++ ys) ((A ++ B).map StS):=IsAll.same S02 _ _ (zbu tx ty);obtain ⟨x0',hx0⟩ : ∃ x,(xs ++ ys)[0]? = some x:=⟨(xs ++ ys)[0]'(by omega),we (by omega)⟩;obtain ⟨_,ix0⟩:=zbH tC2 hx0;wtm_at "gg";refine zcb (m:=0) (.of (S2 _ _ e1)) (zbP (j:=0) hx0) ?_;wtm_at "gg";refine zgI ix0 (hst.by S02) (zcU ok (okC _ (zaY (by omega)))) (zcU ok sst) (by decide) (by decide) ?_
 by_cases h0 : (A ++ B).getD 0 ([],[]) = st
 . rw [decide_eq_true h0,show (!true) = false from rfl]
   wtm_at "gg";refine zbd (.of (S2 _ _ e1)) (λ l3 H3 n3 S3 e3=>?_);rw [show (1 : Int) = ((1 : Nat) : Int) from rfl,zbs _ _ (by omega)] at e3;wtm_at "gg";refine zdI (m:=1) ((S02.trans S3).sqT stt) rfl ?_;wtm_at "gg";refine zbd (.of ((S02.trans S3) _ _ em)) (λ l4 H4 n4 S4 e4=>?_);rw [show (1 : Int) = ((1 : Nat) : Int) from rfl,zce] at e4;refine zby (S4 _ _ e3) e4 (zcF (by rw [wP,wC]; omega)) (λ l5 H5 n5 S5 e5=>?_);have S25:=S3.trans (S4.trans S5);have S05:=S02.trans S25;have tC : IsAll K H5 (xs ++ ys) ((A ++ B).map StS):=IsAll.same S25 _ _ tC2;have tF : IsAll K H5 ((xs ++ ys).drop 1 ++ ys.take 1) (((A ++ B).drop 1 ++ B.take 1).map StS):=zbu (zaW tC 1) (IsAll.same S05 _ _ (zaX ty 1));have eC:=S25 _ _ (S2 _ _ e1)
   have okF : ∀ s ∈ (A ++ B).drop 1 ++ B.take 1,za8 rs s.1 s.2:=λ s hs=>by
     rcases wJ.mp hs with h | h
     . exact okC s (vj h)
     . exact okB s (vk h)
   have hCF:=zhN (A:=A) hB;have hw5:=hw.by S05;have hra:=zjB (rs:=rs) (us:=us) (ts:=ts) (A:=A) (st:=st) hB h0;generalize hr : zeH rs us ts st A B = r at q hra;generalize (A ++ B).drop 1 ++ B.take 1 = F at *;generalize A ++ B = C at *;have hfl : ((xs ++ ys).drop 1 ++ ys.take 1).length = F.length:=by rw [tF.length,wd]
   generalize (xs ++ ys).drop 1 ++ ys.take 1 = fv at *;generalize xs ++ ys = cv at *;clear S1 S2 S3 S4 S25 e1 e2 e3 e4 n1 n2 n3 n4 n5 stt el em tx ty tC2 S02 ix0 hx0;wtm_at "gg";refine zlQ (o0:=none) (o0':=none) (tl:=[some x0]) (show SqK false K H5 l1 cv from SqL.of eC) (show SqK false K H5 l5 fv from SqL.of e5) (by omega) rfl (λ j y H'=>y = V.bl (decide (nxK rs us ts (C.getD j ([],[])) = F.getD j ([],[])))) (λ _ _ _ _ _ h=>h) ?_ ?_
   . intro D i x y zs o1 o2 H6 c hx hy inv ec
     have S6:=inv.2.2.1;obtain ⟨hi,ix⟩:=zbH tC hx;obtain ⟨hj,iy⟩:=zbH tF hy;wtm_at "gg";refine zcw (.of ec) rfl ?_;wtm_at "gg";refine zgf (hw5.by S6) ok (ix.by S6) (okC _ (zaY hi)) (λ v7 H7 S7 i7=>?_);wtm_at "gg";refine zkY i7 (λ v8 i8=>?_);wtm_at "gg";refine zqF (s:=nxK rs us ts (C.getD i ([],[]))) i8 (iy.by (S6.trans S7)) (zcU ok (zpp ok (okC _ (zaY hi)))) (zcU ok (okF _ (zaY hj))) (by decide) (by decide) ?_;exact ziz inv (by omega) (λ _ _ _ _ _ h=>h) ⟨_,_,rfl⟩ S7 rfl
   . intro D zs H6 n6 S6 e6 hl6 r6
     have hzs : zs = ((wo C.length).map λ k=>decide (nxK rs us ts (C.getD k ([],[])) = F.getD k ([],[]))).map V.bl:=by
       refine We (by rw [wd,wd,vc]; omega) λ j h1 h2=>?_
       rw [r6 j zs[j] (we h1),vU,vU,W4]
     subst hzs;wtm_at "gg";refine zgJ (.of e6) ?_;wtm_at "gg"
     have hf : r = ((wo C.length).map λ k=>decide (nxK rs us ts (C.getD k ([],[])) = F.getD k ([],[]))).all id:=by
       rw [VU,hra,Wc]
       constructor
       . intro h b hb
         obtain ⟨k,hk,rfl⟩:=wT.mp hb;exact decide_eq_true (h k (wS.mp hk))
       . intro h k hk
         exact of_decide_eq_true (h _ (wT.mpr ⟨k,wS.mpr hk,rfl⟩))
     rw [<- hf];exact q _ (S05.trans S6)
 . rw [decide_eq_false h0,show (!false) = true from rfl]
   wtm_at "gg";rw [zhM h0] at q;exact q _ S02
def zgb (K : wa) : Sp:=λ vs H Q _=>∃ x0 x1,vs = [x0,x1] /\ ∃ b c : Bool,x0 = .bl b /\ x1 = .bl c /\ ∀ H',zag H H' -> Q (.bl (b == c)) H'
theorem zer {K : wa} {H : Hp} {Q : VK} {E : XK} {b c : Bool} (q : ∀ H',zag H H' -> Q (.bl (b == c)) H') : zgb K [.bl b,.bl c] H Q E:=⟨_,_,rfl,b,c,rfl,rfl,q⟩
set_option maxHeartbeats 4000000 in
theorem zeJ (T : Txt K mg a) : zbB P w K mg base CX0 1 a.law_same a.fd_law_same ["_law_found","_law_due_here"] (zgb K):=by
 refine T.F_law_same.ok zj6 (λ vs H Q E h=>by obtain ⟨_,_,rfl,_⟩:=h; rfl) (λ cdv A outer s H vs Q E hr h=>?_);obtain ⟨x0,x1,rfl,h⟩:=h;have hu:=hr.units;refine ⟨_,(zaf (zas (zfh (zao (show zal _ (.builtin "isinstance") (zgu K) from zf6) rfl T.z_isinstance zcP (zaa (pv 0) (zaa (zfv (v:=.ty "bool") rfl T.z_bool zl0 rfl) zab))) (zff (zdv (show OpR _ (compareOp .Eq) (zcV K) from zbI hu) (pv 0) (pv 1) (zaH _)))))),?_⟩;clear hu
 try clear hgd
 try dsimp only [zbz,zbb]
 rw [show start ["_law_found","_law_due_here"] [x0,x1] = [some x0,some x1] from rfl];obtain ⟨b,c,rfl,rfl,q⟩:=h;wtm_at "gg";refine zlf (zc6.mpr rfl) (zc6.mpr rfl) (by cases b <;> decide) (by cases c <;> decide) ?_;rw [zpo];wtm_at "gg";exact q H (zag.refl _)
def zjn (K : wa) : Sp:=λ vs H Q _=>∃ x0,vs = [x0] /\ ∃ (a : Addr) (ns : List Int),x0 = .ref a /\ SqF K H a (ns.map V.int) /\ ns.length <= 63 /\ ∀ H',Q (.bl true) H'
set_option maxHeartbeats 4000000 in
theorem zr0 (T : Txt K mg a) : zbB P w K mg base CX0 7 a.law a.fd_law ["_law_script"] (zjn K):=by
 refine T.F_law.ok zca (λ vs H Q E h=>by obtain ⟨_,rfl,_⟩:=h; rfl) (λ cdv A outer s H vs Q E hr h=>?_);obtain ⟨x0,rfl,h⟩:=h;have hu:=hr.units
 refine ⟨_,(zac (zam (i:=1) zca.nd rfl (Or.inl rfl) (zdv (show OpR _ (compareOp .Eq) (zcV K) from zbI hu) (zai (zat T) (hr.mono (by decide)) rfl T.g_law_draw T.F_law_draw.kp T.b_law_draw .nil zaq (zaa (zai (zdg T) (hr.mono (by decide)) rfl T.g_law_pen T.F_law_pen.kp T.b_law_pen .nil zaq (zaa (pv 0) (zaa zad zab))) (zaa zad zab))) zad (zaH _)))
     (zac (zam (i:=2) zca.nd rfl (Or.inl rfl) (zaj zah (zaP (zaa (zai (zkU T) (hr.mono (by decide)) rfl T.g_law_web T.F_law_web.kp T.b_law_web .nil zaq (zaa (zai (zdg T) (hr.mono (by decide)) rfl T.g_law_pen T.F_law_pen.kp T.b_law_pen .nil zaq (zaa (pv 0) (zaa zad zab))) (zaa zad zab))) (zaa (zai (zj2 T) (hr.mono (by decide)) rfl T.g_law_long T.F_law_long.kp T.b_law_long .nil zaq (zaa (zai (zdg T) (hr.mono (by decide)) rfl T.g_law_pen T.F_law_pen.kp T.b_law_pen .nil zaq (zaa (pv 0) (zaa zad zab))) zab)) zab))) (zak zdb rfl T.z_int zfj (zaa (pv 1) zab)) (λ _ _=>rfl)))
     (zac (zam (i:=3) zca.nd rfl (Or.inl rfl) (zai (zmV T) (hr.mono (by decide)) rfl T.g_web_of T.F_web_of.kp T.b_web_of .nil zsM (zaa (zaj zah (pv 2) zad (λ _ _=>rfl)) (zaa (zaj zah (pv 2) zad (λ _ _=>rfl)) (zaa (zaj zah (pv 2) zad (λ _ _=>rfl)) zab)))))
     (zac (zam (i:=4) zca.nd rfl (Or.inl rfl) (zai (ziS T) (hr.mono (by decide)) rfl T.g_law_begin T.F_law_begin.kp T.b_law_begin .nil zaq (zaa (zai (zdg T) (hr.mono (by decide)) rfl T.g_law_pen T.F_law_pen.kp T.b_law_pen .nil zaq (zaa (pv 0) (zaa zad zab))) (zaa (pv 3) zab))))
     (zac (zeD (zai (zhY T) (hr.mono (by decide)) rfl T.g_law_stands T.F_law_stands.kp T.b_law_stands .nil zaq (zaa (pv 3) (zaa (pv 4) (zaa (zaj zah (zaP (zaa zad (zaa zad zab))) (zak zdb rfl T.z_int zfj (zaa (pv 1) zab)) (λ _ _=>rfl)) zab)))) (zcZ (n:=2) rfl (zaJ (zan (i:=5) zca.nd rfl (Or.inl rfl)) (zaJ (zan (i:=6) zca.nd rfl (Or.inl rfl)) zcf))))
     (zac (zbm (zau zte (pv 6) zkG (zaH _)) (zaf (zam (i:=6) zca.nd rfl (Or.inl rfl) zad)) zaL)
     (zac (zsk (i:=7) (j:=8) rfl zca.nd rfl rfl (by decide) rfl rfl (zaa (zaT zbq (pv 5) za5 (za4 (pv 6))) (zaa (zaT zbq (pv 5) (za4 (pv 6)) za5) zab)) rfl)
     (zac (zbm (zcW (zcY (zai (zeJ T) (hr.mono (by decide)) rfl T.g_law_same T.F_law_same.kp T.b_law_same .nil zaq (zaa (zai (ze5 T) (hr.mono (by decide)) rfl T.g_is_ring T.F_is_ring.kp T.b_is_ring .nil zaq (zaa (pv 3) (zaa (pv 4) (zaa (zaD (zaa (zak (show zal _ (.type "list") (zcN K) from zcj) rfl T.z_list zc9 (zaa (pv 7) zab)) (zaa (zak (show zal _ (.type "list") (zcN K) from zcj) rfl T.z_list zc9 (zaa (pv 8) zab)) zab))) zab)))) (zaa (zai (zhC T) (hr.mono (by decide)) rfl T.g_law_due T.F_law_due.kp T.b_law_due .nil zaq (zaa (pv 3) (zaa (pv 4) (zaa (zaD (zaa (pv 7) (zaa (pv 8) zab))) zab)))) zab))))) (zaf (zas zdq)) zaL)
     (zac (zbm (zcW (zcY (zai (zeJ T) (hr.mono (by decide)) rfl T.g_law_same T.F_law_same.kp T.b_law_same .nil zaq (zaa (zai (ze5 T) (hr.mono (by decide)) rfl T.g_is_ring T.F_is_ring.kp T.b_is_ring .nil zaq (zaa (pv 3) (zaa (pv 4) (zaa (zaD (zaa (zaP zab) (zaa (zaP zab) zab))) zab)))) (zaa zdq zab))))) (zaf (zas zdq)) zaL)
     (zac (zcv wY rfl (zbv rfl T.z_range (zaa zad zab)) (zan (i:=9) zca.nd rfl (Or.inl rfl)) (zac (zam (i:=10) zca.nd rfl (Or.inl rfl) (zai (zdg T) (hr.mono (by decide)) rfl T.g_law_pen T.F_law_pen.kp T.b_law_pen .nil zaq (zaa (pv 0) (zaa (zaw zaC zad (pv 9)) zab))))
     (zac (zam (i:=11) zca.nd rfl (Or.inl rfl) (zai (zko T) (hr.mono (by decide)) rfl T.g_law_bent T.F_law_bent.kp T.b_law_bent .nil zaq (zaa (pv 10) (zaa (pv 7) (zaa (pv 8) zab)))))
     (zac (zbm (zau (show OpR _ (compareOp .Eq) (zcV K) from zbI hu) (pv 9) zad (zaH _)) (zaf (zam (i:=11) zca.nd rfl (Or.inl rfl) (zai (ziK T) (hr.mono (by decide)) rfl T.g_law_twins T.F_law_twins.kp T.b_law_twins .nil zaq (zaa (pv 7) (zaa (pv 8) zab))))) zaL)
     (zac (zam (i:=12) zca.nd rfl (Or.inl rfl) (zaj zah (zaP (zaa (pv 4) (zaa (pv 4) (zaa (pv 4) (zaa (zaj zah (pv 5) (zai (zat T) (hr.mono (by decide)) rfl T.g_law_draw T.F_law_draw.kp T.b_law_draw .nil zaq (zaa (pv 10) (zaa (zao (show zal _ (.builtin "len") (zb7 K) from zax) rfl T.z_len za2 (zaa (pv 5) zab)) zab))) (λ _ _=>rfl)) zab))))) (zai (zat T) (hr.mono (by decide)) rfl T.g_law_draw T.F_law_draw.kp T.b_law_draw .nil zaq (zaa (pv 10) (zaa zad zab))) (λ _ _=>rfl)))
     (zac (zam (i:=13) zca.nd rfl (Or.inl rfl) (zaD (zaa (zak (show zal _ (.type "list") (zcN K) from zcj) rfl T.z_list zc9 (zaa (zaj zah (pv 11) zad (λ _ _=>rfl)) zab)) (zaa (zak (show zal _ (.type "list") (zcN K) from zcj) rfl T.z_list zc9 (zaa (zaj zah (pv 11) zad (λ _ _=>rfl)) zab)) zab))))
     (zac (zam (i:=14) zca.nd rfl (Or.inl rfl) (zai (ze5 T) (hr.mono (by decide)) rfl T.g_is_ring T.F_is_ring.kp T.b_is_ring .nil zaq (zaa (pv 3) (zaa (pv 12) (zaa (pv 13) zab)))))
     (zaf (zbm (PW.pt (zhO (zcW (zcY (zai (zeJ T) (hr.mono (by decide)) rfl T.g_law_same T.F_law_same.kp T.b_law_same .nil zaq (zaa (pv 14) (zaa (zai (zhC T) (hr.mono (by decide)) rfl T.g_law_due T.F_law_due.kp T.b_law_due .nil zaq (zaa (pv 3) (zaa (pv 12) (zaa (pv 11) zab)))) zab))))) (zgS (zau (show OpR _ (compareOp .NotEq) (zek K) from zdK hu) (pv 13) (pv 11) (zaH _))))) (zaf (zas zdq)) zaL)))))))))
     (zaf (zas zdq)))))))))))),?_⟩
 clear hu
 try clear hgd
 try dsimp only [zbz,zbb]
 rw [show start ["_law_script","_law_is_long","_law_drawn","_law_web_here","_law_stand","_law_stands_here","_law_at","_law_lead","_law_again","_law_k","_law_pen_here","_law_told","_law_asked","_law_handed","_law_found"] [x0] = [some x0,none,none,none,none,none,none,none,none,none,none,none,none,none,none] from rfl];obtain ⟨a',ns0,rfl,hs,hl,q⟩:=h;wtm_at "gg";refine zdk hs hl (by decide) (by decide) (λ p H1 hp1 S1 p1=>?_);wtm_at "gg";rename_i r0 H1' r00 r01 E1 K1 P1;have K01 : zaM H H1':=S1.keep.trans K1;clear S1 p1 hp1 E1 K1 P1 r00 r01;generalize decide (r0 = 1) = g at *;refine zdk (K01.sqF hs) hl (by decide) (by decide) (λ p2 H2 hp2 S2 p2'=>?_);wtm_at "gg";refine zkJ p2' (by decide) (by decide) (λ vd H3 rs3 us3 ts3 E3 K3 P3 id3 ok3=>?_);have K03 : zaM H H3:=K01.trans (S2.keep.trans K3);wtm_at "gg";refine zdk (K03.sqF hs) hl (by decide) (by decide) (λ p4 H4 hp4 S4 p4'=>?_);wtm_at "gg";refine zjw p4' (λ ve H5 rs5 us5 ts5 E5 K5 P5 id5 ok5=>?_);have K35:=S4.keep.trans K5;have K05 : zaM H H5:=K03.trans K35;have id3:=id3.thruW K35;wtm_at "gg";refine zcX (by simp) (λ l6 H6 n6 S6 e6=>?_);wtm_at "gg";refine zd3 (λ x=>∃ rs us ts,Is K H6 x (zbF rs us ts) /\ zaU rs us ts) (.of e6) (by cases g <;> decide) (by cases g <;> simp) (λ x hx=>?_) (λ vx ⟨rs,us,ts0,ix,ok0⟩=>?_)
 . rcases wm.mp hx with rfl | hx
   . exact ⟨_,_,_,id3.by S6,ok3⟩
   rw [wz] at hx;subst hx;exact ⟨_,_,_,id5.by S6,ok5⟩
 have K06 : zaM H H6:=K05.trans S6.keep;clear K01 S2 p2' hp2 E3 K3 P3 id3 ok3 K03 S4 p4' hp4 E5 K5 P5 id5 ok5 K35 K05 S6 e6 n6;wtm_at "gg";refine zcO ix (λ y0 j0=>?_);wtm_at "gg";refine zgB ix (λ y1 j1=>?_);wtm_at "gg";refine zgH ix (λ y2 j2=>?_);wtm_at "gg";refine zmR (zo7 j0 j1 j2 ok0) (λ vw H8 ts S8 pm iw=>?_);have ok:=ok0.perm pm;have n8:=ok.n8;have K08 : zaM H H8:=K06.trans S8.keep;clear K06 S8 ok0 pm ix j0 j1 j2;wtm_at "gg";refine zdk (K08.sqF hs) hl (by decide) (by decide) (λ p H1 hp1 S1 p1=>?_);wtm_at "gg";refine zja p1 (iw.by S1) ok (λ vs H3 ps E3 K3 P3 is3 hpl hpp=>?_);have so:=znH hpl hpp;have iw3:=(iw.by S1).thruW K3;have K03 : zaM H H3:=K08.trans (S1.keep.trans K3);clear S1 p1 hp1 E3 K3 P3 K08 iw hpl hpp;wtm_at "ga";rename_i lh H4 n4 S4 e4 z hz;generalize zeV rs.length = cm at *;obtain ⟨n,rfl⟩ : ∃ n : Nat,z = (n : Int):=⟨z.toNat,by omega⟩;have hn : n <= 300 /\ 60 <= n:=by omega
 have iw4:=iw3.by S4;have is4:=is3.by S4;have K04:=K03.trans S4.keep;clear n4 S4 e4 hz iw3 is3 K03;refine zhV iw4 ok is4 so (by omega) (λ i j rf hin v7 H7 S7 r7=>?_) (λ dd v7 H7 S7 r7=>?_)
 all_goals
   obtain ⟨t7,l7,sv,rfl,st7,nl7,el7,tl7⟩:=r7;refine zcw st7 rfl ?_;have iw7:=iw4.by S7;have is7 : Is K H7 vs (StS (ps,cm)):=is4.by S7;have K07:=K04.trans S7.keep;clear iw4 is4 S7 st7 nl7 K04;wtm_at "gg"
 . exact absurd (show V.int (j : Int) = V.non by assumption) (by simp)
 all_goals first
   | (have hji : j < i /\ i <= 300:=⟨rf.lt,by omega⟩
      clear rf hin hn)
   | (obtain ⟨j,hj7⟩ : ∃ j : Nat,j = 7:=⟨7,rfl⟩
      rw [show (7 : Int) = (j : Int) from by omega];have hji : j < n /\ n <= 300:=⟨by omega,by omega⟩;clear dd hj7 hn;generalize n = i at *)
 all_goals
   have hsl : sv.length = i:=by rw [tl7.length,wd,vc]
   have sok : ∀ k,za8 rs (stN rs us ts ps cm k).1 (stN rs us ts ps cm k).2:=λ k=>zk9 ok so k
   rw [zqv] at tl7
   have okC : ∀ s ∈ (wo i).map (stN rs us ts ps cm),za8 rs s.1 s.2:=λ s hs=>by
     obtain ⟨k,_,rfl⟩:=wT.mp hs;exact sok k
   generalize (wo i).map (stN rs us ts ps cm) = C at *;have hCl : C.length = i:=by rw [<- hsl,tl7.length,wd]
   refine zbd (.of el7) (λ l8 H8 n8' S8 e8=>?_);rw [zce] at e8;wtm_at "gg";refine zbd (.of (S8 _ _ el7)) (λ l9 H9 n9 S9 e9=>?_);rw [zbs _ _ (by omega)] at e9;have S79:=S8.trans S9;have e8:=S9 _ _ e8;have el9:=S79 _ _ el7;have tC : IsAll K H9 sv (C.map StS):=IsAll.same S79 _ _ tl7;have tA:=zaX tC j;have tB:=zaW tC j;have okA : ∀ s ∈ C.take j,za8 rs s.1 s.2:=λ s hs=>okC s (vk hs)
   have okB : ∀ s ∈ C.drop j,za8 rs s.1 s.2:=λ s hs=>okC s (vj hs)
   have hAB : ∀ s ∈ C.take j ++ C.drop j,za8 rs s.1 s.2:=λ s hs=>by
     rcases wJ.mp hs with h | h
     . exact okA s h
     . exact okB s h
   have hAl : (C.take j).length = j:=by rw [wC]; omega
   have hBl : (C.drop j).length = i - j:=by rw [wP]; omega
   generalize sv.take j = xs at *;generalize sv.drop j = ys at *;generalize C.take j = A at *;generalize C.drop j = B at *;have iw9:=iw7.by S79;have is9:=is7.by S79;have K09:=K07.trans S79.keep;clear S79 S8 S9 el7 tl7 iw7 is7 K07 n8' n9 sok;wtm_at "gg";refine ⟨_,_,rfl,?_⟩;wtm_at "gg";refine zdT (zaF.mpr ⟨l8,xs,rfl,.of e8,tA⟩) (λ l10 H10 z10 n10 S10 e10 t10=>?_);wtm_at "gg";refine zdT (zaF.mpr ⟨l9,ys,rfl,.of (S10 _ _ e9),IsAll.same S10 _ _ tB⟩) (λ l11 H11 z11 n11 S11 e11 t11=>?_);wtm_at "gg";refine zbC (by simp) (λ t12 H12 n12 S12 e12=>?_);have S912:=S10.trans (S11.trans S12);have two1 : zfC K H12 (.ref t12) A B:=⟨t12,l10,l11,z10,z11,rfl,.of e12,S12 _ _ (S11 _ _ e10),S12 _ _ e11,IsAll.same (S11.trans S12) _ _ t10,IsAll.same S12 _ _ t11⟩;wtm_at "gg";refine zfd (iw9.by S912) ok (is9.by S912) so two1 okA okB (by omega) (λ H13 S13=>?_);have S913:=S912.trans S13;wtm_at "gg";refine zbC (by simp) (λ t14 H14 n14 S14 e14=>?_);have S914:=S913.trans S14;have two2 : zfC K H14 (.ref t14) A B:=⟨t14,l8,l9,xs,ys,rfl,.of e14,S914 _ _ e8,S914 _ _ e9,IsAll.same S914 _ _ tA,IsAll.same S914 _ _ tB⟩;wtm_at "gg";refine zhx (iw9.by S914) ok (is9.by S914) so two2 okA okB (by omega) (λ H15 S15=>?_);wtm_at "gg";refine zer (λ H16 S16=>?_);rw [beq_self_eq_true];have S916:=S914.trans (S15.trans S16);clear two1 two2 S10 S11 S12 S13 S14 S15 S16 S912 S913 S914 e10 e11 e12 e14 t10 t11 n10 n11 n12 n14;wtm_at "gg";refine zcX (by simp) (λ l17 H17 n17 S17 e17=>?_);wtm_at "gg";refine zcX (by simp) (λ l18 H18 n18 S18 e18=>?_)
   wtm_at "gg";refine zbC (by simp) (λ t19 H19 n19 S19 e19=>?_);have S919:=S916.trans (S17.trans (S18.trans S19));have two3 : zfC K H19 (.ref t19) [] []:=⟨t19,l17,l18,[],[],rfl,.of e19,S19 _ _ (S18 _ _ e17),S19 _ _ e18,.nil,.nil⟩;wtm_at "gg";refine zfd (iw9.by S919) ok (is9.by S919) so two3 (λ s hs=>(by cases hs)) (λ s hs=>(by cases hs)) (by decide) (λ H20 S20=>?_);rw [zoV];wtm_at "gg";refine zer (λ H21 S21=>?_);rw [beq_self_eq_true];have S921:=S919.trans (S20.trans S21);clear two3 S17 S18 S19 S20 S21 S916 S919 e17 e18 e19 n17 n18 n19;have K021:=K09.trans S921.keep;wtm_at "gg";refine zdN (n:=6) (by decide) (by decide) (λ i' σ H'=>∃ o9 o10 o11 o12 o13 o14 : Option V,σ = [some (.ref a'),some (.bl g),some vx,some vw,some vs,some (.ref l7),some (.int (j : Int)),some (.ref l8),some (.ref l9),o9,o10,o11,o12,o13,o14] /\ zaM H9 H' /\ H' l7 = some (.lst sv) /\ H' l8 = some (.lst xs) /\ H' l9 = some (.lst ys)) ⟨_,_,_,_,_,_,rfl,S921.keep,S921 _ _ el9,S921 _ _ e8,S921 _ _ e9⟩ ?_ ?_
   . clear K021 S921
     rintro i' σ H1 hi' ⟨o9,o10,o11,o12,o13,o14,rfl,K1,e17,e18,e19⟩;wtm_at "gg";refine zdk ((K09.trans K1).sqF hs) hl (by omega) (by omega) (λ p H2 hp2 S2 p2=>?_);have n7p : l7 ≠ p:=λ e=>by rw [e,hp2] at e17; cases e17
     have n8p : l8 ≠ p:=λ e=>by rw [e,hp2] at e18; cases e18
     have n9p : l9 ≠ p:=λ e=>by rw [e,hp2] at e19; cases e19
     have K2:=K1.trans S2.keep;wtm_at "gg";refine zkv p2 (S2 _ _ e18) (S2 _ _ e19) n8p n9p (IsAll.keep K2 _ _ (zbo _) tA) (IsAll.keep K2 _ _ (zbo _) tB) (by omega) (by omega) (λ v3 H3 A4 B4 E3 K3 P3 two3 bo3=>?_);have K13:=K2.trans K3;have e37:=E3.at n7p (S2 _ _ e17);have e38:=E3.at n8p (S2 _ _ e18);have e39:=E3.at n9p (S2 _ _ e19);clear K2 S2 hp2 p2 K1 e17 e18 e19 E3 K3;wtm_at "gg"
     all_goals first
       | (refine zjc ok P3 e38 e39 n8p n9p (IsAll.keep K13 _ _ (zbo _) tA) (IsAll.keep K13 _ _ (zbo _) tB) okA okB (by omega) (λ v4 H4 A4 B4 S4 two4 bo4=>?_)
          have K14:=K13.trans S4.keep;have e37:=S4 _ _ e37;have e38:=S4 _ _ e38;have e39:=S4 _ _ e39;have P4:=P3.same S4;clear P3 two3 bo3 K13 S4)
       | (have K14:=K13
          have two4:=two3;have bo4:=bo3;have P4:=P3;clear P3 two3 bo3 K13)
     all_goals
       wtm_at "gg";have okA4 : ∀ s ∈ A4,za8 rs s.1 s.2:=λ s hs=>hAB s (bo4.a s hs)
       have okB4 : ∀ s ∈ B4,za8 rs s.1 s.2:=λ s hs=>hAB s (bo4.b s hs)
       have hl4:=bo4.l;refine zaS (.of e37) ?_;rw [hsl];wtm_at "gg";rename_i d5 H5 d0 d1 E5 K5 P5;obtain ⟨d,rfl⟩:=vQ d0;obtain ⟨xd,hxd⟩ : ∃ x,sv[d]? = some x:=⟨sv[d]'(by omega),we (by omega)⟩;obtain ⟨hd5,ixd⟩:=zbH tC hxd;refine zcb (m:=(d : Int)) (.of (E5.at n7p e37)) (zbP (j:=d) hxd) ?_;wtm_at "gg";refine zcX (by simp) (λ l6 H6 n6 S6 e6=>?_);wtm_at "gg";rename_i c7 H7 c0 c1 E7 K7 P7;have K57:=K5.trans (S6.keep.trans K7);have K97:=K14.trans K57;have n6p : l6 ≠ p:=Pen.ne n6 P5;refine zd3 (λ x=>∃ s : TB.SK,Is K H7 x (StS s) /\ za8 rs s.1 s.2) (.of (E7.at n6p e6)) c0 (by simpa using c1) (λ x hx=>?_) (λ va ⟨sa,ia,oka⟩=>?_)
       . have h1 : ∃ s : TB.SK,Is K H7 vs (StS s) /\ za8 rs s.1 s.2:=⟨_,is9.byK K97 (zc5 _ _),so⟩
         rcases wm.mp hx with rfl | hx
         . exact h1
         rcases wm.mp hx with rfl | hx
         . exact h1
         rcases wm.mp hx with rfl | hx
         . exact h1
         rw [wz] at hx;subst hx;exact ⟨_,ixd.byK K97 (zc5 _ _),okC _ (zaY hd5)⟩
       have two:=((two4.exc E5 K5).same S6).exc E7 K7;have e37:=E7.at n7p (S6 _ _ (E5.at n7p e37));have e38:=E7.at n8p (S6 _ _ (E5.at n8p e38));have e39:=E7.at n9p (S6 _ _ (E5.at n9p e39));have iw7:=iw9.thruW K97;clear E5 K5 P5 S6 e6 n6 E7 K7 P7 K57 two4 ixd hxd d0 d1 c0 c1 K14;wtm_at "gg";refine zdj (j:=0) two.is rfl (λ w0 k0=>?_);wtm_at "gg";refine zdT k0 (λ l10 H10 z10 n10 S10 e10 t10=>?_);wtm_at "gg";refine zdj (j:=1) (two.is.by S10) rfl (λ w1 k1=>?_);wtm_at "gg";refine zdT k1 (λ l11 H11 z11 n11 S11 e11 t11=>?_);wtm_at "gg";refine zbC (by simp) (λ t12 H12 n12 S12 e12=>?_);have S712:=S10.trans (S11.trans S12);have twoh : zfC K H12 (.ref t12) A4 B4:=⟨t12,l10,l11,z10,z11,rfl,.of e12,S12 _ _ (S11 _ _ e10),S12 _ _ e11,IsAll.same (S11.trans S12) _ _ t10,IsAll.same S12 _ _ t11⟩;clear S10 S11 S12 e10 e11 e12 t10 t11 n10 n11 n12 k0 k1;wtm_at "gg";refine zfd (iw7.by S712) ok (ia.by S712) oka twoh okA4 okB4 hl4 (λ H13 S13=>?_);have S713:=S712.trans S13;wtm_at "gg";refine zhx (iw7.by S713) ok (ia.by S713) oka (two.m.same S713) okA4 okB4 hl4 (λ H14 S14=>?_);wtm_at "gg";refine zer (λ H15 S15=>?_);rw [beq_self_eq_true];have S1215:=S13.trans (S14.trans S15);have S715:=S712.trans S1215;wtm_at "gg"
       have one : ∀ D : List TB.SK,(∀ s ∈ D,za8 rs s.1 s.2) -> Sh 5 (.list (D.map StS)):=λ D hD=>zk7 λ d hd=>by
         obtain ⟨s,hs,rfl⟩:=wT.mp hd;exact zcU ok (hD s hs)
       have rfo : ∀ D : List TB.SK,wQ (.list (D.map StS)) (.list (D.map StS)) = true:=λ D=>zrO λ d hd=>by
         obtain ⟨s,_,rfl⟩:=wT.mp hd;exact zrv _ _
       refine zp6 (n:=6) (twoh.is.by S1215) (two.is.by S715) (zoa λ d hd=>by
         simp only [wm,vI,or_false] at hd;rcases hd with rfl | rfl
         . exact one _ okA4
         . exact one _ okB4) (by decide) (zi7 λ d hd=>by
         simp only [wm,vI,or_false] at hd;rcases hd with rfl | rfl
         . exact rfo _
         . exact rfo _) ?_
       wtm_at "gg";exact ⟨_,_,_,_,_,_,rfl,K97.trans S715.keep,S715 _ _ e37,S715 _ _ e38,S715 _ _ e39⟩
   . rintro σ H1 ⟨o9,o10,o11,o12,o13,o14,rfl,_⟩
     wtm_at "gg";exact q _
end
theorem zgq {us : List Value} (h : us.length = 1) : ∃ a,us = [a]:=by
 cases us with
 | nil=>cases h
 | cons a t=>exact ⟨a,by rw [List.length_eq_zero_iff.mp (qu h)]⟩
theorem zdy {us : List Value} (h : us.length = 2) : ∃ a0 a1,us = [a0,a1]:=by
 cases us with
 | nil=>cases h
 | cons a0 t =>
   obtain ⟨a1,e⟩:=zgq (qu h);exact ⟨a0,a1,by rw [e]⟩
theorem zdV {us : List Value} (h : us.length = 3) : ∃ a0 a1 a2,us = [a0,a1,a2]:=by
 cases us with
 | nil=>cases h
 | cons a0 t =>
   obtain ⟨a1,a2,e⟩:=zdy (qu h);exact ⟨a0,a1,a2,by rw [e]⟩
theorem zqO {us : List Value} (h : us.length = 4) : ∃ a0 a1 a2 a3,us = [a0,a1,a2,a3]:=by
 cases us with
 | nil=>cases h
 | cons a0 t =>
   obtain ⟨a1,a2,a3,e⟩:=zdV (qu h);exact ⟨a0,a1,a2,a3,by rw [e]⟩
set_option maxHeartbeats 8000000 in
theorem all_mk {l : qy} {w : World} {K : wa} {h : Heap} {mg : Str -> Option Value} {fa : Addr} (X : K.In h) (G : h.Ns mainGlobals mg) (hfa : mg "law" = some (.ref fa))
   {f0 : Addr} {od0 an0 : Option Addr} {sl0 : Array (Option Value)} {oc0 kV0 dc0 pm0 cd0 ct0 : Value}
   {f1 : Addr} {od1 an1 : Option Addr} {sl1 : Array (Option Value)} {oc1 kV1 dc1 pm1 cd1 ct1 : Value}
   {f2 : Addr} {od2 an2 : Option Addr} {sl2 : Array (Option Value)} {oc2 kV2 dc2 pm2 cd2 ct2 : Value}
   {f3 : Addr} {od3 an3 : Option Addr} {sl3 : Array (Option Value)} {oc3 kV3 dc3 pm3 cd3 ct3 : Value}
   {f4 : Addr} {od4 an4 : Option Addr} {sl4 : Array (Option Value)} {oc4 kV4 dc4 pm4 cd4 ct4 : Value}
   {f5 : Addr} {od5 an5 : Option Addr} {sl5 : Array (Option Value)} {oc5 kV5 dc5 pm5 cd5 ct5 : Value}
   {f6 : Addr} {od6 an6 : Option Addr} {sl6 : Array (Option Value)} {oc6 kV6 dc6 pm6 cd6 ct6 : Value}
   {f7 : Addr} {od7 an7 : Option Addr} {sl7 : Array (Option Value)} {oc7 kV7 dc7 pm7 cd7 ct7 : Value}
   {f8 : Addr} {od8 an8 : Option Addr} {sl8 : Array (Option Value)} {oc8 kV8 dc8 pm8 cd8 ct8 : Value}
   {f9 : Addr} {od9 an9 : Option Addr} {sl9 : Array (Option Value)} {oc9 kV9 dc9 pm9 cd9 ct9 : Value}
   {f10 : Addr} {od10 an10 : Option Addr} {sl10 : Array (Option Value)} {oc10 kV10 dc10 pm10 cd10 ct10 : Value}
   {f11 : Addr} {od11 an11 : Option Addr} {sl11 : Array (Option Value)} {oc11 kV11 dc11 pm11 cd11 ct11 : Value}
   {f12 : Addr} {od12 an12 : Option Addr} {sl12 : Array (Option Value)} {oc12 kV12 dc12 pm12 cd12 ct12 : Value}
   {f13 : Addr} {od13 an13 : Option Addr} {sl13 : Array (Option Value)} {oc13 kV13 dc13 pm13 cd13 ct13 : Value}
   {f14 : Addr} {od14 an14 : Option Addr} {sl14 : Array (Option Value)} {oc14 kV14 dc14 pm14 cd14 ct14 : Value}
   {f15 : Addr} {od15 an15 : Option Addr} {sl15 : Array (Option Value)} {oc15 kV15 dc15 pm15 cd15 ct15 : Value}
   {f16 : Addr} {od16 an16 : Option Addr} {sl16 : Array (Option Value)} {oc16 kV16 dc16 pm16 cd16 ct16 : Value}
   {f17 : Addr} {od17 an17 : Option Addr} {sl17 : Array (Option Value)} {oc17 kV17 dc17 pm17 cd17 ct17 : Value}
   {f18 : Addr} {od18 an18 : Option Addr} {sl18 : Array (Option Value)} {oc18 kV18 dc18 pm18 cd18 ct18 : Value}
   {f19 : Addr} {od19 an19 : Option Addr} {sl19 : Array (Option Value)} {oc19 kV19 dc19 pm19 cd19 ct19 : Value}
   {f20 : Addr} {od20 an20 : Option Addr} {sl20 : Array (Option Value)} {oc20 kV20 dc20 pm20 cd20 ct20 : Value}
   {f21 : Addr} {od21 an21 : Option Addr} {sl21 : Array (Option Value)} {oc21 kV21 dc21 pm21 cd21 ct21 : Value}
   {f22 : Addr} {od22 an22 : Option Addr} {sl22 : Array (Option Value)} {oc22 kV22 dc22 pm22 cd22 ct22 : Value}
   {f23 : Addr} {od23 an23 : Option Addr} {sl23 : Array (Option Value)} {oc23 kV23 dc23 pm23 cd23 ct23 : Value}
   {f24 : Addr} {od24 an24 : Option Addr} {sl24 : Array (Option Value)} {oc24 kV24 dc24 pm24 cd24 ct24 : Value}
   {f25 : Addr} {od25 an25 : Option Addr} {sl25 : Array (Option Value)} {oc25 kV25 dc25 pm25 cd25 ct25 : Value}
   {f26 : Addr} {od26 an26 : Option Addr} {sl26 : Array (Option Value)} {oc26 kV26 dc26 pm26 cd26 ct26 : Value}
   {f27 : Addr} {od27 an27 : Option Addr} {sl27 : Array (Option Value)} {oc27 kV27 dc27 pm27 cd27 ct27 : Value}
   {f28 : Addr} {od28 an28 : Option Addr} {sl28 : Array (Option Value)} {oc28 kV28 dc28 pm28 cd28 ct28 : Value}
   {f29 : Addr} {od29 an29 : Option Addr} {sl29 : Array (Option Value)} {oc29 kV29 dc29 pm29 cd29 ct29 : Value}
   {f30 : Addr} {od30 an30 : Option Addr} {sl30 : Array (Option Value)} {oc30 kV30 dc30 pm30 cd30 ct30 : Value}
   {f31 : Addr} {od31 an31 : Option Addr} {sl31 : Array (Option Value)} {oc31 kV31 dc31 pm31 cd31 ct31 : Value}
   {f32 : Addr} {od32 an32 : Option Addr} {sl32 : Array (Option Value)} {oc32 kV32 dc32 pm32 cd32 ct32 : Value}
   {f33 : Addr} {od33 an33 : Option Addr} {sl33 : Array (Option Value)} {oc33 kV33 dc33 pm33 cd33 ct33 : Value}
   {e0 : Addr}
   {tk0 : Tok}
   {tk1 : Tok}
   {tk2 : Tok}
   {tk3 : Tok}
   {tk4 : Tok}
   (a0 : wn K mainGlobals "is_whole" = some (some (.ref f0)))
   (l0 : K.lookup f0 = some ⟨oc0,od0,.func (wD "is_whole" "is_whole" (zaA zcL) (zav zcL) (zae zcL) .none kV0 dc0 pm0 an0 cd0 ct0),sl0⟩)
   (c0 : wA K cd0 "is_whole" = true)
   (k0 : ww K (.ref f0) = true)
   (a1 : wn K mainGlobals "is_whole_from" = some (some (.ref f1)))
   (l1 : K.lookup f1 = some ⟨oc1,od1,.func (wD "is_whole_from" "is_whole_from" (zaA zbt) (zav zbt) (zae zbt) .none kV1 dc1 pm1 an1 cd1 ct1),sl1⟩)
   (c1 : wA K cd1 "is_whole_from" = true)
   (k1 : ww K (.ref f1) = true)
   (a2 : wn K mainGlobals "is_listed" = some (some (.ref f2)))
   (l2 : K.lookup f2 = some ⟨oc2,od2,.func (wD "is_listed" "is_listed" (zaA zcp) (zav zcp) (zae zcp) .none kV2 dc2 pm2 an2 cd2 ct2),sl2⟩)
   (c2 : wA K cd2 "is_listed" = true)
   (k2 : ww K (.ref f2) = true)
   (a3 : wn K mainGlobals "are_whole_from" = some (some (.ref f3)))
   (l3 : K.lookup f3 = some ⟨oc3,od3,.func (wD "are_whole_from" "are_whole_from" (zaA za6) (zav za6) (zae za6) .none kV3 dc3 pm3 an3 cd3 ct3),sl3⟩)
   (c3 : wA K cd3 "are_whole_from" = true)
   (k3 : ww K (.ref f3) = true)
   (a4 : wn K mainGlobals "are_rounds" = some (some (.ref f4)))
   (l4 : K.lookup f4 = some ⟨oc4,od4,.func (wD "are_rounds" "are_rounds" (zaA zb5) (zav zb5) (zae zb5) .none kV4 dc4 pm4 an4 cd4 ct4),sl4⟩)
   (c4 : wA K cd4 "are_rounds" = true)
   (k4 : ww K (.ref f4) = true)
   (a5 : wn K mainGlobals "are_ups" = some (some (.ref f5)))
   (l5 : K.lookup f5 = some ⟨oc5,od5,.func (wD "are_ups" "are_ups" (zaA zcB) (zav zcB) (zae zcB) .none kV5 dc5 pm5 an5 cd5 ct5),sl5⟩)
   (c5 : wA K cd5 "are_ups" = true)
   (k5 : ww K (.ref f5) = true)
   (a6 : wn K mainGlobals "is_tie" = some (some (.ref f6)))
   (l6 : K.lookup f6 = some ⟨oc6,od6,.func (wD "is_tie" "is_tie" (zaA zdQ) (zav zdQ) (zae zdQ) .none kV6 dc6 pm6 an6 cd6 ct6),sl6⟩)
   (c6 : wA K cd6 "is_tie" = true)
   (k6 : ww K (.ref f6) = true)
   (a7 : wn K mainGlobals "are_ties" = some (some (.ref f7)))
   (l7 : K.lookup f7 = some ⟨oc7,od7,.func (wD "are_ties" "are_ties" (zaA zbX) (zav zbX) (zae zbX) .none kV7 dc7 pm7 an7 cd7 ct7),sl7⟩)
   (c7 : wA K cd7 "are_ties" = true)
   (k7 : ww K (.ref f7) = true)
   (a8 : wn K mainGlobals "web_of" = some (some (.ref f8)))
   (l8 : K.lookup f8 = some ⟨oc8,od8,.func (wD "web_of" "web_of" (zaA zcR) (zav zcR) (zae zcR) .none kV8 dc8 pm8 an8 cd8 ct8),sl8⟩)
   (c8 : wA K cd8 "web_of" = true)
   (k8 : ww K (.ref f8) = true)
   (a9 : wn K mainGlobals "none_coming" = some (some (.ref f9)))
   (l9 : K.lookup f9 = some ⟨oc9,od9,.func (wD "none_coming" "none_coming" (zaA zbD) (zav zbD) (zae zbD) .none kV9 dc9 pm9 an9 cd9 ct9),sl9⟩)
   (c9 : wA K cd9 "none_coming" = true)
   (k9 : ww K (.ref f9) = true)
   (a10 : wn K mainGlobals "moved_up" = some (some (.ref f10)))
   (l10 : K.lookup f10 = some ⟨oc10,od10,.func (wD "moved_up" "moved_up" (zaA zcI) (zav zcI) (zae zcI) .none kV10 dc10 pm10 an10 cd10 ct10),sl10⟩)
   (c10 : wA K cd10 "moved_up" = true)
   (k10 : ww K (.ref f10) = true)
   (a11 : wn K mainGlobals "ended" = some (some (.ref f11)))
   (l11 : K.lookup f11 = some ⟨oc11,od11,.func (wD "ended" "ended" (zaA zef) (zav zef) (zae zef) .none kV11 dc11 pm11 an11 cd11 ct11),sl11⟩)
   (c11 : wA K cd11 "ended" = true)
   (k11 : ww K (.ref f11) = true)
   (a12 : wn K mainGlobals "ties_from" = some (some (.ref f12)))
   (l12 : K.lookup f12 = some ⟨oc12,od12,.func (wD "ties_from" "ties_from" (zaA zbV) (zav zbV) (zae zbV) .none kV12 dc12 pm12 an12 cd12 ct12),sl12⟩)
   (c12 : wA K cd12 "ties_from" = true)
   (k12 : ww K (.ref f12) = true)
   (a13 : wn K mainGlobals "count_to" = some (some (.ref f13)))
   (l13 : K.lookup f13 = some ⟨oc13,od13,.func (wD "count_to" "count_to" (zaA zci) (zav zci) (zae zci) .none kV13 dc13 pm13 an13 cd13 ct13),sl13⟩)
   (c13 : wA K cd13 "count_to" = true)
   (k13 : ww K (.ref f13) = true)
   (a14 : wn K mainGlobals "coming_behind" = some (some (.ref f14)))
   (l14 : K.lookup f14 = some ⟨oc14,od14,.func (wD "coming_behind" "coming_behind" (zaA zbe) (zav zbe) (zae zbe) .none kV14 dc14 pm14 an14 cd14 ct14),sl14⟩)
   (c14 : wA K cd14 "coming_behind" = true)
   (k14 : ww K (.ref f14) = true)
   (a15 : wn K mainGlobals "phases_at_first" = some (some (.ref f15)))
   (l15 : K.lookup f15 = some ⟨oc15,od15,.func (wD "phases_at_first" "phases_at_first" (zaA zbc) (zav zbc) (zae zbc) .none kV15 dc15 pm15 an15 cd15 ct15),sl15⟩)
   (c15 : wA K cd15 "phases_at_first" = true)
   (k15 : ww K (.ref f15) = true)
   (a16 : wn K mainGlobals "tick" = some (some (.ref f16)))
   (l16 : K.lookup f16 = some ⟨oc16,od16,.func (wD "tick" "tick" (zaA zed) (zav zed) (zae zed) .none kV16 dc16 pm16 an16 cd16 ct16),sl16⟩)
   (c16 : wA K cd16 "tick" = true)
   (k16 : ww K (.ref f16) = true)
   (a17 : wn K mainGlobals "is_ring" = some (some (.ref f17)))
   (l17 : K.lookup f17 = some ⟨oc17,od17,.func (wD "is_ring" "is_ring" (zaA zdd) (zav zdd) (zae zdd) .none kV17 dc17 pm17 an17 cd17 ct17),sl17⟩)
   (c17 : wA K cd17 "is_ring" = true)
   (k17 : ww K (.ref f17) = true)
   (a18 : wn K mainGlobals "_law_pen" = some (some (.ref f18)))
   (l18 : K.lookup f18 = some ⟨oc18,od18,.func (wD "_law_pen" "_law_pen" (zaA zdc) (zav zdc) (zae zdc) .none kV18 dc18 pm18 an18 cd18 ct18),sl18⟩)
   (c18 : wA K cd18 "_law_pen" = true)
   (k18 : ww K (.ref f18) = true)
   (a19 : wn K mainGlobals "_law_draw" = some (some (.ref f19)))
   (l19 : K.lookup f19 = some ⟨oc19,od19,.func (wD "_law_draw" "_law_draw" (zaA zcE) (zav zcE) (zae zcE) .none kV19 dc19 pm19 an19 cd19 ct19),sl19⟩)
   (c19 : wA K cd19 "_law_draw" = true)
   (k19 : ww K (.ref f19) = true)
   (a20 : wn K mainGlobals "_law_ties" = some (some (.ref f20)))
   (l20 : K.lookup f20 = some ⟨oc20,od20,.func (wD "_law_ties" "_law_ties" (zaA zck) (zav zck) (zae zck) .none kV20 dc20 pm20 an20 cd20 ct20),sl20⟩)
   (c20 : wA K cd20 "_law_ties" = true)
   (k20 : ww K (.ref f20) = true)
   (a21 : wn K mainGlobals "_law_web" = some (some (.ref f21)))
   (l21 : K.lookup f21 = some ⟨oc21,od21,.func (wD "_law_web" "_law_web" (zaA zcm) (zav zcm) (zae zcm) .none kV21 dc21 pm21 an21 cd21 ct21),sl21⟩)
   (c21 : wA K cd21 "_law_web" = true)
   (k21 : ww K (.ref f21) = true)
   (a22 : wn K mainGlobals "_law_long" = some (some (.ref f22)))
   (l22 : K.lookup f22 = some ⟨oc22,od22,.func (wD "_law_long" "_law_long" (zaA zbE) (zav zbE) (zae zbE) .none kV22 dc22 pm22 an22 cd22 ct22),sl22⟩)
   (c22 : wA K cd22 "_law_long" = true)
   (k22 : ww K (.ref f22) = true)
   (a23 : wn K mainGlobals "_law_phase" = some (some (.ref f23)))
   (l23 : K.lookup f23 = some ⟨oc23,od23,.func (wD "_law_phase" "_law_phase" (zaA zcn) (zav zcn) (zae zcn) .none kV23 dc23 pm23 an23 cd23 ct23),sl23⟩)
   (c23 : wA K cd23 "_law_phase" = true)
   (k23 : ww K (.ref f23) = true)
   (a24 : wn K mainGlobals "_law_coming" = some (some (.ref f24)))
   (l24 : K.lookup f24 = some ⟨oc24,od24,.func (wD "_law_coming" "_law_coming" (zaA zbk) (zav zbk) (zae zbk) .none kV24 dc24 pm24 an24 cd24 ct24),sl24⟩)
   (c24 : wA K cd24 "_law_coming" = true)
   (k24 : ww K (.ref f24) = true)
   (a25 : wn K mainGlobals "_law_tick" = some (some (.ref f25)))
   (l25 : K.lookup f25 = some ⟨oc25,od25,.func (wD "_law_tick" "_law_tick" (zaA zbN) (zav zbN) (zae zbN) .none kV25 dc25 pm25 an25 cd25 ct25),sl25⟩)
   (c25 : wA K cd25 "_law_tick" = true)
   (k25 : ww K (.ref f25) = true)
   (a26 : wn K mainGlobals "_law_begin" = some (some (.ref f26)))
   (l26 : K.lookup f26 = some ⟨oc26,od26,.func (wD "_law_begin" "_law_begin" (zaA zco) (zav zco) (zae zco) .none kV26 dc26 pm26 an26 cd26 ct26),sl26⟩)
   (c26 : wA K cd26 "_law_begin" = true)
   (k26 : ww K (.ref f26) = true)
   (a27 : wn K mainGlobals "_law_stands" = some (some (.ref f27)))
   (l27 : K.lookup f27 = some ⟨oc27,od27,.func (wD "_law_stands" "_law_stands" (zaA zb1) (zav zb1) (zae zb1) .none kV27 dc27 pm27 an27 cd27 ct27),sl27⟩)
   (c27 : wA K cd27 "_law_stands" = true)
   (k27 : ww K (.ref f27) = true)
   (a28 : wn K mainGlobals "_law_bent" = some (some (.ref f28)))
   (l28 : K.lookup f28 = some ⟨oc28,od28,.func (wD "_law_bent" "_law_bent" (zaA zcD) (zav zcD) (zae zcD) .none kV28 dc28 pm28 an28 cd28 ct28),sl28⟩)
   (c28 : wA K cd28 "_law_bent" = true)
   (k28 : ww K (.ref f28) = true)
   (a29 : wn K mainGlobals "_law_written" = some (some (.ref f29)))
   (l29 : K.lookup f29 = some ⟨oc29,od29,.func (wD "_law_written" "_law_written" (zaA zbl) (zav zbl) (zae zbl) .none kV29 dc29 pm29 an29 cd29 ct29),sl29⟩)
   (c29 : wA K cd29 "_law_written" = true)
   (k29 : ww K (.ref f29) = true)
   (a30 : wn K mainGlobals "_law_twins" = some (some (.ref f30)))
   (l30 : K.lookup f30 = some ⟨oc30,od30,.func (wD "_law_twins" "_law_twins" (zaA zcq) (zav zcq) (zae zcq) .none kV30 dc30 pm30 an30 cd30 ct30),sl30⟩)
   (c30 : wA K cd30 "_law_twins" = true)
   (k30 : ww K (.ref f30) = true)
   (a31 : wn K mainGlobals "_law_due" = some (some (.ref f31)))
   (l31 : K.lookup f31 = some ⟨oc31,od31,.func (wD "_law_due" "_law_due" (zaA zcK) (zav zcK) (zae zcK) .none kV31 dc31 pm31 an31 cd31 ct31),sl31⟩)
   (c31 : wA K cd31 "_law_due" = true)
   (k31 : ww K (.ref f31) = true)
   (a32 : wn K mainGlobals "_law_same" = some (some (.ref f32)))
   (l32 : K.lookup f32 = some ⟨oc32,od32,.func (wD "_law_same" "_law_same" (zaA zcG) (zav zcG) (zae zcG) .none kV32 dc32 pm32 an32 cd32 ct32),sl32⟩)
   (c32 : wA K cd32 "_law_same" = true)
   (k32 : ww K (.ref f32) = true)
   (a33 : wn K mainGlobals "law" = some (some (.ref f33)))
   (l33 : K.lookup f33 = some ⟨oc33,od33,.func (wD "law" "law" (zaA zh7) (zav zh7) (zae zh7) .none kV33 dc33 pm33 an33 cd33 ct33),sl33⟩)
   (c33 : wA K cd33 "law" = true)
   (k33 : ww K (.ref f33) = true)
   (n_NoWeb : wn K mainGlobals "NoWeb" = some (some (.ref e0)))
   (z_all : wn K mainGlobals "all" = some none)
   (z_bool : wn K mainGlobals "bool" = some none)
   (z_enumerate : wn K mainGlobals "enumerate" = some none)
   (z_int : wn K mainGlobals "int" = some none)
   (z_isinstance : wn K mainGlobals "isinstance" = some none)
   (z_len : wn K mainGlobals "len" = some none)
   (z_list : wn K mainGlobals "list" = some none)
   (z_min : wn K mainGlobals "min" = some none)
   (z_range : wn K mainGlobals "range" = some none)
   (z_set : wn K mainGlobals "set" = some none)
   (z_sorted : wn K mainGlobals "sorted" = some none)
   (z_str : wn K mainGlobals "str" = some none)
   (z_tuple : wn K mainGlobals "tuple" = some none)
   (z_zip : wn K mainGlobals "zip" = some none)
   (h_x_NoWeb : VJ K e0 zoK "ValueError.__new__" = true)
   (q0 : wn K mainGlobals "MOST_WORMS" = some (some (.int 8 tk0)))
   (q1 : wn K mainGlobals "MOST_ROUND" = some (some (.int 60 tk1)))
   (q2 : wn K mainGlobals "MOST_UP" = some (some (.int 60 tk2)))
   (q3 : wn K mainGlobals "MOST_TIES" = some (some (.int 60 tk3)))
   (q4 : wn K mainGlobals "MOST_DELAY" = some (some (.int 4 tk4)))
   : ∃ fd : FuncData,(∀ (s : Shared) (v : Value),BindsTo s fd ⟨[v],[]⟩ [("_law_script",v)]) /\ ∀ base : Heap,K.In base -> base.Ns mainGlobals mg -> zbB l.prog w K mg base CX0 7 fa fd ["_law_script"] (zjn K):=by
 have e:=hfa.symm.trans (wx X G a33);cases e;have F0:=zaR (st:=zcL) l0 c0 k0;have F1:=zaR (st:=zbt) l1 c1 k1;have F2:=zaR (st:=zcp) l2 c2 k2;have F3:=zaR (st:=za6) l3 c3 k3;have F4:=zaR (st:=zb5) l4 c4 k4;have F5:=zaR (st:=zcB) l5 c5 k5;have F6:=zaR (st:=zdQ) l6 c6 k6;have F7:=zaR (st:=zbX) l7 c7 k7;have F8:=zaR (st:=zcR) l8 c8 k8;have F9:=zaR (st:=zbD) l9 c9 k9;have F10:=zaR (st:=zcI) l10 c10 k10;have F11:=zaR (st:=zef) l11 c11 k11;have F12:=zaR (st:=zbV) l12 c12 k12;have F13:=zaR (st:=zci) l13 c13 k13;have F14:=zaR (st:=zbe) l14 c14 k14;have F15:=zaR (st:=zbc) l15 c15 k15;have F16:=zaR (st:=zed) l16 c16 k16;have F17:=zaR (st:=zdd) l17 c17 k17;have F18:=zaR (st:=zdc) l18 c18 k18;have F19:=zaR (st:=zcE) l19 c19 k19;have F20:=zaR (st:=zck) l20 c20 k20;have F21:=zaR (st:=zcm) l21 c21 k21;have F22:=zaR (st:=zbE) l22 c22 k22;have F23:=zaR (st:=zcn) l23 c23 k23;have F24:=zaR (st:=zbk) l24 c24 k24;have F25:=zaR (st:=zbN) l25 c25 k25;have F26:=zaR (st:=zco) l26 c26 k26;have F27:=zaR (st:=zb1) l27 c27 k27;have F28:=zaR (st:=zcD) l28 c28 k28;have F29:=zaR (st:=zbl) l29 c29 k29;have F30:=zaR (st:=zcq) l30 c30 k30;have F31:=zaR (st:=zcK) l31 c31 k31;have F32:=zaR (st:=zcG) l32 c32 k32;have F33:=zaR (st:=zh7) l33 c33 k33
 have T : Txt K mg ⟨f0,_,f1,_,f2,_,f3,_,f4,_,f5,_,f6,_,f7,_,f8,_,f9,_,f10,_,f11,_,f12,_,f13,_,f14,_,f15,_,f16,_,f17,_,f18,_,f19,_,f20,_,f21,_,f22,_,f23,_,f24,_,f25,_,f26,_,f27,_,f28,_,f29,_,f30,_,f31,_,f32,_,_,_,e0⟩:=⟨F0,
   wx X G a0,
   (F0.binds (ps:=["thing"]) λ _ _ _ _ _ _ us hl=>by obtain ⟨_,rfl⟩:=zgq hl; rfl),
   F1,
   wx X G a1,
   (F1.binds (ps:=["least","most","thing"]) λ _ _ _ _ _ _ us hl=>by obtain ⟨_,_,_,rfl⟩:=zdV hl; rfl),
   F2,
   wx X G a2,
   (F2.binds (ps:=["thing"]) λ _ _ _ _ _ _ us hl=>by obtain ⟨_,rfl⟩:=zgq hl; rfl),
   F3,
   wx X G a3,
   (F3.binds (ps:=["least","most","thing"]) λ _ _ _ _ _ _ us hl=>by obtain ⟨_,_,_,rfl⟩:=zdV hl; rfl),
   F4,
   wx X G a4,
   (F4.binds (ps:=["thing"]) λ _ _ _ _ _ _ us hl=>by obtain ⟨_,rfl⟩:=zgq hl; rfl),
   F5,
   wx X G a5,
   (F5.binds (ps:=["thing","rounds"]) λ _ _ _ _ _ _ us hl=>by obtain ⟨_,_,rfl⟩:=zdy hl; rfl),
   F6,
   wx X G a6,
   (F6.binds (ps:=["thing","worms"]) λ _ _ _ _ _ _ us hl=>by obtain ⟨_,_,rfl⟩:=zdy hl; rfl),
   F7,
   wx X G a7,
   (F7.binds (ps:=["thing","worms"]) λ _ _ _ _ _ _ us hl=>by obtain ⟨_,_,rfl⟩:=zdy hl; rfl),
   F8,
   wx X G a8,
   (F8.binds (ps:=["rounds","ups","ties"]) λ _ _ _ _ _ _ us hl=>by obtain ⟨_,_,_,rfl⟩:=zdV hl; rfl),
   F9,
   wx X G a9,
   (F9.binds (ps:=["web"]) λ _ _ _ _ _ _ us hl=>by obtain ⟨_,rfl⟩:=zgq hl; rfl),
   F10,
   wx X G a10,
   (F10.binds (ps:=["count","ups","phase","many"]) λ _ _ _ _ _ _ us hl=>by obtain ⟨_,_,_,_,rfl⟩:=zqO hl; rfl),
   F11,
   wx X G a11,
   (F11.binds (ps:=["web","worms","phases"]) λ _ _ _ _ _ _ us hl=>by obtain ⟨_,_,_,rfl⟩:=zdV hl; rfl),
   F12,
   wx X G a12,
   (F12.binds (ps:=["web","worms"]) λ _ _ _ _ _ _ us hl=>by obtain ⟨_,_,rfl⟩:=zdy hl; rfl),
   F13,
   wx X G a13,
   (F13.binds (ps:=["ties","worm","delay"]) λ _ _ _ _ _ _ us hl=>by obtain ⟨_,_,_,rfl⟩:=zdV hl; rfl),
   F14,
   wx X G a14,
   (F14.binds (ps:=["web","coming","glowed"]) λ _ _ _ _ _ _ us hl=>by obtain ⟨_,_,_,rfl⟩:=zdV hl; rfl),
   F15,
   wx X G a15,
   (F15.binds (ps:=["web","stand"]) λ _ _ _ _ _ _ us hl=>by obtain ⟨_,_,rfl⟩:=zdy hl; rfl),
   F16,
   wx X G a16,
   (F16.binds (ps:=["web","stand"]) λ _ _ _ _ _ _ us hl=>by obtain ⟨_,_,rfl⟩:=zdy hl; rfl),
   F17,
   wx X G a17,
   (F17.binds (ps:=["web","stand","told"]) λ _ _ _ _ _ _ us hl=>by obtain ⟨_,_,_,rfl⟩:=zdV hl; rfl),
   F18,
   wx X G a18,
   (F18.binds (ps:=["_law_script","_law_k"]) λ _ _ _ _ _ _ us hl=>by obtain ⟨_,_,rfl⟩:=zdy hl; rfl),
   F19,
   wx X G a19,
   (F19.binds (ps:=["_law_pen_here","_law_many"]) λ _ _ _ _ _ _ us hl=>by obtain ⟨_,_,rfl⟩:=zdy hl; rfl),
   F20,
   wx X G a20,
   (F20.binds (ps:=["_law_pen_here","_law_many","_law_great"]) λ _ _ _ _ _ _ us hl=>by obtain ⟨_,_,_,rfl⟩:=zdV hl; rfl),
   F21,
   wx X G a21,
   (F21.binds (ps:=["_law_pen_here","_law_most"]) λ _ _ _ _ _ _ us hl=>by obtain ⟨_,_,rfl⟩:=zdy hl; rfl),
   F22,
   wx X G a22,
   (F22.binds (ps:=["_law_pen_here"]) λ _ _ _ _ _ _ us hl=>by obtain ⟨_,rfl⟩:=zgq hl; rfl),
   F23,
   wx X G a23,
   (F23.binds (ps:=["_law_web_here","_law_worm","_law_phase_here","_law_many"]) λ _ _ _ _ _ _ us hl=>by obtain ⟨_,_,_,_,rfl⟩:=zqO hl; rfl),
   F24,
   wx X G a24,
   (F24.binds (ps:=["_law_web_here","_law_coming_here","_law_gone"]) λ _ _ _ _ _ _ us hl=>by obtain ⟨_,_,_,rfl⟩:=zdV hl; rfl),
   F25,
   wx X G a25,
   (F25.binds (ps:=["_law_web_here","_law_stand"]) λ _ _ _ _ _ _ us hl=>by obtain ⟨_,_,rfl⟩:=zdy hl; rfl),
   F26,
   wx X G a26,
   (F26.binds (ps:=["_law_pen_here","_law_web_here"]) λ _ _ _ _ _ _ us hl=>by obtain ⟨_,_,rfl⟩:=zdy hl; rfl),
   F27,
   wx X G a27,
   (F27.binds (ps:=["_law_web_here","_law_stand","_law_most"]) λ _ _ _ _ _ _ us hl=>by obtain ⟨_,_,_,rfl⟩:=zdV hl; rfl),
   F28,
   wx X G a28,
   (F28.binds (ps:=["_law_pen_here","_law_lead","_law_again"]) λ _ _ _ _ _ _ us hl=>by obtain ⟨_,_,_,rfl⟩:=zdV hl; rfl),
   F29,
   wx X G a29,
   (F29.binds (ps:=["_law_stand"]) λ _ _ _ _ _ _ us hl=>by obtain ⟨_,rfl⟩:=zgq hl; rfl),
   F30,
   wx X G a30,
   (F30.binds (ps:=["_law_lead","_law_again"]) λ _ _ _ _ _ _ us hl=>by obtain ⟨_,_,rfl⟩:=zdy hl; rfl),
   F31,
   wx X G a31,
   (F31.binds (ps:=["_law_web_here","_law_stand","_law_told"]) λ _ _ _ _ _ _ us hl=>by obtain ⟨_,_,_,rfl⟩:=zdV hl; rfl),
   F32,
   wx X G a32,
   (F32.binds (ps:=["_law_found","_law_due_here"]) λ _ _ _ _ _ _ us hl=>by obtain ⟨_,_,rfl⟩:=zdy hl; rfl),
   F33,
   wx X G a33,
   (F33.binds (ps:=["_law_script"]) λ _ _ _ _ _ _ us hl=>by obtain ⟨_,rfl⟩:=zgq hl; rfl),
   vh X G z_all,
   vh X G z_bool,
   vh X G z_enumerate,
   vh X G z_int,
   vh X G z_isinstance,
   vh X G z_len,
   vh X G z_list,
   vh X G z_min,
   vh X G z_range,
   vh X G z_set,
   vh X G z_sorted,
   vh X G z_str,
   vh X G z_tuple,
   vh X G z_zip,
   wx X G n_NoWeb,
   h_x_NoWeb,
   ⟨_,wx X G q0⟩,
   ⟨_,wx X G q1⟩,
   ⟨_,wx X G q2⟩,
   ⟨_,wx X G q3⟩,
   ⟨_,wx X G q4⟩⟩
 exact ⟨_,λ s v=>.of_eq rfl,λ base _ _=>zr0 T⟩
theorem walk {l : qy} {q : Program} {loose : List Str} {XP : (Str -> Option Value) -> Heap -> Prop} {YP : World -> Heap -> Prop} {d : DefRec} {K : Params -> wa} (hn : l.most = some 63) (hdf : d.params.defaults = [])
   (hY : ∀ (w : World) (h : Heap),YP w h -> (K w.params).In h)
   (F : ∀ (w : World) (mg : Str -> Option Value) (fa : Addr) (h : Heap),(K w.params).In h -> h.Ns mainGlobals mg -> mg d.name = some (.ref fa) ->
     ∃ fd : FuncData,(∀ (s : Shared) (u : Value),BindsTo s fd ⟨[u],[]⟩ [("_law_script",u)]) /\ ∀ base : Heap,(K w.params).In base -> base.Ns mainGlobals mg -> zbB l.prog w (K w.params) mg base CX0 7 fa fd ["_law_script"] (zjn (K w.params))) :
   xL q loose XP YP l.row.toRowW d [] (λ f vs=>xk f vs) :=
 L2.walk_of (n:=63) (k:=7) (x:="_law_script") (CX:=λ _=>CX0) (sp:=λ w=>zjn (K w.params)) hn (by decide) hdf ⟨rfl,by decide,by decide,rfl⟩ hY F (λ _ H a ns hl hO hS=>⟨.ref a,rfl,a,ns,rfl,zsr hO hS,hl,λ _=>rfl⟩) λ _ _ _ _ _ z=>z
end G
open PySem PySem.W PyProof.Rows
set_option maxRecDepth 100000 in
set_option maxHeartbeats 0 in
theorem PySem.Challenge.cw_glowflock_k49_rings_looked_at_holds : PySem.Challenge.rw_glowflock_k49_rings_looked_at.Holds := by
 w_on; refine GH.head ?_
 k_fill
 refine G.walk (l:=PySem.Challenge.rw_glowflock_k49_rings_looked_at) rfl rfl (fun w h Y=>PySem.W.kIn_of Y) ?F
 case F =>
   intro w mg fa h KX GG hmg;refine' G.all_mk KX GG hmg ?a0 ?l0 ?c0 ?k0 ?a1 ?l1 ?c1 ?k1 ?a2 ?l2 ?c2 ?k2 ?a3 ?l3 ?c3 ?k3 ?a4 ?l4 ?c4 ?k4 ?a5 ?l5 ?c5 ?k5 ?a6 ?l6 ?c6 ?k6 ?a7 ?l7 ?c7 ?k7 ?a8 ?l8 ?c8 ?k8 ?a9 ?l9 ?c9 ?k9 ?a10 ?l10 ?c10 ?k10 ?a11 ?l11 ?c11 ?k11 ?a12 ?l12 ?c12 ?k12 ?a13 ?l13 ?c13 ?k13 ?a14 ?l14 ?c14 ?k14 ?a15 ?l15 ?c15 ?k15 ?a16 ?l16 ?c16 ?k16 ?a17 ?l17 ?c17 ?k17 ?a18 ?l18 ?c18 ?k18 ?a19 ?l19 ?c19 ?k19 ?a20 ?l20 ?c20 ?k20 ?a21 ?l21 ?c21 ?k21 ?a22 ?l22 ?c22 ?k22 ?a23 ?l23 ?c23 ?k23 ?a24 ?l24 ?c24 ?k24 ?a25 ?l25 ?c25 ?k25 ?a26 ?l26 ?c26 ?k26 ?a27 ?l27 ?c27 ?k27 ?a28 ?l28 ?c28 ?k28 ?a29 ?l29 ?c29 ?k29 ?a30 ?l30 ?c30 ?k30 ?a31 ?l31 ?c31 ?k31 ?a32 ?l32 ?c32 ?k32 ?a33 ?l33 ?c33 ?k33 ?n_NoWeb ?z_all ?z_bool ?z_enumerate ?z_int ?z_isinstance ?z_len ?z_list ?z_min ?z_range ?z_set ?z_sorted ?z_str ?z_tuple ?z_zip ?h_x_NoWeb ?q0 ?q1 ?q2 ?q3 ?q4
   (case a0=>k_is)
   (case l0=>k_is)
   (case c0=>k_is)
   (case k0=>k_is)
   (case a1=>k_is)
   (case l1=>k_is)
   (case c1=>k_is)
   (case k1=>k_is)
   (case a2=>k_is)
   (case l2=>k_is)
   (case c2=>k_is)
   (case k2=>k_is)
   (case a3=>k_is)
   (case l3=>k_is)
   (case c3=>k_is)
   (case k3=>k_is)
   (case a4=>k_is)
   (case l4=>k_is)
   (case c4=>k_is)
   (case k4=>k_is)
   (case a5=>k_is)
   (case l5=>k_is)
   (case c5=>k_is)
   (case k5=>k_is)
   (case a6=>k_is)
   (case l6=>k_is)
   (case c6=>k_is)
   (case k6=>k_is)
   (case a7=>k_is)
   (case l7=>k_is)
   (case c7=>k_is)
   (case k7=>k_is)
   (case a8=>k_is)
   (case l8=>k_is)
   (case c8=>k_is)
   (case k8=>k_is)
   (case a9=>k_is)
   (case l9=>k_is)
   (case c9=>k_is)
   (case k9=>k_is)
   (case a10=>k_is)
   (case l10=>k_is)
   (case c10=>k_is)
   (case k10=>k_is)
   (case a11=>k_is)
   (case l11=>k_is)
   (case c11=>k_is)
   (case k11=>k_is)
   (case a12=>k_is)
   (case l12=>k_is)
   (case c12=>k_is)
   (case k12=>k_is)
   (case a13=>k_is)
   (case l13=>k_is)
   (case c13=>k_is)
   (case k13=>k_is)
   (case a14=>k_is)
   (case l14=>k_is)
   (case c14=>k_is)
   (case k14=>k_is)
   (case a15=>k_is)
   (case l15=>k_is)
   (case c15=>k_is)
   (case k15=>k_is)
   (case a16=>k_is)
   (case l16=>k_is)
   (case c16=>k_is)
   (case k16=>k_is)
   (case a17=>k_is)
   (case l17=>k_is)
   (case c17=>k_is)
   (case k17=>k_is)
   (case a18=>k_is)
   (case l18=>k_is)
   (case c18=>k_is)
   (case k18=>k_is)
   (case a19=>k_is)
   (case l19=>k_is)
   (case c19=>k_is)
   (case k19=>k_is)
   (case a20=>k_is)
   (case l20=>k_is)
   (case c20=>k_is)
   (case k20=>k_is)
   (case a21=>k_is)
   (case l21=>k_is)
   (case c21=>k_is)
   (case k21=>k_is)
   (case a22=>k_is)
   (case l22=>k_is)
   (case c22=>k_is)
   (case k22=>k_is)
   (case a23=>k_is)
   (case l23=>k_is)
   (case c23=>k_is)
   (case k23=>k_is)
   (case a24=>k_is)
   (case l24=>k_is)
   (case c24=>k_is)
   (case k24=>k_is)
   (case a25=>k_is)
   (case l25=>k_is)
   (case c25=>k_is)
   (case k25=>k_is)
   (case a26=>k_is)
   (case l26=>k_is)
   (case c26=>k_is)
   (case k26=>k_is)
   (case a27=>k_is)
   (case l27=>k_is)
   (case c27=>k_is)
   (case k27=>k_is)
   (case a28=>k_is)
   (case l28=>k_is)
   (case c28=>k_is)
   (case k28=>k_is)
   (case a29=>k_is)
   (case l29=>k_is)
   (case c29=>k_is)
   (case k29=>k_is)
   (case a30=>k_is)
   (case l30=>k_is)
   (case c30=>k_is)
   (case k30=>k_is)
   (case a31=>k_is)
   (case l31=>k_is)
   (case c31=>k_is)
   (case k31=>k_is)
   (case a32=>k_is)
   (case l32=>k_is)
   (case c32=>k_is)
   (case k32=>k_is)
   (case a33=>k_is)
   (case l33=>k_is)
   (case c33=>k_is)
   (case k33=>k_is)
   (case n_NoWeb=>k_is)
   (case z_all=>k_is)
   (case z_bool=>k_is)
   (case z_enumerate=>k_is)
   (case z_int=>k_is)
   (case z_isinstance=>k_is)
   (case z_len=>k_is)
   (case z_list=>k_is)
   (case z_min=>k_is)
   (case z_range=>k_is)
   (case z_set=>k_is)
   (case z_sorted=>k_is)
   (case z_str=>k_is)
   (case z_tuple=>k_is)
   (case z_zip=>k_is)
   (case h_x_NoWeb=>k_exc)
   (case q0=>k_is)
   (case q1=>k_is)
   (case q2=>k_is)
   (case q3=>k_is)
   (case q4=>k_is)
#print axioms PySem.Challenge.cw_glowflock_k49_rings_looked_at_holds
