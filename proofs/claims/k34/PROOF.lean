import PyProof.Rows.All
import KE.KDictOf
import KE.KFromBytes
import KE.KItemsList
import KE.KSortTup
import KE.KTupSum
import KE.RegKIsAll
import KE.RegKTryMore
import Lean
import PySem.Challenge.RW_glowflock_k34_whole_no_two_words
set_option hygiene false in
local macro_rules
 | `(.a)=>`((by lia))
 | `(.c)=>`(List Rat)
 | `(.l)=>`(List (we × Obj))
 | `(.m)=>`(wf->wm->Prop)
 | `(.n)=>`(Inv X pins σ H s)
 | `(.o)=>`((model X.prog X.w))
 | `(.p)=>`(List Int)
 | `(.q)=>`(Txt K mg a)
 | `(.s)=>`((model prog w))
 | `(.u)=>`((by simp))
 | `(.x)=>`(List V)
 | `(.y)=>`((Or.inl rfl))
 | `(.z)=>`(ns.length=xs.length+1)
 | `(.B)=>`((wp xs.length))
 | `(.C)=>`((Fast.tw5923862056798008813 p.main.body))
 | `(.D)=>`((a.den:Int))
 | `(.E)=>`((a^ns.sum.toNat))
 | `(.G)=>`((ck (v:=.ref a.dQ) rfl T.eG rfl))
 | `(.H)=>`((qi 0))
 | `(.I)=>`(Str->Option wf)
 | `(.J)=>`(List wf)
 | `(.L)=>`((pv 0))
 | `(.M)=>`((by decide))
 | `(.O)=>`((ae av ah))
 | `(.Q)=>`(List Str)
 | `(.R)=>`(List (Option Nat))
 | `(.S)=>`((x.den:Int))
 | `(.U)=>`((λ_ _ _ _ _=>(cC 0)))
 | `(.X)=>`((pv 1))
 | `(.Y)=>`((wo _))
 | `(.Z)=>`(xs.length=ys.length)
 | `(.aa)=>`((.ref s.heap.objs.size))
 | `(.ab)=>`((ag a b xs i))
 | `(.ac)=>`((ag ra rb xs i))
 | `(.ae)=>`((by with_unfolding_all rfl))
 | `(.af)=>`((ck (v:=.ref a.eK) rfl T.fG rfl))
 | `(.ag)=>`((ag ra rb xs n))
 | `(.ah)=>`((az ra rb (aC ps left).length))
 | `(.ai)=>`((xs.getD i 0))
 | `(.aj)=>`(1<=xs.length)
set_option hygiene false in
local macro_rules
 | `(.ak)=>`(List Expr)
 | `(.al)=>`((.ref l))
 | `(.am)=>`(List (Nat × Nat × Nat))
 | `(.an)=>`((λ_ _ _ _ _=>dU))
 | `(.ao)=>`((.builtin "isinstance"))
 | `(.aq)=>`((ns.map V.int))
 | `(.ar)=>`(String)
 | `(.as)=>`(Array wf)
 | `(.au)=>`((pv 3))
 | `(.av)=>`((.tuple ds))
 | `(.aw)=>`((λ_ _=>rfl))
 | `(.ax)=>`((ar.refl _))
 | `(.ay)=>`((x == ("__debug__" : Str)))
 | `(.aA)=>`((.ref p))
 | `(.aB)=>`((by grind))
 | `(.aC)=>`((Fast.tw5923862056798008813 wy.row.prog.main.body))
 | `(.aD)=>`((aC ps left))
 | `(.aE)=>`((I.ok.hd hc))
 | `(.aF)=>`(List (List Nat))
 | `(.aG)=>`((λv3 H3 S3 i3=>?_))
 | `(.aH)=>`(aM a b)
 | `(.aI)=>`((aR xs))
 | `(.aJ)=>`((ns.length-1))
 | `(.aL)=>`((by simp;lia))
 | `(.aM)=>`((S1.trans S2))
 | `(.aN)=>`((S4.trans S5))
 | `(.aP)=>`((xs.map N))
 | `(.aQ)=>`(List (List Int))
 | `(.aR)=>`(List Nat)
 | `(.aS)=>`((ra^(aC ps left).length))
 | `(.aT)=>`((start t.mask (vn knd k)))
 | `(.aU)=>`((b.den:Int))
 | `(.aV)=>`((pv 2))
 | `(.aW)=>`(List (Str × we))
 | `(.aX)=>`((ae av .O))
 | `(.aY)=>`(List α)
 | `(.aZ)=>`((.inl rfl))
 | `(.bc)=>`((qi 1))
 | `(.be)=>`((F.den:Int))
 | `(.bf)=>`(Option V)
set_option hygiene false in
local macro_rules
 | `(.bg)=>`((λv2 H2 S2 i2=>?_))
 | `(.bi)=>`((xs++[0]))
 | `(.bj)=>`(List Env)
 | `(.bm)=>`(((n:Int):Rat))
 | `(.bn)=>`((wz ..))
 | `(.bo)=>`((by assumption))
 | `(.bp)=>`(List we)
 | `(.bq)=>`((.ref a))
 | `(.br)=>`(List wC)
 | `(.bu)=>`(X.calm=true)
 | `(.bv)=>`((y.den:Int))
 | `(.bw)=>`((cf.mpr rfl))
 | `(.bx)=>`((.ref D))
 | `(.bB)=>`(Cm m xs)
 | `(.bC)=>`((aT xs))
 | `(.bD)=>`((λv1 H1 S1 i1=>?_))
 | `(.bF)=>`((S2.trans S3))
 | `(.bG)=>`(Array (Option wf))
 | `(.bH)=>`(Is K H v d)
 | `(.bI)=>`((s.heap.objs.size+1))
namespace EZ
section
variable{α β γ δ ε ζ η θ ι:Type}{g:Prop}
theorem EX1{p:α->Prop}(h:∃a,p a)(k:∀a,p a->g):g:=h.elim k
theorem EX2{p:α->β->Prop}(h:∃a b,p a b)(k:∀a b,p a b->g):g:=h.elim λa h=>h.elim λb h=>k a b h
theorem EX3{p:α->β->γ->Prop}(h:∃a b c,p a b c)(k:∀a b c,p a b c->g):g:=EX2 h λa b h=>h.elim λc h=>k a b c h
theorem EX4{p:α->β->γ->δ->Prop}(h:∃a b c d,p a b c d)(k:∀a b c d,p a b c d->g):g:=EX3 h λa b c h=>h.elim λd h=>k a b c d h
theorem EX5{p:α->β->γ->δ->ε->Prop}(h:∃a b c d e,p a b c d e)(k:∀a b c d e,p a b c d e->g):g:=EX4 h λa b c d h=>h.elim λe h=>k a b c d e h
theorem EX6{p:α->β->γ->δ->ε->ζ->Prop}(h:∃a b c d e f,p a b c d e f)(k:∀a b c d e f,p a b c d e f->g):g:=EX5 h λa b c d e h=>h.elim λf h=>k a b c d e f h
theorem EX7{p:α->β->γ->δ->ε->ζ->η->Prop}(h:∃a b c d e f i,p a b c d e f i)(k:∀a b c d e f i,p a b c d e f i->g):g:=EX6 h λa b c d e f h=>h.elim λi h=>k a b c d e f i h
theorem EX8{p:α->β->γ->δ->ε->ζ->η->θ->Prop}(h:∃a b c d e f i j,p a b c d e f i j)(k:∀a b c d e f i j,p a b c d e f i j->g):g:=EX7 h λa b c d e f i h=>h.elim λj h=>k a b c d e f i j h
end
section
variable{a b c d e f i j k l m g:Prop}
theorem EY2(h:a/\b)(z:a->b->g):g:=z h.1 h.2
theorem EY3(h:a/\b/\c)(z:a->b->c->g):g:=z h.1 h.2.1 h.2.2
theorem EY4(h:a/\b/\c/\d)(z:a->b->c->d->g):g:=EY3 h λx y h=>z x y h.1 h.2
theorem EY5(h:a/\b/\c/\d/\e)(z:a->b->c->d->e->g):g:=EY4 h λx y u h=>z x y u h.1 h.2
theorem EY6(h:a/\b/\c/\d/\e/\f)(z:a->b->c->d->e->f->g):g:=EY5 h λx y u v h=>z x y u v h.1 h.2
theorem EY7(h:a/\b/\c/\d/\e/\f/\i)(z:a->b->c->d->e->f->i->g):g:=EY6 h λx y u v w h=>z x y u v w h.1 h.2
theorem EY8(h:a/\b/\c/\d/\e/\f/\i/\j)(z:a->b->c->d->e->f->i->j->g):g:=EY7 h λx y u v w p h=>z x y u v w p h.1 h.2
theorem EY9(h:a/\b/\c/\d/\e/\f/\i/\j/\k)(z:a->b->c->d->e->f->i->j->k->g):g:=EY8 h λx y u v w p q h=>z x y u v w p q h.1 h.2
end
end EZ
open Lean in
local macro_rules
 | `(tactic| subst 0 $ts*)=>do
  let a<-ts.mapM λt=>`(tactic|refine $t ?_)
  `(tactic|with_reducible first $[|$a:tactic]*)
 | `(tactic| subst 1 $s*)=>do
  let mut r:=#[<-`(tactic|with_reducible apply $(s[1]!))]
  for x in s[2:] do
   let x:TSyntax `str:=⟨x⟩
   r:=r.push (<-match x.getString with|"L"=>`(tactic|focus lia)|"R"=>`(tactic|focus rfl)|"A"=>`(tactic|focus assumption)|_=>`(tactic|focus wtm_at $x))
  for _ in [0:(⟨s[0]!⟩:NumLit).getNat] do r:=r.push (<-`(tactic|intro _))
  `(tactic|($[$r]*))
open Lean in
local macro_rules
 | `(tactic| obtain ⟨$ps,*⟩:=$h) => do
  let s:=ps.getElems
  let k:=s.size
  if k < 3 then return<-`(tactic|rcases $h:term with ⟨$ps,*⟩)
  let mut cl<-`(tactic|skip)
  if h.raw.isIdent then cl<-`(tactic|try clear $(⟨h.raw⟩):ident)
  let mut r<-`(tactic|rcases $h:term with ⟨$ps,*⟩)
  for n in [0:9] do
   let m:=k - n
   if n < k && m < 10 && n + m > 2 then
    let mut t : Array (TSyntax `tactic):=#[]
    let c : Ident:=mkIdent `hz
    if n > 0 then
     t:=(t.push (<- `(tactic|refine $(mkIdent (.str `EZ s!"EX{n}")) $h ?_))).push cl
     for p in s[0:n] do t:=t.push (<- `(tactic|rintro ($p:rcasesPatLo)))
    if m = 1 then t:=t.push (<- `(tactic|rintro ($(s[n]!):rcasesPatLo)))
    else
     if n > 0 then t:=t.push (<- `(tactic|intro $c:ident))
     let y:=mkIdent (.str `EZ s!"EY{m}")
     if n > 0 then t:=(t.push (<- `(tactic|refine $y $c ?_))).push (<- `(tactic|clear $c))
     else t:=(t.push (<- `(tactic|refine $y $h ?_))).push cl
     for p in s[n:k] do t:=t.push (<- `(tactic|rintro ($p:rcasesPatLo)))
    r<-`(tactic|first | ($[$t]*) | ($r:tactic))
  return r
set_option compiler.extract_closed false
set_option Elab.async false
set_option linter.all false
set_option maxRecDepth 100000
open Array renaming append_assoc->XM,forIn_toList->VI,getD->u3,getD_eq_getD_getElem?->Wn,getElem?_eq_getElem->W1,getElem?_eq_none->Qy,getElem?_eq_some_iff->Vd,getElem?_toList->Vj,length_toList->wV,replicate->u5,toList->Ux
open Bool renaming and_eq_true->w8,and_eq_true_iff->Xk,and_false->Q5,and_true->Us,beq_eq_decide_eq->QJ,eq_false_iff->uh,eq_iff_iff->vA,false_and->WJ,false_eq_true->vf,false_ne_true->vJ,not_eq_true->uH,not_eq_true'->WX,not_false->Q0,not_true->WG,or_eq_true->uW,or_false->Um,true_and->Ve
open Classical renaming byContradiction->V6,not_not->Wm
open False renaming elim->Vc
open Int renaming add_mul->uu,dvd_mul_left->uC,dvd_mul_right->VX,dvd_trans->qN,ediv_eq_of_eq_mul_right->xf,ediv_le_self->uD,ediv_mul_le->Ub,emod_lt_of_pos->Qe,emod_nonneg->QQ,fdiv_eq_ediv_of_nonneg->Wy,gcd->vI,gcd_comm->XR,gcd_dvd_left->qK,gcd_dvd_right->Qn,gcd_pos_of_ne_zero_right->qE,gcd_zero_right->XZ,mul_assoc->qm,mul_ediv_cancel_left->qb,mul_le_mul->Uk,mul_le_mul_of_nonneg_right->W2,mul_ne_zero->QK,mul_neg->uj,mul_nonneg->Xj,mul_one->Qt,mul_pos->Wa,natAbs_ediv_le_natAbs->xt,natAbs_mul->Xc,natCast_ediv->qc,natCast_mul->VM,neg_dvd->ui,neg_one_mul->uQ,one_mul->Q8,pow_add->ut,pow_ne_zero->qt,pow_pos->uk,pow_succ->qd,pow_zero->QT,sign_eq_neg_one_of_neg->xl,sign_eq_one_of_pos->xU,toNat->xM,toNat_natCast->wD,zero_sub->X0
open List renaming Pairwise->Xx,all_cons->Xw,all_eq_true->Wk,all_map->XU,any_cons->QC,any_eq_true->QG,append_assoc->Vo,append_inj_left->Xv,append_nil->vS,cons_append->uB,countP_eq_length_filter->Q2,countP_map->uV,dropLast_concat_getLast->Q1,dropLast_eq_take->Xf,dropLast_subset->Xs,drop_eq_getElem_cons->V5,drop_eq_nil_of_le->xX,drop_succ_cons->QX,drop_zero->Uh,eq_nil_of_length_eq_zero->Vs,ext_getElem->W4,filterMap_cons->QW,filter_append->Wq,filter_congr->vD,filter_cons->Ww,filter_eq_nil_iff->xY,filter_eq_self->XA,filter_filter->VG,find?_cons->u9,find?_some->Ua,flatten_cons->VW,foldl->uN,foldl_append->X5,forIn_cons->qU,forIn_nil->Q4,getD_eq_getElem?_getD->wb,getElem?_append_left->vQ,getElem?_append_right->vC,getElem?_cons_succ->Ql,getElem?_cons_zero->xI,getElem?_drop->xg,getElem?_eq_getElem->wc,getElem?_eq_none->wN,getElem?_eq_some_iff->WZ,getElem?_map->wu,getElem?_range->vM,getElem?_replicate->xF,getElem?_set->W9,getElem?_set_ne->Xl,getElem?_set_self->xR,getElem?_take_of_lt->xw,getElem?_toArray->Xh,getElem_drop->X7,getElem_map->Vx,getElem_mem->We,getElem_of_mem->wX,getElem_take->X6,length->xT,length_append->wL,length_cons->vK,length_drop->Wd,length_dropLast->QR,length_eq_zero_iff->Qk,length_erase_of_mem->xE,length_filter_le->vZ,length_map->wl,length_nil->xO,length_pos_iff->WE,length_pos_of_mem->qx,length_range->vi,length_replicate->WK,length_set->Wz,length_singleton->vX,length_tail->QE,length_take->Wi,length_zipWith->XB,lookup_cons->qM,map_append->w5,map_congr_left->Vv,map_cons->ve,map_drop->Xy,map_dropLast->Qs,map_map->VH,map_nil->xy,map_replicate->X1,map_take->Uq,mem_append->Wc,mem_append_left->V3,mem_append_right->Wo,mem_cons->wG,mem_cons_of_mem->wt,mem_cons_self->wz,mem_erase_of_ne->Xr,mem_filter->wZ,mem_filterMap->xb,mem_iff_getElem->Xp,mem_iff_getElem?->Xg,mem_map->wQ,mem_of_find?_eq_some->xv,mem_or_eq_of_mem_set->xu,mem_range->wH,mem_singleton->vc,nil_append->qT,nodup_cons->Vb,nodup_range->W3,not_mem_nil->WO,of_mem_zip->xK,pairwise_append->qL,pairwise_cons->Vh,pairwise_iff_getElem->WD,pairwise_map->Qp,pairwise_singleton->xG,range->wp,range_succ->QP,replicate->vj,replicate_succ->qk,set_cons_succ->XX,set_cons_zero->XY,size_toArray->wP,sum_cons->Vr,tail_cons->Ue,take_add_one->Qo,take_append_drop->Xe,take_length->Wj,take_of_length_le->WU,take_sublist->X2,take_subset->uE,take_succ_cons->XE,take_zero->Q6,zipIdx_cons->uJ,zipIdx_nil->uZ
open List.Pairwise renaming drop->UD
open List.cons renaming injEq->uY
open Nat renaming add_assoc->Vq,add_comm->XQ,add_le_add_left->XF,add_mul->um,add_sub_cancel->Qb,add_sub_cancel'->qR,add_zero->xB,div_div_eq_div_mul->Xa,eq_or_lt_of_le->Vi,eq_zero_or_pos->qw,gcd_dvd_right->X4,le_add_right->W5,le_antisymm->uU,le_max_left->uR,le_max_right->uA,le_of_dvd->Ur,le_of_lt->WH,le_of_lt_succ->V0,le_refl->wo,le_trans->Wb,lt_irrefl->Vp,lt_of_le_of_lt->Vg,lt_of_lt_of_le->wW,lt_or_ge->wE,lt_succ_of_lt->VY,lt_trans->XO,lt_trichotomy->Va,lt_two_pow_self->XG,min_le_right->xx,mod_eq_of_lt->xC,mod_lt->qr,mod_mul->x6,mul_add->Q9,mul_assoc->VS,mul_comm->xz,mul_le_mul->W8,mul_le_mul_left->qQ,mul_le_mul_right->Wf,mul_left_comm->ud,mul_mod->ur,mul_succ->Qa,ne_of_gt->vv,ne_of_lt->wT,not_lt_zero->W0,one_mul->uo,pow_add->xV,pow_le_pow_right->Xn,pow_succ->VD,strongRecOn->u4,sub_self->Vm,succ_mul->qD,succ_ne_self->uI,succ_pos->QN,two_pow_pos->Ws,zero_add->xD,zero_le->WN,zero_mul->Qf
open Nat.succ renaming inj->QV
open Ne renaming symm->WI
open Option renaming getD_none->uz,getD_some->QF,isSome->Ut,map_eq_some_iff->VA,map_some->uX
open Option.some renaming inj->wI,injEq->Qq
open Prod renaming ext->VQ,fst->uv,snd->uw
open PyProof.Rows renaming callWith_type1->vF,slot_tuple_getitem->ql
open PyProof.Rows.F renaming entry_set_update_loop->Qd,plain_set_update_loop->VJ
open PyProof.Rows.IsTup renaming new->QI
open PySem renaming Addr->we,Around->vg,FuncData->wA,Heap->wJ,IsPair->WM,IsTupleKey->vO,NameKind->Vf,Program->wK,PyData->wC,SetTable->WR,Shared->wm,Stmt->w6,Value->wf,World->wO,backTo->V1,binaryOp->WQ,bootBuiltins->vL,cLine->WC,call->uP,codeAny_builtin->Vn,compareOp->vG,letOwnedTupleGo->qW,mainGlobals->wU,mem_of_lookup->Vu,ofAClassStatement->qB,plainId_quiet->qO,pyNext->V2,rawInt->Vw,sizeLine->vd,sliceBounds->qP,starEach->wY,tupleKeyHash->vn,wpAny->wx,wpAny_Call_Name_kw->Qg,wpAny_attempt->VT,wpAny_bind->wg,wpAny_call_entry->Wp,wpAny_execs_nil->qV,wpAny_field->vH,wpAny_forIn_list->qj,wpAny_holding->Wv,wpAny_isInstance->Vz,wpAny_mono->WP,wpAny_newObj_type->WY,wpAny_passesOwn->VP,wpAny_pure->wq,wpAny_pyIter_list->qA,wpAny_pyIter_tuple->Vk,wpAny_seqItems->Wr,wpAny_setField_rec->Vl,wpAny_setState_of->qC,wpAny_specialOf->qX,wpAny_truthy_bool->Wx
open PySem.Around renaming under->Uy,under_plainId->W7
open PySem.Builtin.Dict renaming pairItems->Xb,updateFrom->xJ
open PySem.Builtin.Frozenset renaming newClass->Uv,updateFrom->Uj
open PySem.Builtin.Int renaming intBits->XC
open PySem.Builtin.List renaming listTooLong->qZ
open PySem.Builtin.Range renaming rangeSize->UA
open PySem.Builtin.Slice renaming sliceAdjust->qS,sliceApplied->xj,sliceFields->Uw,slicePartIndex->Uc,slicePlaces->V4
open PySem.Builtin.SmallTypes renaming nextOf->vR,ownedTupleHandOut->Qc,ownedTupleIsFree->vN
open PySem.Builtin.Tuple renaming tupleExact->qa,tupleHashOf->Wh,tupleItemsOf->xk
open PySem.Calls renaming Name_function_global->xi,evalArgs_plain->Xm,spliced_cons->xc,spliced_nil->xo
open PySem.Challenge renaming pw_glowflock_k34_whole_no_two_words->VU,rw_glowflock_k34_whole_no_two_words->wy
open PySem.Code renaming isGuard->Uz
open PySem.EntryCells renaming newEntry->XD
open PySem.F renaming args_enumerate_next_1->xH,args_tuple_add_2->qY,args_tuple_iterator_next_1->Q3,args_zip_next_1->VZ,called_set->qg,entry_enumerate_next->x5,entry_tuple_add->Qj,entry_tuple_iterator_next->xh,entry_zip_next->qf,excBase_ValueError->Xq,plainAttrs_list->vP,plain_set_new->u7,slot_enumerate_next->qH,slot_int_rmul->uO,slot_list_append->vU,slot_list_count->Qm,slot_tuple_add->Qu,slot_tuple_eq->xN,slot_tuple_hash->qz,slot_tuple_iterator_next->VR,slot_zip_getattribute->qy,slot_zip_next->WB,type_list_append->vV
open PySem.Heap renaming IsTuple->XV,MadeExcOf->Uf,SameBut->vB,get?_push_ne->xp,get?_push_of_some->wn,get?_push_size->wS,get?_update_other->Qv,get?_update_self->VL,lt_size->wF,size_push->V8,update->xZ
open PySem.Heap.IsSliceOf renaming new->UC
open PySem.Heap.SameBut renaming refl->ue,update->QY
open PySem.IntMulOk renaming of_left->uL,of_right->uf
open PySem.IsRange renaming new->UB
open PySem.Obj renaming cls_mapFields->uc,data_mapFields->qu,isFreed_of_fields->qG,mapFields->QD,mapSeq->xr,putSet->u6
open PySem.Paired renaming length->Ul
open PySem.PassesOwn renaming leaving->ug,never->w9
open PySem.PyData renaming canLay0->vy,canLayAll0->Wl,depth->WL,depthAll->Wt,eqv->wR,eqvAll->WT,strOk->XT
open PySem.SeqAt renaming canLay_of_shaped->Vy,shaped->vT
open PySem.SeqAt.EqAt renaming int_str->XH,str_int->XI
open PySem.SetTable renaming below->WW,fill->Uu,has->XW,insertAt->WF,tooFull->uK,turns->Xi
open PySem.SetTable.below renaming go->Qr
open PySem.SetTable.layClean renaming free->Qz
open PySem.SetTable.probe renaming go->xq
open PySem.Shared renaming heap->ul
open PySem.Str renaming ofString->Wg,ofString->wM
open PySem.Value renaming isInt->Q7
open PySem.W renaming Frag->wa,OpenLaw->xL,WalkO->Uo,callWith_K->XN,cellsFrom_some->xS,codeIn->QZ,excIn->qo,exmOne->qI,fnOf->V9,hideAll->uM,hideAll_get->Xz,keepIn->Qh,kia_one->VN,kia_tup->VO,kitAny->Ui,kitOne->V7,kitx_bool->X9,kitx_dict->ub,kitx_int->uF,kitx_list->ua,kitx_none->X8,kitx_str->uG,kitx_tuple->XS,methodObj->xn,mg_none_of->vE,mg_of->Wu,nsIn->vo,of_hideAll->XJ
open PySem.W.Looks renaming ld->UE
open PySem.Walks renaming list->u0
open Rat renaming den_divInt->Ud,den_intCast->xQ,divInt->wB,divInt_mul_divInt->Xd,divInt_nonneg->X3,divInt_ofNat->xA,div_def->Qw,div_mul_cancel->WA,ext->Ug,intCast_add->qp,intCast_eq_zero_iff->Vt,intCast_le_intCast->VC,intCast_lt_intCast->xW,intCast_mul->vW,intCast_pos->uT,le_iff->Xo,le_of_lt->vY,le_refl->WV,le_trans->QM,lt_iff->uS,lt_of_le_of_ne->qq,mul_assoc->Up,mul_comm->qh,mul_eq_zero->QL,mul_le_mul_of_nonneg_right->QU,mul_lt_mul_of_pos_left->xm,mul_lt_mul_of_pos_right->qJ,mul_nonneg->qF,mul_pos->VB,not_le->Xu,not_lt->W6,num_divInt_den->VE,num_intCast->xP,num_nonneg->Qi,one_mul->Qx,pow_succ->WS,pow_zero->VF
namespace GH
open PySem PySem.W PyProof.Rows
noncomputable def Bb (p:wK) (w:wO) (m:Nat) (an:Option wf) (N:Nat) (s0:wm):Option wm :=
 Option.bind (Fast.tw14082659384304107361 Fast.tw14364793385576792824 p w m an N s0 (topStub p)) λs1=>match staticsOk .C s0.heap s1.heap&&namesBound p s1.heap&&gensDone s1&&laidKept s0.heap s1.heap with | true=>some s1 | false=>none
noncomputable def gO (w:wO) (os:OsState):wm:=⟨boot_heap w.params,#[],boot_drawn,boot_toks,os⟩
theorem zzw{p q:wK}{loose:.Q}{Xt:wm->Bool}{A:Type}{Yf:wm->A}{Ya:wO->A}{N:Nat}(e:opening p=plainProg p.main.scope.names)(hN:Nat.ble 600 N=true)(f:∀s,fenceModules? p s=some s){m:Nat}{an:Option wf}
  (size:∀w:wO,((boot_heap w.params).isNs wU,(boot_heap w.params).objs.size,(boot_heap w.params).nsMap wU "__annotations__")=(true,m,an))
  (h:∀w:wO,(λos=>(Bb p w m an N (gO w os)).map (λs=>(Fast.tw4187177175401517315 q loose .C Xt true s,Yf s)))=λ_=>some (openGood q loose,Ya w)):LeftO p q loose Xt Yf Ya N:=λw=>by
 obtain⟨⟨h',gs,d,k,os⟩,e',e2⟩:=VA.mp (boot_open e hN f (w:=w));obtain⟨rfl,rfl,rfl,rfl⟩:h'=boot_heap w.params/\gs = #[]/\d=boot_drawn/\k=boot_toks:=by simpa using e2
 obtain⟨z1,z2,z3⟩:_/\_/\_:=by simpa only[Prod.mk.injEq] using size w
 have r:=congrFun (h w) os;unfold openEnds;rw[e']
 show Option.map _ (topFrom treeTable p w N _)=_
 rw[<- r];unfold topFrom Bb gO;rw[<- Fast.te14082659384304107361,<- Fast.te14364793385576792824,<- Fast.te5923862056798008813,<- Fast.te4187177175401517315];dsimp only;rw[z1,z2,z3]
 rfl
noncomputable def kH (p:wK) (w:wO) (m:Nat) (an:Option wf) (N:Nat) (s0:wm):Option wm:=Fast.tw14082659384304107361 Fast.tw14364793385576792824 p w m an N s0 (topStub p)
noncomputable def Bz (p:wK) (w:wO) (os:OsState) (s1:wm):Bool:=staticsOk .C (gO w os).heap s1.heap&&namesBound p s1.heap&&gensDone s1&&laidKept (gO w os).heap s1.heap
theorem aal{p q:wK}{loose:.Q}{Xt:wm->Bool}{A:Type}{Yf:wm->A}{Ya:wO->A}{N:Nat}(e:opening p=plainProg p.main.scope.names)(hN:Nat.ble 600 N=true)(f:∀s,fenceModules? p s=some s){m:Nat}{an:Option wf}
  (size:∀w:wO,((boot_heap w.params).isNs wU,(boot_heap w.params).objs.size,(boot_heap w.params).nsMap wU "__annotations__")=(true,m,an)) (hp:drecsOf q=[]) (he:plainsOf q (looseW q loose)=[]) (hd:dclssOf q loose=[])
  (hB0:∀w:wO,(λos=>(kH p w m an N (gO w os)).map (λs=>(Bz p w os s,(Fast.tw4187177175401517315 q loose .C Xt true s).2.2.2.1)))=λ_=>some (true,true))
  (hB1:∀w:wO,(λos=>(kH p w m an N (gO w os)).map (λs=>((Fast.tw4187177175401517315 q loose .C Xt true s).1,(Fast.tw4187177175401517315 q loose .C Xt true s).2.1)))=λ_=>some (expectedOf q,bltViewBooted))
  (hB2:∀w:wO,(λos=>(kH p w m an N (gO w os)).map (λs=>(Fast.tw4187177175401517315 q loose .C Xt true s).2.2.1))=λ_=>some true)
  (hB3:∀w:wO,(λos=>(kH p w m an N (gO w os)).map (λs=>(Fast.tw4187177175401517315 q loose .C Xt true s).2.2.2.2.2.2.2))=λ_=>some (wideGood q,clsGoodW q loose))
  (hC:∀w:wO,(λos=>(kH p w m an N (gO w os)).map (λs=>Yf s))=λ_=>some (Ya w)):LeftO p q loose Xt Yf Ya N:=by
 refine zzw e hN f size λw=>?_
 funext os
 have h1:=congrFun (hB0 w) os;obtain⟨s1,e1,e2⟩:=VA.mp h1;have g1:=congrFun (hB1 w) os;have g2:=congrFun (hB2 w) os;have g3:=congrFun (hB3 w) os;have k:=congrFun (hC w) os;rw[e1]at g1 g2 g3 k;have g1:=wI g1;have g2:=wI g2;have g3:=wI g3;have a0:=congrArg uv e2;have b0:=congrArg uw e2;have a1:=congrArg uv g1;have b1:=congrArg uw g1
 have gp:(Fast.tw4187177175401517315 q loose .C Xt true s1).2.2.2.2.1=pinGoodD (drecsOf q):=by
  rw[<- Fast.te4187177175401517315]
  show pinSeenD q (drecsOf q) s1=_
  rw[hp]
  rfl
 have ge:(Fast.tw4187177175401517315 q loose .C Xt true s1).2.2.2.2.2.1=plainGoodE q (looseW q loose):=by
  rw[<- Fast.te4187177175401517315]
  show plainSeenE q (looseW q loose) s1=_
  unfold plainSeenE plainGoodE;rw[he]
  rfl
 have gd:(Fast.tw4187177175401517315 q loose .C Xt true s1).2.2.2.2.2.2.1=plainGoodD q loose:=by
  rw[<- Fast.te4187177175401517315]
  show plainSeenD q loose s1=_
  unfold plainSeenD plainGoodD;rw[hd]
  rfl
 have g:Fast.tw4187177175401517315 q loose .C Xt true s1=openGood q loose:=VQ a1 (VQ b1 (VQ g2 (VQ b0 (VQ gp (VQ ge (VQ gd g3))))));have k:=wI k
 have ez:Bb p w m an N (gO w os)=some s1:=by
  unfold Bb;unfold kH at e1;rw[e1]
  show(match Bz p w os s1 with | true=>some s1 | false=>none)=some s1
  rw[show Bz p w os s1=true from a0]
 rw[ez];exact congrArg some (VQ g k)
def qv:wK:=view VU [1,2,3,4,5,6,8,9,10,11,12,13,14,15,16,17,18,20,21,22,23,24,25,26,27,28,29,31,32,33,34,35,36,37,38,39,40,42,43,45,46,47,48,49,50,51,52,53,55,56,57,58,59,60,61,62,63,64,66,67,68,69,70,71,72,73,74,75,76,77,78,79,80,81,83,84,85,86,87,88,89,90,91,92,93,94,95,96,97,98,99,100,101,102,103,104,105,106,107,108,109,110,111,112]
theorem R6{a b:Bool}(h:a=true)(k:b=true):(a&&b)=true:=by rw[h,k];rfl
set_option maxHeartbeats 0 in
theorem Nx:wy.wellSaid=true:=by
 unfold OpenLaw.wellSaid OpenRow.wellSaid OpenRow.partSaid looksOpen
 repeat' with_reducible refine R6 ?_ ?_
 all_goals decide +kernel
theorem size(w:wO):((boot_heap w.params).isNs wU,(boot_heap w.params).objs.size,(boot_heap w.params).nsMap wU "__annotations__")=(true,11,some (.ref 6)):=by kernel_rfl
theorem no1:drecsOf qv=[]:=by kernel_rfl
theorem no2:plainsOf qv (looseW qv [])=[]:=by kernel_rfl
theorem no3:dclssOf qv []=[]:=by kernel_rfl
theorem aaF(w:wO):(λos=>(kH wy.row.prog w 11 (some (.ref 6)) 8270 (gO w os)).map (λs=>(Bz wy.row.prog w os s,(Fast.tw4187177175401517315 qv [] .aC (λs=>xlAt GH.qv [] s&&recOk (RowW.records (OpenRow.toRowW (OpenLaw.row wy))) s) true s).2.2.2.1)))=λ_=>some (true,true):=by kernel_rfl
theorem aaG(w:wO):(λos=>(kH wy.row.prog w 11 (some (.ref 6)) 8270 (gO w os)).map (λs=>((Fast.tw4187177175401517315 qv [] .aC (λs=>xlAt GH.qv [] s&&recOk (RowW.records (OpenRow.toRowW (OpenLaw.row wy))) s) true s).1,(Fast.tw4187177175401517315 qv [] .aC (λs=>xlAt GH.qv [] s&&recOk (RowW.records (OpenRow.toRowW (OpenLaw.row wy))) s) true s).2.1)))=λ_=>some (expectedOf qv,bltViewBooted):=by kernel_rfl
theorem aaB(w:wO):(λos=>(kH wy.row.prog w 11 (some (.ref 6)) 8270 (gO w os)).map (λs=>(Fast.tw4187177175401517315 qv [] .aC (λs=>xlAt GH.qv [] s&&recOk (RowW.records (OpenRow.toRowW (OpenLaw.row wy))) s) true s).2.2.1))=λ_=>some true:=by kernel_rfl
theorem aaE(w:wO):(λos=>(kH wy.row.prog w 11 (some (.ref 6)) 8270 (gO w os)).map (λs=>(Fast.tw4187177175401517315 qv [] .aC (λs=>xlAt GH.qv [] s&&recOk (RowW.records (OpenRow.toRowW (OpenLaw.row wy))) s) true s).2.2.2.2.2.2.2))=λ_=>some (wideGood qv,clsGoodW qv []):=by kernel_rfl
local macro_rules | `(tactic| o_head $H)=>`(tactic| (refine holds_open (q:=GH.qv) (loose:=[]) (Xt:=λ s=>xlAt GH.qv [] s && recOk (RowW.records (OpenRow.toRowW (OpenLaw.row wy))) s) (XP:=XL GH.qv []) (Yf:=Hook.obs $H) (Ya:=Hook.val $H) (YP:=Hook.says $H) (N:=8270) ?hl (Hook.of $H) (Hook.keeps $H) (λ s e=>xl_of s (Xk.mp e).1) XL.keeps (by rfl) (by rfl) (by rfl) (λ s e=>recFacts_of (Xk.mp e).2) (by rfl) (by first | assumption | decide +kernel) (by decide +kernel) ⟨rfl,rfl,rfl,rfl,rfl,by decide +kernel⟩ ?hw ?hc; (case hl=>refine GH.aal (by kernel_rfl) rfl (λ s=>by kernel_rfl) GH.size GH.no1 GH.no2 GH.no3 GH.aaF GH.aaG GH.aaB GH.aaE ?_; intro w; kernel_rfl)))
local macro_rules | `(tactic| o_law)=>`(tactic| refine holds_law GH.Nx λ Nx=>?_)
set_option maxHeartbeats 0
open_top head for wy
end GH
set_option maxHeartbeats 4000000
namespace L2
open PySem PySem.Spec PyProof.Rows
variable{H:Hp}{a b:we}{o:HO}
abbrev Key:=Sum Int Str
def Sz:Key->wf->Bool
 | .inl k,v=>Q7 k v
 | .inr x,v=>Value.isStrOf x v
def zHh(w:wO):Key->Int
 | .inl k=>hashInt k
 | .inr x=>hashStr w x
theorem kZ :∀{k:Key}{v:wf},Sz k v=true->(∃i t,k=Sum.inl i/\v=Value.int i t)\/(∃x t,k=Sum.inr x/\v=Value.str x t)
 | .inl i,v,h=>by
  obtain⟨t,e⟩:=Value.isInt_shape (k:=i) (v:=v) h;exact .inl ⟨i,t,rfl,e⟩
 | .inr x,v,h=>by
  obtain⟨t,e⟩:=Value.isStrOf_shape (x:=x) (v:=v) h;exact .inr ⟨x,t,rfl,e⟩
theorem zFC(a b:Int):decide ((Sum.inl a:Key)=Sum.inl b)=(a == b):=by
 by_cases e:a=b
 ·subst e;simp
 ·have h:¬ (Sum.inl a:Key)=Sum.inl b:=λq=>e (Sum.inl.inj q)
  rw[decide_eq_false h];exact(beq_eq_false_iff_ne.mpr e).symm
theorem zFm(a b:Str):decide ((Sum.inr a:Key)=Sum.inr b)=decide (a=b):=by
 by_cases e:a=b
 ·subst e;simp
 ·have h:¬ (Sum.inr a:Key)=Sum.inr b:=λq=>e (Sum.inr.inj q)
  rw[decide_eq_false h,decide_eq_false e]
theorem zFZ(a:Int)(b:Str):decide ((Sum.inl a:Key)=Sum.inr b)=false:=decide_eq_false (λq=>nomatch q)
theorem zE4(a:Str)(b:Int):decide ((Sum.inr a:Key)=Sum.inl b)=false:=decide_eq_false (λq=>nomatch q)
def IX(prog:wK)(w:wO):PySem.KeyKind prog w Key where
 is:=Sz
 hash:=zHh w
 inj:=λv a b ha hb=>by
  rcases kZ ha with⟨i,t,rfl,rfl⟩ | ⟨x,t,rfl,rfl⟩
  ·rcases kZ hb with⟨j,u,rfl,e⟩ | ⟨y,u,rfl,e⟩
   ·injection e with e1 _;rw[e1]
   ·exact nomatch e
  ·rcases kZ hb with⟨j,u,rfl,e⟩ | ⟨y,u,rfl,e⟩
   ·exact nomatch e
   ·injection e with e1 _;rw[e1]
 byValue:=λk v h=>by
  rcases kZ h with⟨i,t,rfl,rfl⟩ | ⟨x,t,rfl,rfl⟩<;>rfl
 pyHash:=λhv h=>by
  rcases kZ hv with⟨i,t,rfl,rfl⟩ | ⟨x,t,rfl,rfl⟩
  ·exact wpAny_pyHash_int h
  ·exact wpAny_pyHash_str h
 eqBool:=λhu hv h=>by
  rcases kZ hu with⟨i,t,rfl,rfl⟩ | ⟨x,t,rfl,rfl⟩
  ·rcases kZ hv with⟨j,u,rfl,rfl⟩ | ⟨y,u,rfl,rfl⟩
   ·rw[zFC]at h;exact wpAny_eqBool_int h
   ·rw[zFZ]at h;exact XH i t y u _ _ _ _ h
  ·rcases kZ hv with⟨j,u,rfl,rfl⟩ | ⟨y,u,rfl,rfl⟩
   ·rw[zE4]at h;exact XI x t j u _ _ _ _ h
   ·rw[zFm]at h;exact wpAny_eqBool_str h
 «strs»:=λk x t v h=>by
  rcases kZ h with⟨i,u,rfl,e⟩ | ⟨y,u,rfl,e⟩
  ·exact nomatch e
  ·injection e with e1 _
   subst e1;cases v<;>rfl
inductive V where
 | bE | bl (b:Bool) | int (i:Int) | str (x:Str) | byt (b:Array UInt8) | flt (b:UInt64) | ref (a:we) | ty (n:.ar)
 deriving DecidableEq
def bK:V->wf->Prop
 | .bE,u=>u=Value.none
 | .bl b,u=>u=Value.bool b
 | .int i,u=>∃t,u=Value.int i t
 | .str x,u=>∃t,u=Value.str x t
 | .byt b,u=>∃t,u=Value.bytes b t
 | .flt b,u=>∃t,u=Value.float b t
 | .ref a,u=>u=Value.ref a
 | .ty n,u=>u=Value.type n
abbrev aU:List V->List wf->Prop:=Paired bK
theorem aU.length{xs:.x}{us:.J}(r:aU xs us):xs.length=us.length:=Ul r
theorem aU.get:∀{xs:.x}{us:.J}{i:Nat}{x:V},aU xs us->xs[i]? = some x->∃u,us[i]? = some u/\bK x u
 | _,_,_,_,.nil,e=>by simp at e
 | _,_,0,_,.cons r _,e=>by simp at e;subst e;exact⟨_,rfl,r⟩
 | _,_,i+1,x,.cons _ t,e=>by
  obtain⟨u,h1,h2⟩:=aU.get (i:=i) (x:=x) t (by simpa using e);exact⟨u,by simpa using h1,h2⟩
theorem aU.set{x:V}{u:wf}(r:bK x u):∀{xs:.x}{us:.J}(i:Nat),aU xs us->aU (xs.set i x) (us.set i u)
 | _,_,_,.nil=>.nil
 | _,_,0,.cons _ t=>.cons r t
 | _,_,i+1,.cons q t=>.cons q (aU.set r i t)
theorem aU.append:∀{xs ys:.x}{us ws:.J},aU xs us->aU ys ws->aU (xs++ys) (us++ws)
 | _,_,_,_,.nil,s=>s
 | _,_,_,_,.cons r t,s=>.cons r (aU.append t s)
theorem aU.take:∀{xs:.x}{us:.J}(n:Nat),aU xs us->aU (xs.take n) (us.take n)
 | _,_,0,_=>.nil
 | _,_,_+1,.nil=>.nil
 | _,_,n+1,.cons r t=>.cons r (aU.take n t)
theorem aU.drop:∀{xs:.x}{us:.J}(n:Nat),aU xs us->aU (xs.drop n) (us.drop n)
 | _,_,0,r=>r
 | _,_,_+1,.nil=>.nil
 | _,_,n+1,.cons _ t=>aU.drop n t
def Pt:Option V->Option wf->Prop
 | some v,some u=>bK v u
 | none,none=>True
 | _,_=>False
def KV{κ : Type} : List (κ × V)->List (κ × wf)->Prop:=Paired λ(p : κ × V)(q : κ × wf)=>p.1=q.1/\bK p.2 q.2
def kV:Key->V
 | .inl i=>.int i
 | .inr x=>.str x
inductive HO where
 | lst (xs:.x)
 | tup (xs:.x)
 | dK (kvs:List (Key × V)) | dT (kvs:List (List Key × V))
 | set (S:Int->Bool) (n:Nat)
 | ins (C dx:we) (fs:List (Str × V))
 | own (x:we)
 | xd (fs:List (Str × V))
 | met (f x:we)
 | Bu (lo hi:Int)
 | gT (o:Obj) (u:HO)
 | mY (ps:.as)
 | ext (φ : wJ->Prop)
abbrev Hp:=we->Option HO
def upd(H:Hp)(a:we)(o:HO):Hp:=λb=>if b=a then some o else H b
theorem dk : upd H a o a=some o:=by unfold upd;rw[if_pos rfl]
theorem eY(h:b≠a):upd H a o b=H b:=by unfold upd;rw[if_neg h]
theorem Om{u:HO}(h:H a=some o)(h':H b=some u)(d:o≠u):a≠b:=by
 intro e;subst e;rw[h]at h';exact d (wI h')
theorem lT(h:H a=some o)(h':H b=none):a≠b:=by
 intro e;subst e;rw[h]at h';cases h'
section
variable(P:wK)(w:wO)
def d8(H:Hp)(h:wJ)(a:we):HO->Prop
 | .lst xs=>xs.length<=vd /\ ∃(its:.J)(n:Nat),aU xs its/\h.get? a=some {cls:=.type "list",data:=.seq its.toArray n}
 | .tup xs=>xs.length<=vd /\ ∃its:List wf,aU xs its/\IsTup h a its.toArray
 | .dK kvs=>kvs.length<=vd/\(a == sysModules)=false /\ ∃vs,KV kvs vs/\h.DictOf (IX P w) a vs
 | .dT kvs=>kvs.length<=vd/\(a == sysModules)=false /\ ∃xs:List (List Key × we × wf),
     Paired (λ(p:List Key × V)(q:List Key × we × wf)=>p.1=q.1/\H q.2.1=some (.tup (p.1.map kV))/\bK p.2 q.2.2) kvs xs /\
     ∃o es ep,h.get? a=some o/\o.ExactDict/\o.data=.dict es ep/\es.toList=xs.map (entryOfKey (tupleKind (IX P w)))/\(xs.map (·.1)).Nodup
 | .set S n=>h.SetOf (intKind P w) a S n
 | .ins C dx fs=>H dx=some (.own a)/\fs.length<=1000/\dx≠a/\h.get? a=some (PySem.W.instObj C dx) /\
     ∃mA,h.Ns1 dx mA/\(∀f,Pt (fs.lookup f) (mA f))/\PySem.Within mA (fs.map (·.1))
 | .own _=>∃o,h.get? a=some o
 | .xd fs=>∃mA,h.Ns1 a mA /\ ∀f,Pt (fs.lookup f) (mA f)
 | .Bu lo hi=>∃t u v,h.get? a=some {cls:=.type "range",data:=.fields #[.int lo t,.int hi u,.int 1 v]}
 | .gT o u=>h.get? a=some o/\d8 H h a u
 | .mY ps=>h.get? a=some {cls:=.none,data:=.fields ps}
 | .met f x=>h.get? a=some (xn (.ref f) (.ref x))
 | .ext φ=>φ h/\(∃o,h.get? a=some o) /\ ∀h1 h2:wJ,φ h1->(∀o,h1.get? a=some o->h2.get? a=some o) -> φ h2
def dR(H:Hp)(h:wJ):Prop:=∀a o,H a=some o->d8 P w H h a o
end
section
variable{P:wK}{w:wO}{H H':Hp}{h h':wJ}{a:we}{o:HO}
theorem d8.lt(x:d8 P w H h a o):a<h.objs.size:=by
 cases o with
 | lst xs=>obtain⟨_,_,_,_,e⟩:=x;exact wF e
 | tup xs=>obtain⟨_,_,_,p⟩:=x;exact p.lt
 | dK kvs=>obtain⟨_,_,_,_,o,_,_,e,_⟩:=x;exact wF e
 | dT kvs=>obtain⟨_,_,_,_,o,_,_,e,_⟩:=x;exact wF e
 | set S n=>obtain⟨o,_,_,_,e,_⟩:=x;exact wF e
 | ins C dx fs=>obtain⟨_,_,_,e,_⟩:=x;exact wF e
 | own y=>obtain⟨_,e⟩:=x;exact wF e
 | xd fs=>obtain⟨_,⟨_,_,_,e,_⟩,_⟩:=x;exact wF e
 | Bu lo hi=>obtain⟨_,_,_,e⟩:=x;exact wF e
 | gT ob u=>obtain⟨e,_⟩:=x;exact wF e
 | mY ps=>exact wF (show h.get? a=some _ from x)
 | met f y=>exact wF (show h.get? a=some _ from x)
 | ext φ=>obtain⟨_,⟨_,e⟩,_⟩:=x;exact wF e
theorem Paired.Nw{α β : Type}{F G : α -> β -> Prop} : ∀{l₁ : .aY}{l₂ : List β},Paired F l₁ l₂ -> (∀a b,F a b->G a b)->Paired G l₁ l₂
 | _,_,.nil,_=>.nil
 | _,_,.cons r t,f=>.cons (f _ _ r) (Paired.Nw t f)
theorem d8.md(x:d8 P w H h a o)(k:∀b u,(b=a\/H b=some (.own a))->h.get? b=some u->h'.get? b=some u)
  (ho:∀b,H b=some (.own a)->H' b=some (.own a)) (ht:∀b xs,H b=some (.tup xs)->H' b=some (.tup xs)):d8 P w H' h' a o:=by
 induction o with
 | lst xs=>obtain⟨z,its,n,r,e⟩:=x;exact⟨z,its,n,r,k _ _ .aZ e⟩
 | tup xs=>obtain⟨z,its,r,ob,e,c⟩:=x;exact⟨z,its,r,ob,k _ _ .aZ e,c⟩
 | dK kvs=>obtain⟨z,y,vs,r,ob,es,ep,e,c⟩:=x;exact⟨z,y,vs,r,ob,es,ep,k _ _ .aZ e,c⟩
 | dT kvs =>
  obtain⟨z,y,xs,r,ob,es,ep,e,c⟩:=x;exact⟨z,y,xs,Paired.Nw r λp q z=>⟨z.1,ht _ _ z.2.1,z.2.2⟩,ob,es,ep,k _ _ .aZ e,c⟩
 | set S n=>obtain⟨ob,es,ep,t,e,c⟩:=x;exact⟨ob,es,ep,t,k _ _ .aZ e,c⟩
 | ins C dx fs =>
  obtain⟨d,z,ne,e,mA,⟨od,es,ep,e2,c⟩,r⟩:=x;exact⟨ho _ d,z,ne,k _ _ .aZ e,mA,⟨od,es,ep,k _ _ (.inr d) e2,c⟩,r⟩
 | own y=>obtain⟨ob,e⟩:=x;exact⟨ob,k _ _ .aZ e⟩
 | xd fs=>obtain⟨mA,⟨od,es,ep,e,c⟩,r⟩:=x;exact⟨mA,⟨od,es,ep,k _ _ .aZ e,c⟩,r⟩
 | Bu lo hi=>obtain⟨t,u,v,e⟩:=x;exact⟨t,u,v,k _ _ .aZ e⟩
 | gT ob u ih=>obtain⟨e,q⟩:=x;exact⟨k _ _ .aZ e,ih q⟩
 | mY ps =>
  have e:h.get? a=some {cls:=.none,data:=.fields ps}:=x
  show h'.get? a=some {cls:=.none,data:=.fields ps}
  exact k a _ .aZ e
 | met f y =>
  have e:h.get? a=some (xn (.ref f) (.ref y)):=x
  show h'.get? a=some (xn (.ref f) (.ref y))
  exact k a _ .aZ e
 | ext φ=>obtain⟨p,⟨o,e⟩,st⟩:=x;exact⟨st _ _ p λo q=>k _ _ .aZ q,⟨o,k _ _ .aZ e⟩,st⟩
theorem dR.lt(x:dR P w H h)(e:H a=some o):a<h.objs.size:=(x a o e).lt
theorem dR.fresh(x:dR P w H h)(e:h.objs.size<=a):H a=none:=by
 cases q:H a with
 | none=>rfl
 | some u=>exact absurd (wW (x.lt q) e) (Vp _)
theorem dR.kept(x:dR P w H h)(k:∀b u,h.get? b=some u->h'.get? b=some u):dR P w H h':=λa o e =>
 (x a o e).md (λb u _ q=>k b u q) (λ_ q=>q) λ_ _ q=>q
theorem dR.laid(x:dR P w H h)(k:∀b u,h.get? b=some u->h'.get? b=some u)(hp:h.objs.size<=a)(new:d8 P w (upd H a o) h' a o):dR P w (upd H a o) h':=λb u e=>by
 have hn:=x.fresh hp
 by_cases hb:b=a
 ·subst hb;rw[dk]at e;cases e;exact new
 ·rw[eY hb]at e
  exact(x b u e).md (λc v _ q=>k c v q) (λc q=>by rw[eY (lT q hn)];exact q) λc xs q=>by rw[eY (lT q hn)];exact q
end
def Rd(H:Hp)(a:we)(u:HO):Prop:=H a=some u \/ ∃o,H a=some (.gT o u)
theorem Rd.ok{P:wK}{w:wO}{H:Hp}{h:wJ}{a:we}{u:HO}(r:Rd H a u)(x:dR P w H h):d8 P w H h a u:=by
 rcases r with r | ⟨o,r⟩
 ·exact x a u r
 ·obtain⟨_,q⟩:=x a _ r
  exact q
def z_:Option HO->Prop
 | some (.lst _)=>True
 | some (.dK _)=>True
 | some (.dT _)=>True
 | some (.set _ _)=>True
 | some (.ins _ _ _)=>True
 | some (.ext _)=>True
 | _=>False
section
variable{P:wK}{w:wO}{H:Hp}{h h':wJ}{x e:we}{o':HO}
theorem dR.write(ok:dR P w H h)(mu:z_ (H x))(he:e=x\/H e=some (.own x))(k:∀b u,b≠e->h.get? b=some u->h'.get? b=some u)(heo:∃u,h'.get? e=some u)
  (new:d8 P w (upd H x o') h' x o'):dR P w (upd H x o') h':=λb u q=>by
 have nown:∀c y,H c=some (.own y)->c≠x:=λc y r z=>by subst z;rw[r]at mu;exact mu
 have ntup:∀c xs,H c=some (.tup xs)->c≠x:=λc xs r z=>by subst z;rw[r]at mu;exact mu
 by_cases hb:b=x
 ·subst hb;rw[dk]at q;cases q;exact new
 ·rw[eY hb]at q
  by_cases hbe:b=e
  ·have q':H b=some (.own x):=by
    rcases he with z | z
    ·exact absurd (hbe.trans z) hb
    ·rw[hbe];exact z
   rw[q]at q';cases q';obtain⟨v,hv⟩:=heo;exact⟨v,by rw[hbe];exact hv⟩
  ·refine(ok b u q).md (λc v hc r=>k c v ?_ r) (λc r=>by rw[eY (nown c b r)];exact r) λc xs r=>by rw[eY (ntup c xs r)];exact r
   rcases hc with rfl | hc
   ·exact hbe
   ·rintro rfl
    rcases he with z | z
    ·exact nown c b hc z
    ·rw[hc]at z;cases z;exact hb rfl
end
structure Un(fs ex:.bp)(H H':Hp)(h h':wJ):Prop where
 keep:∀b o,h.get? b=some o->H b=none->b ∉ fs->b ∉ ex->h'.get? b=some o
 slot:∀b o,h.get? b=some o->H b=none->b∈fs->b ∉ ex->∃sl,h'.get? b=some {o with slots:=sl}
 free:∀b o,h.get? b=some o->H b=none->b ∉ ex->H' b=none
 there:∀b o,h.get? b=some o->b ∉ ex->∃o',h'.get? b=some o'
 jw:∀b xs,H b=some (.tup xs)->H' b=some (.tup xs)
 iV:∀b o u,H b=some (.gT o u)->H' b=some (.gT o u)
 jx:∀b ps,H b=some (.mY ps)->∃more,H' b=some (.mY (ps++more))
section
variable{fs fs' ex ex':.bp}{H H1 H2:Hp}{h h1 h2 h':wJ}{a x e:we}{o:HO}
theorem Un.any(u:Un fs ex H H1 h h1){b:we}{ob:Obj}(q:h.get? b=some ob)(n:H b=none)(hx:b ∉ ex):∃sl,h1.get? b=some {ob with slots:=sl}:=by
 by_cases hb:b∈fs
 ·exact u.slot b ob q n hb hx
 ·exact⟨ob.slots,u.keep b ob q n hb hx⟩
theorem Un.kept(k:∀b u,h.get? b=some u->h'.get? b=some u):Un fs ex H H h h' :=
 ⟨λb ob q _ _ _=>k b ob q,λb ob q _ _ _=>⟨ob.slots,k b ob q⟩,λ_ _ _ n _=>n,λb ob q _=>⟨ob,k b ob q⟩,λ_ _ q=>q,λ_ _ _ q=>q,λ_ ps q=>⟨#[],by rw[q];simp⟩⟩
theorem Un.refl:Un fs ex H H h h:=Un.kept λ_ _ q=>q
theorem Un.laid(k:∀b u,h.get? b=some u->h'.get? b=some u)(hp:h.objs.size<=a)(hn:H a=none):Un fs ex H (upd H a o) h h' where
 keep:=λb u q _ _ _=>k b u q
 slot:=λb u q _ _ _=>⟨u.slots,k b u q⟩
 free:=λb u q n _=>by rw[eY (wT (wW (wF q) hp))];exact n
 there:=λb u q _=>⟨u,k b u q⟩
 jw:=λb xs q=>by rw[eY (lT q hn)];exact q
 iV:=λb u xs q=>by rw[eY (lT q hn)];exact q
 jx:=λb ps q=>⟨#[],by rw[eY (lT q hn),q];simp⟩
theorem Un.write(mu:z_ (H x))(he:e=x\/H e=some (.own x))(k:∀b u,b≠e->h.get? b=some u->h'.get? b=some u)(heo:∃u,h'.get? e=some u):Un fs ex H (upd H x o) h h':=by
 have hx:∀b,H b=none->b≠x:=λb n z=>by subst z;rw[n]at mu;exact mu
 have hb:∀b,H b=none->b≠e:=λb n z=>by
  subst z;rcases he with r | r
  ·exact hx b n r
  ·rw[n]at r;cases r
 have hm:∀b u,H b=some u->¬ z_ (some u)->b≠x:=λb u q nm z=>by subst z;rw[q]at mu;exact nm mu
 refine⟨λb u q n _ _=>k b u (hb b n) q,λb u q n _ _=>⟨u.slots,k b u (hb b n) q⟩,λb u q n _=>by rw[eY (hx b n)];exact n,λb u q _=>?_,
  λb xs q=>by rw[eY (hm b _ q λz=>z)];exact q,λb u xs q=>by rw[eY (hm b _ q λz=>z)];exact q,λb ps q=>⟨#[],by rw[eY (hm b _ q λz=>z),q];simp⟩⟩
 by_cases hbe:b=e
 ·subst hbe;exact heo
 ·exact⟨u,k b u hbe q⟩
end
def jM(h:wJ)(H:Hp):List we:=(wp h.objs.size).filter λa=>(H a).isSome
def lB(h:wJ)(H:Hp):wJ:=uM h (jM h H)
theorem zy8(h:wJ)(H:Hp):(lB h H).objs.size=h.objs.size:=PySem.W.hideAll_size _ _
theorem zAB{h:wJ}{H:Hp}{b:we}{o:Obj}(e:h.get? b=some o)(n:H b=none):(lB h H).get? b=some o :=
 Xz _ e λhm=>by
  have q:(H b).isSome=true:=(wZ.mp hm).2;rw[n]at q;simp at q
theorem zDo{h:wJ}{H:Hp}{b:we}{o:Obj}(e:(lB h H).get? b=some o):h.get? b=some o/\H b=none:=by
 have e':h.get? b=some o:=XJ (jM h H) e;refine⟨e',?_⟩;cases q:H b with
 | none=>rfl
 | some x =>
  have hm:b∈jM h H:=wZ.mpr ⟨wH.mpr (wF e'),by simp[q]⟩;have z:(lB h H).get? b=none:=PySem.W.hideAll_none (jM h H) hm;rw[z]at e;cases e
def zDz(g h:wJ)(L:we):List (we × Obj):=(wp h.objs.size).filterMap λa=>if a=L\/(g.get? a).isSome=true then none else(h.get? a).map λo=>(a,o)
def dM(g h:wJ)(L d:we):List (we × Obj):=(zDz g h L).filter λp=>decide (p.1≠d)
structure Mod(K:wa)(mg:.I)(base:wJ):Prop where
 tD:K.In base
 glob:base.Ns wU mg
 blt:∃mb,base.Ns builtinsNs mb /\ ∀x:Str,x≠"__name__" -> mb x=vL x
 nolimit:base.NoLimit
structure Cx where
 prog:wK
 w:wO
 K:wa
 mg:Str->Option wf
 base:wJ
 A:vg
 N:List Str
 s₀ : wm
 H₀ : Hp
 env:Env
 outer:List Env
 stack:List Env
 ex:List we
 fn:Str->Bool
 calm:Bool
 pn:List (we × Obj)
 xe:wf->wm->Prop
def eH(l:.bj):List we:=l.filterMap (·.frame)
abbrev Cx.fs(X:Cx):List we:=eH X.outer
def tQ(sc:Scope)(x:Str):Prop:=sc.names.lookup x=some .local\/sc.names.lookup x=some .cell\/sc.names.lookup x=some .free
def Loc(sc:Scope)(x:Str):Prop:=sc.names.lookup x=some .local\/sc.names.lookup x=some .cell
def zHj(env:Env)(h:wJ)(m:.I)(x:Str)(u:wf):Prop :=
 (env.kindOf x=some .local/\m x=some u)\/((env.kindOf x=some .cell\/env.kindOf x=some .free) /\ ∃c,env.cells.lookup x=some c/\h.IsCell c (some u))
structure Cx.Ok(X:Cx):Prop where
 mod:Mod X.K X.mg X.base
 kind:X.env.scope.kind=.function
 glob:X.env.globals=wU
 blt:X.env.builtins=builtinsNs
 above:X.s₀.heap.objs.size<=X.env.locals
 inj:∀x y c,X.env.cells.lookup x=some c->X.env.cells.lookup y=some c->x=y
 has:∀x,(X.env.kindOf x=some .cell\/X.env.kindOf x=some .free)->∃c,X.env.cells.lookup x=some c
 mI:∀x c,X.fn x=true->X.env.cells.lookup x=some c->X.s₀.heap.objs.size<=c
 hd:X.calm=true->X.A.handled=none
 frames:X.A.frames=some X.stack
 nV:X.stack=X.outer\/(X.stack=X.env::X.outer/\X.env.frame=some X.env.locals)
 sP:∀b∈X.ex,b≠X.env.locals /\ ∀x c,X.env.cells.lookup x=some c->c≠b
 bs:∀b o,X.base.get? b=some o->X.s₀.heap.get? b=some o/\X.H₀ b=none
 jJ:X.base.objs.size<=X.s₀.heap.objs.size
 me:∀b o,X.base.get? b=some o->b ∉ X.ex
 ng:∀b∈X.ex,b ∉ X.fs
 fH:X.s₀.heap.FunFrames X.base X.outer
 kz:∀b∈X.fs,X.H₀ b=none
structure Inv(X:Cx)(pins:.l)(σ : List (Option V))(H:Hp)(s:wm):Prop where
 ok:X.Ok
 os:s.os=X.s₀.os
 bare:AllBare s.gens
 base:Un X.fs X.ex X.H₀ H X.s₀.heap s.heap
 loc:∃m,s.heap.Ns X.env.locals m /\ ∀(i:Nat)(x:Str)(v:V),X.N[i]? = some x -> σ[i]? = some (some v)->tQ X.env.scope x->∃u,bK v u/\zHj X.env s.heap m x u
 cell:∀x c,X.env.cells.lookup x=some c->∃v,s.heap.IsCell c v
 free:H X.env.locals=none
 gK:∀x c,X.env.cells.lookup x=some c->H c=none
 pin:∀p∈X.pn++pins,s.heap.get? p.1=some p.2/\H p.1=none/\p.1≠X.env.locals/\p.1 ∉ X.fs /\ ∀v,p.2.data≠.cell v
 aO:dR X.prog X.w H s.heap
 len : σ.length=X.N.length
section
variable{X:Cx}{pins:.l}{σ : List (Option V)}{H H':Hp}{s:wm}{h':wJ}
variable{i t':Nat}{ch:.bp}{x:Str}
theorem Cx.Ok.aaO(ok:X.Ok){b:we}{o:Obj}(e:X.base.get? b=some o):b ∉ X.fs:=λhb=>by
 have:=(ok.fH.mem hb).1;rw[e]at this;cases this
theorem Inv.bs(I:.n):∀b o,X.base.get? b=some o->s.heap.get? b=some o/\H b=none:=λb o e =>
 ⟨I.base.keep b o (I.ok.bs b o e).1 (I.ok.bs b o e).2 (I.ok.aaO e) (I.ok.me b o e),I.base.free b o (I.ok.bs b o e).1 (I.ok.bs b o e).2 (I.ok.me b o e)⟩
theorem Inv.bk(I:.n):∀b o,X.base.get? b=some o->s.heap.get? b=some o:=λb o e=>(I.bs b o e).1
theorem Inv.mod(I:.n):Mod X.K X.mg X.base:=I.ok.mod
theorem Inv.eF(I:.n):X.K.In s.heap:=I.ok.mod.tD.keeps I.bk
theorem Inv.lt(I:.n):X.env.locals<s.heap.objs.size:=let ⟨_,hn,_⟩:=I.loc;hn.lt
theorem Inv.sz(I:.n):X.s₀.heap.objs.size<=s.heap.objs.size:=Wb I.ok.above (WH I.lt)
theorem Inv.aaL(I:.n){a:we}(h:s.heap.objs.size<=a):a ∉ X.fs:=λhb=>by
 obtain⟨_,o,ho,_⟩:=I.ok.fH.mem hb;exact absurd (wW (wF ho) (Wb I.sz h)) (Vp _)
theorem Inv.ml(I:.n):∀x c,X.env.cells.lookup x=some c->c≠X.env.locals:=λx c e z=>by
 obtain⟨v,o,ho,hd⟩:=I.cell x c e;obtain⟨m,⟨o',es,ep,ho',hd',_⟩,_⟩:=I.loc;rw[z,ho']at ho;cases ho;rw[hd']at hd;cases hd
theorem Inv.fH(I:.n):s.heap.FunFrames X.base X.outer:=by
 have all:∀(l:.bj),(∀b∈eH l,b∈X.fs)->X.s₀.heap.FunFrames X.base l->s.heap.FunFrames X.base l:=by
  intro l
  induction l with
  | nil=>intro _ _;trivial
  | cons env r ih =>
   intro hs hl;obtain⟨hk,⟨L,o,hf,hn,ho,hd⟩,hr⟩:=hl;have hL:L∈X.fs:=hs L (by unfold eH;rw[QW,hf];exact wz);obtain⟨sl,e⟩:=I.base.slot L o ho (I.ok.kz L hL) hL λz=>I.ok.ng L z hL
   exact⟨hk,⟨L,_,hf,hn,e,hd⟩,ih (λb hb=>hs b (by unfold eH;rw[QW,hf];exact wt _ hb)) hr⟩
 exact all X.outer (λ_ hb=>hb) I.ok.fH
theorem Inv.stack(I:.n):s.heap.FunFrames X.base X.stack:=by
 rcases I.ok.nV with e | ⟨e,hf⟩
 ·rw[e];exact I.fH
 ·rw[e]
  obtain⟨m,hn,_⟩:=I.loc;refine .cons (by rw[I.ok.kind];decide) hf hn ?_ I.fH;exact Heap.get?_none_of_le (Wb I.ok.jJ I.ok.above)
theorem Inv.oI(I:.n):∀b∈eH X.stack,b∈X.env.locals::X.fs:=λb hb=>by
 rcases I.ok.nV with e | ⟨e,hf⟩
 ·rw[e]at hb;exact wt _ hb
 ·rw[e]at hb
  unfold eH at hb;rw[QW,hf]at hb;exact hb
theorem Inv.yG(I:.n):∀b∈eH X.stack,H b=none:=λb hb=>by
 rcases wG.mp (I.oI b hb)with e | hb
 ·rw[e];exact I.free
 ·obtain⟨_,o,ho,_⟩:=I.ok.fH.mem hb
  exact I.base.free b o ho (I.ok.kz b hb) λz=>I.ok.ng b z hb
theorem Inv.step{g':Array GenState}{d':Drawn}(I:.n)
  (hch:∀b∈ch,(b∈X.ex\/X.s₀.heap.objs.size<=b)/\b≠X.env.locals/\(∀x c,X.env.cells.lookup x=some c->c≠b) /\ ∀p∈X.pn++pins,p.1≠b)
  (keep:∀b o,b≠X.env.locals->b ∉ X.fs->b ∉ ch->s.heap.get? b=some o->H b=none->h'.get? b=some o)
  (slot:∀b o,b≠X.env.locals->b∈X.fs->b ∉ ch->s.heap.get? b=some o->H b=none->∃sl,h'.get? b=some {o with slots:=sl}) (free:∀b o,b ∉ ch->s.heap.get? b=some o->H b=none->H' b=none)
  (there:∀b o,b ∉ ch->s.heap.get? b=some o->∃o',h'.get? b=some o')
  (jw:∀b xs,H b=some (.tup xs)->H' b=some (.tup xs)) (iV:∀b o u,H b=some (.gT o u)->H' b=some (.gT o u)) (jx:∀b ps,H b=some (.mY ps)->∃more,H' b=some (.mY (ps++more)))
  (ns:∀m,s.heap.Ns X.env.locals m->h'.Ns X.env.locals m) (aO:dR X.prog X.w H' h') (hg:AllBare g') :
  Inv X pins σ H' {s with heap:=h',gens:=g',drawn:=d',toks:=t'}:=by
 have neL:∀b o,X.s₀.heap.get? b=some o->b≠X.env.locals:=λb o e=>wT (wW (wF e) I.ok.above)
 have neC:∀b o,X.s₀.heap.get? b=some o->b ∉ X.ex->b ∉ ch:=λb o e hx hb=>by
  rcases (hch b hb).1 with z | z
  ·exact hx z
  ·exact absurd (wW (wF e) z) (Vp _)
 have cellK:∀x c,X.env.cells.lookup x=some c->∀v,s.heap.IsCell c v->h'.IsCell c v:=λx c e v ⟨o,ho,hd⟩=>by
  have nch:c ∉ ch:=λz=>(hch c z).2.2.1 x c e rfl
  by_cases hc:c∈X.fs
  ·obtain⟨sl,q⟩:=slot c o (I.ml x c e) hc nch ho (I.gK x c e)
   exact⟨_,q,hd⟩
  ·exact⟨o,keep c o (I.ml x c e) hc nch ho (I.gK x c e),hd⟩
 refine⟨I.ok,I.os,hg,⟨λb o e n hb hx=>?_,λb o e n hb hx=>?_,λb o e n hx=>?_,λb o e hx=>?_,λb xs e=>jw b xs (I.base.jw b xs e),λb o xs e=>iV b o xs (I.base.iV b o xs e),λb ps e=>?_⟩,?_,λx c e=>?_,?_,λx c e=>?_,λp hp=>?_,aO,I.len⟩
 ·exact keep b o (neL b o e) hb (neC b o e hx) (I.base.keep b o e n hb hx) (I.base.free b o e n hx)
 ·obtain⟨sl,e1⟩:=I.base.slot b o e n hb hx
  obtain⟨sl',e2⟩:=slot b _ (neL b o e) hb (neC b o e hx) e1 (I.base.free b o e n hx);exact⟨sl',e2⟩
 ·obtain⟨o',e1⟩:=I.base.there b o e hx
  exact free b o' (neC b o e hx) e1 (I.base.free b o e n hx)
 ·obtain⟨o',e1⟩:=I.base.there b o e hx
  exact there b o' (neC b o e hx) e1
 ·obtain⟨m1,e1⟩:=I.base.jx b ps e
  obtain⟨m2,e2⟩:=jx b _ e1;exact⟨m1++m2,by rw[e2,XM]⟩
 ·obtain⟨m,hn,hl⟩:=I.loc
  refine⟨m,ns m hn,λi x v e1 e2 e3=>?_⟩;obtain⟨u,r,l⟩:=hl i x v e1 e2 e3;refine⟨u,r,?_⟩;rcases l with l | ⟨k,c,e,z⟩
  ·exact .inl l
  ·exact .inr ⟨k,c,e,cellK x c e _ z⟩
 ·obtain⟨v,z⟩:=I.cell x c e
  exact⟨v,cellK x c e v z⟩
 ·obtain⟨m,⟨o,_,_,ho,_⟩,_⟩:=I.loc
  exact free _ o (λz=>(hch _ z).2.1 rfl) ho I.free
 ·obtain⟨v,o,ho,hd⟩:=I.cell x c e
  exact free c o (λz=>(hch c z).2.2.1 x c e rfl) ho (I.gK x c e)
 ·obtain⟨e,n,ne,nf,d⟩:=I.pin p hp
  have nch:p.1 ∉ ch:=λz=>(hch p.1 z).2.2.2 p hp rfl
  exact⟨keep p.1 p.2 ne nf nch e n,free p.1 p.2 nch e n,ne,nf,d⟩
theorem Inv.un(I:.n)(u:Un X.fs [] H H' s.heap h')(aO:dR X.prog X.w H' h'):Inv X pins σ H' {s with heap:=h',toks:=t'}:=by
 obtain⟨m,⟨o,es,ep,ho,r⟩,_⟩:=id I.loc;obtain⟨sl,hL⟩:=u.any ho I.free .u
 exact I.step (g':=s.gens) (d':=s.drawn) (ch:=[]) (λ_ z=>nomatch z) (λb o _ hb _ e n=>u.keep b o e n hb .u) (λb o _ hb _ e n=>u.slot b o e n hb .u) (λb o _ e n=>u.free b o e n .u) (λb o _ e=>u.there b o e .u) u.jw u.iV u.jx (λm' hm=>by
  obtain⟨o',es',ep',ho',r'⟩:=hm;rw[ho]at ho';cases ho';exact⟨_,es',ep',hL,r'⟩) aO I.bare
theorem Inv.call{g':Array GenState}{d':Drawn}(I:.n)(u:Un (eH X.stack) ch H H' s.heap h')(aO:dR X.prog X.w H' h')(hg:AllBare g')
  (hch:∀b∈ch,(b∈X.ex\/X.s₀.heap.objs.size<=b)/\b≠X.env.locals/\(∀x c,X.env.cells.lookup x=some c->c≠b) /\ ∀p∈X.pn++pins,p.1≠b) :
  Inv X pins σ H' {s with heap:=h',gens:=g',drawn:=d',toks:=t'}:=by
 obtain⟨m,⟨o,es,ep,ho,r⟩,_⟩:=id I.loc;obtain⟨sl,hL⟩:=u.any ho I.free λz=>(hch _ z).2.1 rfl
 exact I.step (ch:=ch) hch (λb o hL hb hc e n=>u.keep b o e n (λz=>(wG.mp (I.oI b z)).elim hL hb) hc) (λb o _ _ hc e n=>u.any e n hc) (λb o hc e n=>u.free b o e n hc) (λb o hc e=>u.there b o e hc) u.jw u.iV u.jx (λm' hm=>by
  obtain⟨o',es',ep',ho',r'⟩:=hm;rw[ho]at ho';cases ho';exact⟨_,es',ep',hL,r'⟩) aO hg
theorem Inv.turned{it:we}(I:.n)(k:∀b o,b≠it->s.heap.get? b=some o->h'.get? b=some o)(hn:H it=none)(hL:it≠X.env.locals)
  (h1:it∈X.ex\/X.s₀.heap.objs.size<=it) (h2:∀x c,X.env.cells.lookup x=some c->c≠it) (h3:∀p∈X.pn++pins,p.1≠it):Inv X pins σ H {s with heap:=h',toks:=t'}:=by
 have nit:∀b u,H b=some u->b≠it:=λb u e z=>by rw[z,hn]at e;cases e
 refine I.step (g':=s.gens) (d':=s.drawn) (ch:=[it]) (λb hb=>?_) (λb o _ _ hc e _=>k b o (λz=>hc (by simp[z])) e) (λb o _ _ hc e _=>⟨o.slots,k b o (λz=>hc (by simp[z])) e⟩) (λ_ _ _ _ n=>n)
  (λb o hc e=>⟨o,k b o (λz=>hc (by simp[z])) e⟩) (λ_ _ e=>e) (λ_ _ _ e=>e) (λb ps e=>⟨#[],by rw[e];simp⟩) (λm hm=>?_) (λb u e=>?_) I.bare
 ·have e:b=it:=by simpa using hb
  subst e;exact⟨h1,hL,h2,h3⟩
 ·obtain⟨o,es,ep,ho,r⟩:=hm
  exact⟨o,es,ep,k _ o (WI hL) ho,r⟩
 ·refine(I.aO b u e).md (λc v hc q=>k c v ?_ q) (λ_ q=>q) λ_ _ q=>q
  rcases hc with z | z
  ·rw[z];exact nit b u e
  ·exact nit c _ z
theorem Inv.tok(I:.n)(t:Nat):Inv X pins σ H {s with toks:=t}:=I.un (h':=s.heap) (t':=t) Un.refl I.aO
theorem Inv.kept(I:.n)(k:∀b u,s.heap.get? b=some u->h'.get? b=some u):Inv X pins σ H {s with heap:=h',toks:=t'}:=I.un (Un.kept k) (I.aO.kept k)
theorem Inv.laid{a:we}{o:HO}(I:.n)(k:∀b u,s.heap.get? b=some u->h'.get? b=some u)(hp:s.heap.objs.size<=a)(new:d8 X.prog X.w (upd H a o) h' a o) :
  Inv X pins σ (upd H a o) {s with heap:=h',toks:=t'}:=I.un (Un.laid k hp (I.aO.fresh hp)) (I.aO.laid k hp new)
theorem Inv.write{x e:we}{o:HO}(I:.n)(mu:z_ (H x))(he:e=x\/H e=some (.own x))(k:∀b u,b≠e->s.heap.get? b=some u->h'.get? b=some u)(heo:∃u,h'.get? e=some u)
  (new:d8 X.prog X.w (upd H x o) h' x o):Inv X pins σ (upd H x o) {s with heap:=h',toks:=t'}:=I.un (Un.write mu he k heo) (I.aO.write mu he k heo new)
theorem Inv.M0{pins':.l}(I:.n)(h:∀p∈pins',s.heap.get? p.1=some p.2/\H p.1=none/\p.1≠X.env.locals/\p.1 ∉ X.fs /\ ∀v,p.2.data≠.cell v):Inv X pins' σ H s :=
 ⟨I.ok,I.os,I.bare,I.base,I.loc,I.cell,I.free,I.gK,λp hp=>(Wc.mp hp).elim (λz=>I.pin p (V3 _ z)) (h p),I.aO,I.len⟩
theorem SW{N:.Q}(hN:N.Nodup){j:Nat}(a:N[i]? = some x)(b:N[j]? = some x):i=j:=by
 obtain⟨h1,e1⟩:=WZ.mp a;obtain⟨h2,e2⟩:=WZ.mp b;exact(List.getElem_inj hN).mp (e1.trans e2.symm)
theorem PD{M:Model}{A:vg}{E:.m}{v:V}{u:wf}{Q:Unit->wm->Prop}(I:.n)(hN:X.N.Nodup)(hi:X.N[i]? = some x)(hx:Loc X.env.scope x)(r:bK v u)
  (h:∀s',Inv X pins (σ.set i (some v)) H s'->(∃a,vB a s.heap s'.heap/\(a=X.env.locals\/X.env.cells.lookup x=some a))->Q () s') (hf:X.fn x=true\/X.env.scope.names.lookup x=some .local:=by first | exact .inl rfl | exact .inr rfl | assumption):wx M A (storeName X.env x u) Q E s:=by
 obtain⟨m,hn,hl⟩:=id I.loc;have hcls:(X.env.scope.kind == .class || (X.env.scope.kind == .module&&X.env.locals != X.env.globals))=false:=by rw[I.ok.kind];rfl
 have hiσ : i < σ.length:=by rw[I.len];exact(WZ.mp hi).1
 have ml:=I.ml
 have tracked:∀{a:we}{h':wJ},(∃o,s.heap.get? a=some o/\H a=none)->vB a s.heap h'->dR X.prog X.w H h':=λ{a h'} ha hs b ob e=>by
  obtain⟨_,_,hfree⟩:=ha;refine(I.aO b ob e).md (λc w' hc q=>(hs.2 c ?_).trans q) (λ_ q=>q) λ_ _ q=>q
  rintro rfl;rcases hc with rfl | hc
  ·rw[hfree]at e;cases e
  ·rw[hfree]at hc;cases hc
 rcases hx with hk | hk
 ·refine wpAny_storeName_local hk hn (λh' hn' hs=>?_) hcls
  obtain⟨oL,_,_,hoL,_⟩:=id hn;refine h _ ⟨I.ok,I.os,I.bare,⟨λb o e n hb hx=>?_,λb o e n hb hx=>?_,I.base.free,λb o e hx=>?_,I.base.jw,I.base.iV,I.base.jx⟩,⟨_,hn',λj y v' e1 e2 e3=>?_⟩,λy c e=>?_,I.free,I.gK,λp hp=>?_,tracked ⟨oL,hoL,I.free⟩ hs,by simpa using I.len⟩ ⟨_,hs,.inl rfl⟩
  ·exact(hs.2 b (wT (wW (wF e) I.ok.above))).trans (I.base.keep b o e n hb hx)
  ·obtain⟨sl,e1⟩:=I.base.slot b o e n hb hx
   exact⟨sl,(hs.2 b (wT (wW (wF e) I.ok.above))).trans e1⟩
  ·obtain⟨o',e1⟩:=I.base.there b o e hx
   exact⟨o',(hs.2 b (wT (wW (wF e) I.ok.above))).trans e1⟩
  ·by_cases hj:j=i
   ·subst hj
    rw[hi]at e1;cases e1;rw[xR hiσ]at e2;cases e2;exact⟨u,r,.inl ⟨hk,by simp⟩⟩
   ·rw[Xl (WI hj)]at e2
    obtain⟨u',r',q⟩:=hl j y v' e1 e2 e3;refine⟨u',r',?_⟩;rcases q with⟨k,e⟩ | ⟨k,c,e,z⟩
    ·refine .inl ⟨k,?_⟩
     have:y≠x:=λe=>hj (SW hN e1 (e ▸ hi))
     simp[this,e]
    ·exact .inr ⟨k,c,e,z.sameBut hs (ml y c e)⟩
  ·obtain⟨w',z⟩:=I.cell y c e
   exact⟨w',z.sameBut hs (ml y c e)⟩
  ·obtain⟨e,n,ne,nf,d⟩:=I.pin p hp
   exact⟨(hs.2 p.1 ne).trans e,n,ne,nf,d⟩
 ·have hfn:X.fn x=true:=by
   rcases hf with z | z
   ·exact z
   ·rw[z]at hk;cases hk
  obtain⟨c,hc⟩:=I.ok.has x (.inl hk);obtain⟨w',z⟩:=I.cell x c hc;refine wpAny_storeName_cell I.ok.kind hk hc z (λh' hc' hs=>?_);obtain⟨oc,hoc,hocd⟩:=id z;refine h {s with heap:=h'} ⟨I.ok,I.os,I.bare,⟨λb o e n hb hx=>?_,λb o e n hb hx=>?_,I.base.free,λb o e hx=>?_,I.base.jw,I.base.iV,I.base.jx⟩,⟨m,hn.sameBut hs (WI (ml x c hc)),λj y v' e1 e2 e3=>?_⟩,λy c' e=>?_,I.free,I.gK,λp hp=>?_,tracked ⟨oc,hoc,I.gK x c hc⟩ hs,by simpa using I.len⟩ ⟨c,hs,.inr hc⟩
  ·exact(hs.2 b (wT (wW (wF e) (I.ok.mI x c hfn hc)))).trans (I.base.keep b o e n hb hx)
  ·obtain⟨sl,e1⟩:=I.base.slot b o e n hb hx
   exact⟨sl,(hs.2 b (wT (wW (wF e) (I.ok.mI x c hfn hc)))).trans e1⟩
  ·obtain⟨o',e1⟩:=I.base.there b o e hx
   exact⟨o',(hs.2 b (wT (wW (wF e) (I.ok.mI x c hfn hc)))).trans e1⟩
  ·by_cases hj:j=i
   ·subst hj
    rw[hi]at e1;cases e1;rw[xR hiσ]at e2;cases e2;exact⟨u,r,.inr ⟨.inl hk,c,hc,hc'⟩⟩
   ·rw[Xl (WI hj)]at e2
    obtain⟨u',r',q⟩:=hl j y v' e1 e2 e3;refine⟨u',r',?_⟩;rcases q with q | ⟨k,c',e,z'⟩
    ·exact .inl q
    ·refine .inr ⟨k,c',e,z'.sameBut hs ?_⟩
     rintro rfl;exact hj (SW hN e1 (I.ok.inj _ _ _ e hc ▸ hi))
  ·by_cases hcc:c'=c
   ·subst hcc;exact⟨_,hc'⟩
   ·obtain⟨w2,z2⟩:=I.cell y c' e
    exact⟨w2,z2.sameBut hs hcc⟩
  ·obtain⟨e,n,ne,nf,d⟩:=I.pin p hp
   refine⟨(hs.2 p.1 ?_).trans e,n,ne,nf,d⟩;intro q;rw[q,hoc]at e;have q':oc=p.2:=wI e;exact d w' (by rw[<- q'];exact hocd)
theorem tP{M:Model}{A:vg}{E:.m}{v:V}{u:wf}{Q:Unit->wm->Prop}(I:.n)(hN:X.N.Nodup)(hi:X.N[i]? = some x)(hx:Loc X.env.scope x)(r:bK v u)
  (h:∀s',Inv X pins (σ.set i (some v)) H s'->Q () s') (hf:X.fn x=true\/X.env.scope.names.lookup x=some .local:=by first | exact .inl rfl | exact .inr rfl | assumption):wx M A (storeName X.env x u) Q E s :=
 PD I hN hi hx r (λs' I' _=>h s' I') hf
theorem Inv.Nk{s':wm}(I:.n)(ho:s'.os=s.os)(u:Un (eH X.stack) ch H H' s.heap s'.heap)(aO:dR X.prog X.w H' s'.heap)(hg:AllBare s'.gens)
  (hch:∀b∈ch,(b∈X.ex\/X.s₀.heap.objs.size<=b)/\b≠X.env.locals/\(∀x c,X.env.cells.lookup x=some c->c≠b) /\ ∀p∈X.pn++pins,p.1≠b):Inv X pins σ H' s':=by
 obtain⟨h',g',d',t',o'⟩:=s';have e:o'=s.os:=ho;subst e;exact I.call (g':=g') (t':=t') (d':=d') u aO hg hch
end
abbrev XK:=wf->Option we->Hp->Prop
abbrev St:=List (Option V)
abbrev VK:=V->Hp->Prop
abbrev TE:=St->Hp->VK->Prop
abbrev TT:=St->Hp->(Bool->Hp->Prop)->Prop
abbrev TA:=St->Hp->(List V->Hp->Prop)->Prop
structure c_ where
 nx:St->Hp->Prop
 rt:VK
 bk:St->Hp->Prop:=λ_ _=>False
 ct:St->Hp->Prop:=λ_ _=>False
abbrev TS:=c_->St->Hp->Prop
def EP(X:Cx)(pins:.l)(σ : St)(Q:VK)(u:wf)(s':wm):Prop:=∃v H',Inv X pins σ H' s'/\bK v u/\Q v H'
def TP(X:Cx)(pins:.l)(σ : St)(Q:Bool->Hp->Prop)(b:Bool)(s':wm):Prop:=∃H',Inv X pins σ H' s'/\Q b H'
def AP(X:Cx)(pins:.l)(σ : St)(Q:List V->Hp->Prop)(us:.J)(s':wm):Prop:=∃vs H',Inv X pins σ H' s'/\aU vs us/\Q vs H'
def SP(X:Cx)(pins:.l)(D:c_)(f:Flow)(s':wm):Prop :=
 match f with
 | .next=>∃σ' H',Inv X pins σ' H' s'/\D.nx σ' H'
 | .brk=>∃σ' H',Inv X pins σ' H' s'/\D.bk σ' H'
 | .cont=>∃σ' H',Inv X pins σ' H' s'/\D.ct σ' H'
 | .ret u=>∃v σ' H',Inv X pins σ' H' s'/\bK v u/\D.rt v H'
def PE(X:Cx)(e:Expr)(t:TE):Prop :=
 ∀(pins:.l)(s:wm)(σ : St)(H:Hp)(Q:VK),Inv X pins σ H s->t σ H Q->wx .o X.A (eval e X.env) (EP X pins σ Q) X.xe s
def PT(X:Cx)(e:Expr)(t:TT):Prop :=
 ∀(pins:.l)(s:wm)(σ : St)(H:Hp)(Q:Bool->Hp->Prop),Inv X pins σ H s->t σ H Q->wx .o X.A (isTrue e X.env (eval e X.env)) (TP X pins σ Q) X.xe s
def PW(X:Cx)(e:Expr)(t:TT):Prop :=
 ∀(whole:Sem wf)(pins:.l)(s:wm)(σ : St)(H:Hp)(Q:Bool->Hp->Prop),Inv X pins σ H s->t σ H Q->wx .o X.A (isTrue e X.env whole) (TP X pins σ Q) X.xe s
theorem PW.pt{X:Cx}{e:Expr}{t:TT}(h:PW X e t):PT X e t:=h _
def PA(X:Cx)(es:.ak)(t:TA):Prop :=
 ∀(pos:Pos)(pins:.l)(s:wm)(σ : St)(H:Hp)(Q:List V->Hp->Prop),Inv X pins σ H s->t σ H Q->wx .o X.A (spliced (V1 pos (wY es X.env))) (AP X pins σ Q) X.xe s
def PS(X:Cx)(st:w6)(t:TS):Prop :=
 ∀(pins:.l)(s:wm)(σ : St)(H:Hp)(D:c_),Inv X pins σ H s->t D σ H->wx .o X.A (exec st X.env) (SP X pins D) X.xe s
def fZ(X:Cx)(st:List w6)(t:TS):Prop :=
 ∀(pins:.l)(s:wm)(σ : St)(H:Hp)(D:c_),Inv X pins σ H s->t D σ H->wx .o X.A (execs st X.env) (SP X pins D) X.xe s
theorem aQ{α : Type}{t:Sem α}{Q Q' : α -> wm->Prop}{M:Model}{A:vg}{E:.m}{s:wm}(h:wx M A t Q E s)(hQ:∀a s,Q a s->Q' a s):wx M A t Q' E s:=WP h hQ λ_ _ x=>x
section
variable{X:Cx}
variable{x:Str}{u:wf}
def nV:St->Nat->(V->Prop)->Prop
 | [],_,_=>False
 | o::_,0,q=>(match o with|some v=>q v|none=>False)
 | _::σ,n+1,q=>nV σ n q
theorem nVe:∀{σ:St}{i:Nat}{q:V->Prop},nV σ i q->∃v,σ[i]? = some (some v)/\q v
 | some v::_,0,_,h=>⟨v,rfl,h⟩
 | none::_,0,_,h=>h.elim
 | _::σ,n+1,_,h=>nVe (σ:=σ) (i:=n) h
theorem nVo:∀{σ:St}{i:Nat}{q:V->Prop}{v:V},σ[i]? = some (some v)->q v->nV σ i q
 | _::_,0,_,_,h,k=>by cases h;exact k
 | _::σ,n+1,_,_,h,k=>nVo (σ:=σ) (i:=n) h k
def jd(i:Nat):TE:=λσ H Q=>nV σ i λv=>Q v H
def tC(v:V):TE:=λ_ H Q=>Q v H
theorem OP{i:Nat}{pos:Pos}(hN:X.N[i]? = some x)(hv:tQ X.env.scope x)(hd:.ay=false:=by decide)(hcd:(x == ("__classdict__" : Str))=false:=by decide):PE X (.Name x pos) (jd i):=by
 intro pins s σ H Q I h;obtain⟨v,e,h⟩:=nVe h;obtain⟨m,hn,hl⟩:=I.loc;obtain⟨u,r,l⟩:=hl i x v hN e hv;have fin:EP X pins σ Q u s:=⟨v,H,I,r,h⟩;rcases l with⟨hk,hm⟩ | ⟨hk,c,hc,hcell⟩
 ·exact wpAny_Name (wpAny_loadName_local I.ok.kind hk hn hm fin) hd
 ·rcases hk with hk | hk
  ·exact wpAny_Name (wpAny_loadName_cell I.ok.kind hk hc hcell fin) hd
  ·exact wpAny_Name (wpAny_loadName_free I.ok.kind hk hc hcell fin hcd) hd
theorem av{i j pos} : PE X (.Constant (.int i) j pos) (tC (.int i)):=λ_ _ _ H _ I h=>wpAny_Constant_int ⟨.int i,H,I.tok _,⟨_,rfl⟩,h⟩
theorem fe{b j pos} : PE X (.Constant (.bool b) j pos) (tC (.bl b)):=λ_ _ _ H _ I h=>Constant_bool ⟨.bl b,H,I,rfl,h⟩
theorem fS{j pos} : PE X (.Constant .none j pos) (tC .bE):=λ_ _ _ H _ I h=>Constant_none ⟨.bE,H,I,rfl,h⟩
theorem fJ{x j pos} : PE X (.Constant (.str x) j pos) (tC (.str x)):=λ_ _ _ H _ I h=>Calls.Constant_str ⟨.str x,H,I.tok _,⟨_,rfl⟩,h⟩
def Gl(X:Cx)(x:Str):Prop:=X.env.kindOf x=some .globalImplicit
theorem sN{E:.m}{pins:.l}{s:wm}{σ : St}{H:Hp}{pos:Pos}{Q:.m}(I:.n)(hg:Gl X x)(hm:X.mg x=some u)(h:Q u s)
  (hd:.ay=false:=by decide):wx .o X.A (eval (.Name x pos) X.env) Q E s :=
 xi I.ok.kind hg (Calls.loadGlobal_global (by rw[I.ok.glob];exact I.mod.glob.keeps I.bk) hm h) hd
theorem iL{E:.m}{pins:.l}{s:wm}{σ : St}{H:Hp}{pos:Pos}{Q:.m}(I:.n)(hg:Gl X x)(hm:X.mg x=none)(hv:vL x=some u)(h:Q u s)
  (hn:x≠"__name__":=by decide) (hd:.ay=false:=by decide):wx .o X.A (eval (.Name x pos) X.env) Q E s:=by
 obtain⟨mb,h1,h2⟩:=I.mod.blt;exact xi I.ok.kind hg (Calls.loadGlobal_builtin (by rw[I.ok.glob];exact I.mod.glob.keeps I.bk) hm (by rw[I.ok.blt];exact h1.keeps I.bk) ((h2 x hn).trans hv) h) hd
theorem ck{v:V}{pos:Pos}(hg:Gl X x)(hm:X.mg x=some u)(r:bK v u)(hd:.ay=false:=by decide):PE X (.Name x pos) (tC v) :=
 λ_ _ _ H _ I h=>sN I hg hm ⟨v,H,I,r,h⟩ hd
theorem jq{v:V}{pos:Pos}(hg:Gl X x)(hm:X.mg x=none)(hv:vL x=some u)(r:bK v u)(hn:x≠"__name__":=by decide)(hd:.ay=false:=by decide):PE X (.Name x pos) (tC v) :=
 λ_ _ _ H _ I h=>iL I hg hm hv ⟨v,H,I,r,h⟩ hn hd
def t2I(ta tb:TE)(k:Int->Int->Hp->Prop):St->Hp->Prop:=λσ H=>ta σ H λx H1=>tb σ H1 λy H2=>∃i j,x=.int i/\y=.int j/\k i j H2
variable{a b:Expr}{ta tb:TE}{pos:Pos}
def rq(p:Int->Int->Bool)(ta tb:TE):TE:=λσ H Q=>t2I ta tb (λi j H2=>Q (.bl (p i j)) H2) σ H
abbrev tLt:TE->TE->TE:=rq λi j=>decide (i<j)
abbrev tLe:TE->TE->TE:=rq λi j=>decide (i<=j)
abbrev tGt:TE->TE->TE:=rq λi j=>decide (j<i)
abbrev tGe:TE->TE->TE:=rq λi j=>decide (j<=i)
abbrev zHr:TE->TE->TE:=rq λi j=>decide (i=j)
abbrev zHq:TE->TE->TE:=rq λi j=>!decide (i=j)
def tB(t:TE):TT:=λσ H Q=>t σ H λx H1=>∃c,x=.bl c/\Q c H1
theorem cz{e:Expr}{t:TE}(h:PE X e t)(he:∀whole,isTrue e X.env whole=(do let v <- whole;standAt e.pos;holding [v] (truthy v)):=by intro _;rfl):PT X e (tB t):=by
 intro pins s σ H Q I hw;refine isTrue_plain (aQ (h pins s σ H _ I hw) λv s1 ⟨x,H1,I1,r1,q1⟩=>?_) (he _);obtain⟨d,rfl,q⟩:=q1;cases r1;exact Wx ⟨H1,I1,q⟩
variable{tA tB':TT}{dM:.ak}
def zGe(t u:TT):TT:=λσ H Q=>t σ H λc H1=>if c=true then u σ H1 Q else Q false H1
def Yj(t u:TT):TT:=λσ H Q=>t σ H λc H1=>if c=true then Q true H1 else u σ H1 Q
def NZ(t:TT):TT:=λσ H Q=>t σ H λc H1=>Q (!c) H1
theorem yn(ha:PT X a tA):PW X (.BoolOp .And [a] pos) tA:=by
 intro wh pins s σ H Q I h;refine isTrue_and (aQ (ha pins s σ H Q I h) λc s1 e=>?_);cases c with
 | true=>exact isTrue_and_nil e
 | false=>exact e
theorem g_(ha:PT X a tA):PW X (.BoolOp .Or [a] pos) tA:=by
 intro wh pins s σ H Q I h;refine isTrue_or (aQ (ha pins s σ H Q I h) λc s1 e=>?_);cases c with
 | false=>exact isTrue_or_nil e
 | true=>exact e
theorem tU(ha:PT X a tA)(hb:PW X (.BoolOp .And (b::dM) pos) tB'):PW X (.BoolOp .And (a::b::dM) pos) (zGe tA tB'):=by
 intro wh pins s σ H Q I h;refine isTrue_and (aQ (ha pins s σ H _ I h) λc s1 ⟨H1,I1,q1⟩=>?_);cases c with
 | true=>exact hb wh pins s1 σ H1 Q I1 q1
 | false=>exact⟨H1,I1,q1⟩
theorem fF(ha:PT X a tA)(hb:PW X (.BoolOp .Or (b::dM) pos) tB'):PW X (.BoolOp .Or (a::b::dM) pos) (Yj tA tB'):=by
 intro wh pins s σ H Q I h;refine isTrue_or (aQ (ha pins s σ H _ I h) λc s1 ⟨H1,I1,q1⟩=>?_);cases c with
 | true=>exact⟨H1,I1,q1⟩
 | false=>exact hb wh pins s1 σ H1 Q I1 q1
theorem cR(ha:PT X a tA):PT X (.UnaryOp .Not a pos) (NZ tA):=by
 intro pins s σ H Q I h;exact isTrue_not (ha pins s σ H (λc H1=>Q (!c) H1) I h)
def PX(ta tb:TE):TE:=λσ H Q=>ta σ H λx H1=>∃c,x=.bl c/\if c=true then tb σ H1 Q else Q (.bl false) H1
def NJ(ta:TE):TE:=λσ H Q=>ta σ H λx H1=>∃c,x=.bl c/\Q (.bl (!c)) H1
theorem gR{op}{t:TE}(h:PE X a t):PE X (.BoolOp op [a] pos) t:=λpins s σ H Q I hw=>BoolOp_one (h pins s σ H Q I hw)
theorem fj(ha:PE X a ta)(hb:PE X (.BoolOp .And (b::dM) pos) tb):PE X (.BoolOp .And (a::b::dM) pos) (PX ta tb):=by
 intro pins s σ H Q I h;refine BoolOp_and (aQ (ha pins s σ H _ I h) λv s1 ⟨x,H1,I1,r1,q1⟩=>?_);obtain⟨c,rfl,q1⟩:=q1;cases r1;refine Wx ?_;cases c with
 | true=>exact hb pins s1 σ H1 Q I1 q1
 | false=>exact⟨.bl false,H1,I1,rfl,q1⟩
theorem pG(ha:PE X a ta):PE X (.UnaryOp .Not a pos) (NJ ta):=by
 intro pins s σ H Q I h;refine UnaryOp_ (aQ (ha pins s σ H _ I h) λv s1 ⟨x,H1,I1,r1,q1⟩=>?_);obtain⟨c,rfl,q1⟩:=q1;cases r1;exact not_of (Wx ⟨.bl (!c),H1,I1,rfl,q1⟩)
def tIf(t:TT)(ta tb:TE):TE:=λσ H Q=>t σ H λc H1=>if c=true then ta σ H1 Q else tb σ H1 Q
theorem tI{c:Expr}(hc:PT X c tA)(ha:PE X a ta)(hb:PE X b tb):PE X (.IfExp c a b pos) (tIf tA ta tb):=by
 intro pins s σ H Q I h;refine wpAny_IfExp (aQ (hc pins s σ H _ I h) λd s1 ⟨H1,I1,q1⟩=>?_);cases d with
 | true=>exact ha pins s1 σ H1 Q I1 q1
 | false=>exact hb pins s1 σ H1 Q I1 q1
end
def aE(K:wa)(H:Hp)(a:we)(xs:.x):Prop :=
 Rd H a (.lst xs) \/
  ∃(o:Obj)(its:.as)(n:Nat),K.lookup a=some o/\o.cls=.type "list"/\o.dict=none/\o.data=.seq its n/\its.size<=vd/\aU xs its.toList
def aV(K:wa)(H:Hp)(a:we)(xs:.x):Prop :=
 Rd H a (.tup xs) \/
  ∃(o:Obj)(its:.as)(n:Nat),K.lookup a=some o/\o.cls=.type "tuple"/\o.data=.seq its n/\its.size<=vd/\aU xs its.toList
def zHi:wf->Option V
 | .none=>some .bE
 | .bool b=>some (.bl b)
 | .int i _=>some (.int i)
 | .str x _=>some (.str x)
 | .bytes b _=>some (.byt b)
 | .float b _=>some (.flt b)
 | .ref a=>some .bq
 | .type n=>some (.ty n)
 | _=>none
theorem bK.abs{x:V}{u:wf}(r:bK x u):zHi u=some x:=by
 cases x with
 | bE=>cases r;rfl
 | bl _=>cases r;rfl
 | int _=>obtain⟨t,rfl⟩:=r;rfl
 | str _=>obtain⟨t,rfl⟩:=r;rfl
 | byt _=>obtain⟨t,rfl⟩:=r;rfl
 | flt _=>obtain⟨t,rfl⟩:=r;rfl
 | ref _=>cases r;rfl
 | ty _=>cases r;rfl
theorem bK.inj{x y:V}{u:wf}(r:bK x u)(q:bK y u):x=y:=wI (r.abs.symm.trans q.abs)
theorem aU.inj:∀{xs ys:.x}{us:.J},aU xs us->aU ys us->xs=ys
 | _,_,_,.nil,.nil=>rfl
 | _,_,_,.cons r t,.cons r' t'=>by rw[r.inj r',aU.inj t t']
section
variable{X:Cx}{pins:.l}{σ : St}{H:Hp}{s:wm}{a:we}{xs ys:.x}
theorem aE.of{K:wa}(h:H a=some (.lst xs)):aE K H a xs:=.inl (.inl h)
theorem aV.of{K:wa}(h:H a=some (.tup xs)):aV K H a xs:=.inl (.inl h)
theorem Inv.list(I:.n)(h:aE X.K H a xs):∃its:List wf,aU xs its/\PlainL s.heap a its.toArray/\xs.length<=vd:=by
 rcases h with h | ⟨o,its,n,hk,hc,hd,hs,hz,r⟩
 ·obtain⟨z,its,n,r,e⟩:=h.ok I.aO
  exact⟨its,r,⟨_,n,e,rfl,rfl,rfl⟩,z⟩
 ·refine⟨its.toList,r,⟨o,n,I.eF a o hk,hc,hd,by simpa using hs⟩,?_⟩
  have e:=r.length;simp only[wV]at e
  lia
theorem Inv.tuple(I:.n)(h:aV X.K H a xs):∃its:List wf,aU xs its/\IsTup s.heap a its.toArray/\xs.length<=vd:=by
 rcases h with h | ⟨o,its,n,hk,hc,hs,hz,r⟩
 ·obtain⟨z,its,r,p⟩:=h.ok I.aO
  exact⟨its,r,p,z⟩
 ·refine⟨its.toList,r,⟨o,I.eF a o hk,hc,n,by simpa using hs⟩,?_⟩
  have e:=r.length;simp only[wV]at e
  lia
theorem Inv.CY(I:.n)(h:aE X.K H a xs)(h':aE X.K H a ys):xs=ys:=by
 obtain⟨its,r,⟨o,n,e,_,_,d⟩,_⟩:=I.list h;obtain⟨its',r',⟨o',n',e',_,_,d'⟩,_⟩:=I.list h';rw[e]at e';cases e';rw[d]at d'
 injection d' with d1 _
 have:its=its':=by simpa using congrArg Ux d1
 subst this;exact r.inj r'
theorem Inv.CU(I:.n)(h:aV X.K H a xs)(h':aV X.K H a ys):xs=ys:=by
 obtain⟨its,r,⟨o,e,_,n,d⟩,_⟩:=I.tuple h;obtain⟨its',r',⟨o',e',_,n',d'⟩,_⟩:=I.tuple h';rw[e]at e';cases e';rw[d]at d'
 injection d' with d1 _
 have:its=its':=by simpa using congrArg Ux d1
 subst this;exact r.inj r'
end
abbrev Cx.j4(X:Cx)(E:.m):Cx:={X with xe:=E}
abbrev Cx.z8(X:Cx):Cx:=X.j4 λ_ _=>False
theorem Cx.Ok.j4{X:Cx}(ok:X.Ok)(E:.m):(X.j4 E).Ok :=
 ⟨ok.mod,ok.kind,ok.glob,ok.blt,ok.above,ok.inj,ok.has,ok.mI,ok.hd,ok.frames,ok.nV,ok.sP,ok.bs,ok.jJ,ok.me,ok.ng,ok.fH,ok.kz⟩
theorem Cx.Ok.l_{X:Cx}{E:.m}(ok:(X.j4 E).Ok):X.Ok :=
 ⟨ok.mod,ok.kind,ok.glob,ok.blt,ok.above,ok.inj,ok.has,ok.mI,ok.hd,ok.frames,ok.nV,ok.sP,ok.bs,ok.jJ,ok.me,ok.ng,ok.fH,ok.kz⟩
section
variable{X:Cx}{pins:.l}{σ : St}{H:Hp}{s:wm}{E:.m}
theorem Inv.j4(I:.n)(E:.m):Inv (X.j4 E) pins σ H s:=⟨I.ok.j4 E,I.os,I.bare,I.base,I.loc,I.cell,I.free,I.gK,I.pin,I.aO,I.len⟩
theorem Inv.l_(I:Inv (X.j4 E) pins σ H s):Inv X pins σ H s:=⟨I.ok.l_,I.os,I.bare,I.base,I.loc,I.cell,I.free,I.gK,I.pin,I.aO,I.len⟩
theorem SP.l_{D:c_}{f:Flow}{s':wm}(h:SP (X.j4 E) pins D f s'):SP X pins D f s':=by
 cases f with
 | next=>obtain⟨σ',H',I,q⟩:=h;exact⟨σ',H',I.l_,q⟩
 | brk=>obtain⟨σ',H',I,q⟩:=h;exact⟨σ',H',I.l_,q⟩
 | cont=>obtain⟨σ',H',I,q⟩:=h;exact⟨σ',H',I.l_,q⟩
 | ret u=>obtain⟨v,σ',H',I,r,q⟩:=h;exact⟨v,σ',H',I.l_,r,q⟩
theorem fZ.z8{st:List w6}{t:TS}(h:fZ X.z8 st t):fZ X st t:=λpins s σ H D I hw =>
 WP (h pins s σ H D (I.j4 _) hw) (λ_ _ q=>q.l_) λ_ _ z=>Vc z
end
section
variable{X:Cx}{st:w6}{dM:List w6}{t u:TS}{e:Expr}{te:TE}{pos:Pos}
def zEz:TS:=λD σ H=>D.nx σ H
def EL(t u:TS):TS:=λD σ H=>t {D with nx:=u D} σ H
theorem aZ:fZ X [] zEz:=λ_ _ σ H _ I h=>qV ⟨σ,H,I,h⟩
theorem ak(h1:PS X st t)(h2:fZ X dM u):fZ X (st::dM) (EL t u):=by
 intro pins s σ H D I h;refine wpAny_execs_cons (aQ (h1 pins s σ H {D with nx:=u D} I h) λf s1 q=>?_);cases f with
 | next =>
  obtain⟨σ',H',I',q⟩:=q;exact h2 pins s1 σ' H' D I' q
 | ret v=>exact q
 | brk=>exact q
 | cont=>exact q
theorem au(h1:PS X st t):fZ X [st] t:=by
 intro pins s σ H D I h;refine wpAny_execs_cons (aQ (h1 pins s σ H D I h) λf s1 q=>?_);cases f with
 | next=>exact qV q
 | ret v=>exact q
 | brk=>exact q
 | cont=>exact q
theorem Inv.quiet{pins:.l}{σ : St}{H:Hp}{s:wm}(I:.n):interactive X.env=false:=by simp[interactive,I.ok.kind]
def Po(te:TE):TS:=λD σ H=>te σ H λ_ H1=>D.nx σ H1
theorem jK(he:PE X e te)(hs:swapsWith e none pos.line X.env=pure false:=by rfl):PS X (.Expr e pos) (Po te):=by
 intro pins s σ H D I h;exact wpAny_Expr_any (aQ (he pins s σ H _ I h) λv s1 ⟨x,H1,I1,r1,q1⟩=>⟨σ,H1,I1,q1⟩) I.quiet hs
def zG3(te:TE):TS:=λD σ H=>te σ H D.rt
theorem aB(he:PE X e te):PS X (.Return (some e) pos) (zG3 te):=by
 intro pins s σ H D I h;exact wpAny_Return_some (aQ (he pins s σ H _ I h) λv s1 ⟨x,H1,I1,r1,q1⟩=>⟨x,σ,H1,I1,r1,q1⟩)
def zGM(c:TT)(t u:TS):TS:=λD σ H=>c σ H λb H1=>if b=true then t D σ H1 else u D σ H1
theorem aY{c:Expr}{a b:List w6}{tc:TT}(hc:PT X c tc)(ha:fZ X a t)(hb:fZ X b u):PS X (.If c a b pos) (zGM tc t u):=by
 intro pins s σ H D I h;refine wpAny_If (aQ (hc pins s σ H _ I h) λd s1 ⟨H1,I1,q1⟩=>?_);cases d with
 | true=>exact ha pins s1 σ H1 D I1 q1
 | false=>exact hb pins s1 σ H1 D I1 q1
def zE2:TS:=λ_ _ _=>False
theorem GW:PS X st zE2:=λ_ _ _ _ _ _ h=>h.elim
end
abbrev TG:=V->St->Hp->(St->Hp->Prop)->Prop
abbrev kS:=List V->St->Hp->(St->Hp->Prop)->Prop
def PG(X:Cx)(target:Expr)(t:TG):Prop :=
 ∀(pins:.l)(s:wm)(σ : St)(H:Hp)(v:V)(u:wf)(Q:St->Hp->Prop),Inv X pins σ H s->bK v u->t v σ H Q ->
  wx .o X.A (assign target X.env u) (λ_ s'=>∃σ' H',Inv X pins σ' H' s'/\Q σ' H') X.xe s
def zd(X:Cx)(ts:.ak)(t:kS):Prop :=
 ∀(pins:.l)(s:wm)(σ : St)(H:Hp)(vs:.x)(us:.J)(Q:St->Hp->Prop),Inv X pins σ H s->aU vs us->t vs σ H Q ->
  wx .o X.A (assignInOrder ((assignEach ts X.env).map (·.2)) us) (λ_ s'=>∃σ' H',Inv X pins σ' H' s'/\Q σ' H') X.xe s
abbrev zS:=V->V->V->Hp->(Hp->Prop)->Prop
def RK(X:Cx)(t:zS):Prop :=
 ∀(pins:.l)(s:wm)(σ : St)(H:Hp)(o i v:V)(ov iv u:wf)(Q:Hp->Prop),Inv X pins σ H s->bK o ov->bK i iv->bK v u->t o i v H Q ->
  wx .o X.A (setItem ov iv u) (λ_ s'=>∃H',Inv X pins σ H' s'/\Q H') X.xe s
abbrev tX:=V->V->Hp->VK->Prop
def PIp(X:Cx)(op:Operator)(t:tX):Prop :=
 ∀(pins:.l)(s:wm)(σ : St)(H:Hp)(x y:V)(v u:wf)(Q:VK),Inv X pins σ H s->bK x v->bK y u->t x y H Q ->
  wx .o X.A (inplaceOp op v u) (EP X pins σ Q) X.xe s
section
variable{X:Cx}{pos:Pos}
variable{i:Nat}{x:Str}{e:Expr}{te:TE}{pos':Pos}
def jC(i:Nat):TG:=λv σ H Q=>Q (σ.set i (some v)) H
theorem cV(hN:X.N.Nodup)(hi:X.N[i]? = some x)(hx:Loc X.env.scope x)(hf:X.fn x=true\/X.env.scope.names.lookup x=some .local:=by first | exact .inl rfl | exact .inr rfl | assumption):PG X (.Name x pos) (jC i):=by
 intro pins s σ H v u Q I r h;exact wpAny_assign_Name (tP I hN hi hx r (λs' I'=>⟨_,H,I',h⟩) hf)
def YR:kS:=λvs σ H Q=>vs=[]/\Q σ H
def zEv(t:TG)(u:kS):kS:=λvs σ H Q=>∃v r,vs=v::r/\t v σ H λσ' H'=>u r σ' H' Q
theorem jo :zd X [] YR:=by
 intro pins s σ H vs us Q I r h;obtain⟨e,h⟩:=h;subst e;cases r;exact assignInOrder_nil ⟨σ,H,I,h⟩
theorem dZ{es:.ak}{t:TG}{u:kS}(h1:PG X e t)(h2:zd X es u)
  (hs:(assignEach (e::es) X.env).map (·.2)=assign e X.env::(assignEach es X.env).map (·.2):=by rfl):zd X (e::es) (zEv t u):=by
 intro pins s σ H vs us Q I r h;obtain⟨v,vr,e1,h⟩:=h;subst e1;cases r with
 | cons r rr =>
  rw[hs];refine assignInOrder_cons (aQ (h1 pins s σ H _ _ _ I r h) λ_ s1 ⟨σ1,H1,I1,q1⟩=>?_);exact h2 pins s1 σ1 H1 _ _ Q I1 rr q1
def mF(K:wa)(n:Nat)(t:kS):TG:=λv σ H Q=>∃a xs,v=.ref a/\aV K H a xs/\xs.length=n/\t xs σ H Q
theorem jm{es:.ak}{k:Nat}{t:kS}{n:Nat}(hc:.bu)(h:zd X es t)
  (hn:(assignEach es X.env).length=n:=by rfl) (hst:(assignEach es X.env).findIdx? (·.1)=none:=by rfl):PG X (.Tuple es k pos) (mF X.K n t):=by
 intro pins s σ H v u Q I r hw;obtain⟨a,xs,e1,hq,hl,hw⟩:=hw;subst e1;cases r;obtain⟨its,rv,ht,hz⟩:=I.tuple hq;refine assign_Tuple_tuple .aE ht (by simp[hn,<- hl,rv.length]) hst λh' hx=>?_
 have I1:Inv X pins σ H {s with heap:=h'}:=I.kept (t':=s.toks) λb o e=>hx b o (wT (wF e)) e
 exact h pins _ σ H xs _ Q I1 (by simpa using rv) hw
def U8(to ti:TE)(t:zS):TG:=λv σ H Q=>to σ H λo H1=>ti σ H1 λi H2=>t o i v H2 λH3=>Q σ H3
theorem nR{o i:Expr}{to ti:TE}{t:zS}(ho:PE X o to)(hi:PE X i ti)(hs:RK X t)
  (ha:∀v,assign (.Subscript o i pos) X.env v=(do
   let ov <- holding [v] (eval o X.env)
   let iv <- holding [v,ov] (eval i X.env)
   standAt pos
   holding [v,ov,iv] (setItem ov iv v)
   release [v,ov,iv] []):=by intro _;rfl):PG X (.Subscript o i pos) (U8 to ti t):=by
 intro pins s σ H v u Q I r h;rw[ha];refine wg (Wv (aQ (ho pins s σ H _ I h) λov s1 ⟨x,H1,I1,r1,q1⟩=>?_));refine wg (Wv (aQ (hi pins s1 σ H1 _ I1 q1) λiv s2 ⟨y,H2,I2,r2,q2⟩=>?_));refine wg (wpAny_standAt (wg (Wv (aQ (hs pins s2 σ H2 x y v ov iv u _ I2 r1 r2 r q2) λ_ s3 ⟨H3,I3,q3⟩=>?_))));exact wpAny_release ⟨σ,H3,I3,q3⟩
def nG(te:TE)(g:TG):TS:=λD σ H=>te σ H λx H1=>g x σ H1 D.nx
theorem jH{tg:Expr}{g:TG}(he:PE X e te)(hg:PG X tg g)(hs:swapsWithSole [tg] e pos.line X.env=pure false:=by rfl)(hw:swappedStores [tg] e X.env=pure none:=by rfl)
  (h1:(assignEach [tg] X.env).map (·.2)=[assign tg X.env]:=by rfl):PS X (.Assign [tg] e pos) (nG te g):=by
 intro pins s σ H D I h;refine wpAny_Assign_stores (aQ (he pins s σ H _ I h) λv s1 ⟨x,H1,I1,r1,q1⟩=>?_) hs hw;rw[h1];exact aQ (hg pins s1 σ H1 x v _ I1 r1 q1) λ_ s2 q=>q
theorem zFN(hN:X.N.Nodup)(hi:X.N[i]? = some x)(hx:Loc X.env.scope x)(he:PE X e te)(hs:swapsWith e (some (.Name x pos')) pos.line X.env=pure false:=by rfl)(hf:X.fn x=true\/X.env.scope.names.lookup x=some .local:=by first | exact .inl rfl | exact .inr rfl | assumption) :
  PS X (.Assign [.Name x pos'] e pos) (nG te (jC i)):=by
 intro pins s σ H D I h;refine wpAny_Assign_Name (aQ (he pins s σ H _ I h) λv s1 ⟨y,H1,I1,r1,q1⟩=>?_) hs;exact tP I1 hN hi hx r1 (λs2 I2=>⟨_,H1,I2,q1⟩) hf
def NQ(i j:Nat)(ta:TA):TS:=λD σ H=>ta σ H λvs H1=>∃v w,vs=[v,w]/\D.nx ((σ.set i (some v)).set j (some w)) H1
theorem zE9{j:Nat}{y:Str}{a b:Expr}{ta:TA}{px py pt:Pos}{kt k2 pt2}(hc:.bu)(hN:X.N.Nodup)(hi:X.N[i]? = some x)(hj:X.N[j]? = some y)(hij:i≠j)
  (hx:X.env.scope.names.lookup x=some .local) (hy:X.env.scope.names.lookup y=some .local) (ha:PA X [a,b] ta)
  (hw:swappedStores [.Tuple [.Name x px,.Name y py] kt pt] (.Tuple [a,b] k2 pt2) X.env=pure (some [x,y]))
  (hs:swapsWithSole [.Tuple [.Name x px,.Name y py] kt pt] (.Tuple [a,b] k2 pt2) pos.line X.env=pure false:=by rfl) :
  PS X (.Assign [.Tuple [.Name x px,.Name y py] kt pt] (.Tuple [a,b] k2 pt2) pos) (NQ i j ta):=by
 intro pins s σ H D I h;rw[exec_Assign_arm];refine wg (wpAny_standAt ?_);rw[hs];refine wg (wq ?_);rw[if_neg .M];refine wg (Tuple_ (aQ (ha _ pins s σ H _ I h) λus s1 ⟨vs,H1,I1,r1,q1⟩=>?_));obtain⟨v,w,e1,q1⟩:=q1;subst e1
 obtain⟨u1,u2,rfl,rv,rw'⟩:∃u1 u2,us=[u1,u2]/\bK v u1/\bK w u2:=by
  cases r1 with
  | cons p q =>
   cases q with
   | cons p' q' =>
    cases q';exact⟨_,_,rfl,p,p'⟩
 refine WY ?_ (by show 2<=vd;decide);have I2:Inv X pins σ H1 {s1 with heap:=s1.heap.push {cls:=.type "tuple",data:=.seq [u1,u2].toArray}}:=I1.kept (t':=s1.toks) λb o e=>wn _ e
 rw[hw];refine wg (wq ?_)
 show wx .o X.A (do rule "assign.swapped-stores";let items <- unpackItems (.ref s1.heap.objs.size) 2 none;assignInOrder [λv=>bindName X.env y v,λv=>bindName X.env x v] items.reverse;pure Flow.next) _ _ _
 refine wg (wpAny_rule (wg (unpackItems_tuple (items:=#[u1,u2]) .aE (QI s1.heap _) λh' hx'=>?_)));have I3:=I2.kept (h':=h') (t':=s1.toks) λb o e=>hx' b o (wT (wF e)) e
 show wx _ _ (assignInOrder [λv=>bindName X.env y v,λv=>bindName X.env x v] [u2,u1] >>= λ_=>pure Flow.next) _ _ _
 refine wg (assignInOrder_cons (wpAny_bindName (tP I3 hN hj (.inl hy) rw' (λs2 I4=>?_) (.inr hy))));refine assignInOrder_cons (wpAny_bindName (tP I4 hN hi (.inl hx) rv (λs3 I5=>assignInOrder_nil (wq ?_)) (.inr hx)));rw[List.set_comm _ _ (WI hij)]at I5;exact⟨_,H1,I5,q1⟩
def Yp(i:Nat)(te:TE)(ti:tX):TS:=λD σ H=>∃x,σ[i]? = some (some x)/\te σ H λy H1=>ti x y H1 λz H2=>D.nx (σ.set i (some z)) H2
theorem zFe{op:Operator}{ti:tX}(hN:X.N.Nodup)(hi:X.N[i]? = some x)(hx:Loc X.env.scope x)(he:PE X e te)(ho:PIp X op ti)(hf:X.fn x=true\/X.env.scope.names.lookup x=some .local:=by first | exact .inl rfl | exact .inr rfl | assumption) :
  PS X (.AugAssign (.Name x pos') op e pos) (Yp i te ti):=by
 intro pins s σ H D I h;obtain⟨v,e1,h⟩:=h;obtain⟨m,hn,hl⟩:=I.loc;have II:tQ X.env.scope x:=by rcases hx with k | k;exact .inl k;exact .inr (.inl k)
 obtain⟨u,r,l⟩:=hl i x v hi e1 II;refine wpAny_AugAssign_Name ?_
 have go:wx .o X.A (eval e X.env) (λw s₂=>wx .o X.A (inplaceOp op u w) (λr s₃=>wx .o X.A (storeName X.env x r) (λ_=>SP X pins D .next) X.xe s₃) X.xe s₂) X.xe s:=by
  refine aQ (he pins s σ H _ I h) λw s1 ⟨y,H1,I1,r1,q1⟩=>?_
  refine aQ (ho pins s1 σ H1 v y u w _ I1 r r1 q1) λz s2 ⟨zv,H2,I2,r2,q2⟩=>?_
  exact tP I2 hN hi hx r2 (λs3 I3=>⟨_,H2,I3,q2⟩) hf
 rcases l with⟨hk,hm⟩ | ⟨hk,c,hc,hcell⟩
 ·exact wpAny_loadName_local I.ok.kind hk hn hm go
 ·rcases hk with hk | hk
  ·exact wpAny_loadName_cell I.ok.kind hk hc hcell go
  ·rcases hx with k | k
   ·have:X.env.scope.names.lookup x=some .free:=hk
    rw[k]at this;cases this
   ·have:X.env.scope.names.lookup x=some .free:=hk
    rw[k]at this;cases this
def YI(f:Int->Int->Int):tX:=λx y H Q=>∃i j,x=.int i/\y=.int j/\Q (.int (f i j)) H
theorem zFv :PIp X .Add (YI λi j=>i+j):=by
 intro pins s σ H x y v u Q I r1 r2 h;obtain⟨i,j,e1,e2,q⟩:=h;subst e1;subst e2;obtain⟨t,rfl⟩:=r1;obtain⟨t',rfl⟩:=r2;exact iadd_int ⟨.int _,H,I.tok _,⟨_,rfl⟩,q⟩
end
section
variable{X:Cx}{pos:Pos}
def Fi(c:TT)(tb:TS):TS:=λD σ H=>∃W:Nat->St->Hp->Prop,(∃m,W m σ H) /\ ∀m σ H,W m σ H ->
 c σ H λb H1=>if b=true then ∃N:St->Hp->Prop,(∀σ' H',N σ' H'->∃m',m'<m/\W m' σ' H')/\tb {D with nx:=N,ct:=N,bk:=D.nx} σ H1 else D.nx σ H1
theorem m4{c:Expr}{body:List w6}{tc:TT}{tb:TS}(hp:PassesOwn .o X.A X.env X.xe)(hc:PT X c tc)(hb:fZ X body tb):PS X (.While c body [] pos) (Fi tc tb):=by
 intro pins s σ H D I h;obtain⟨W,⟨m0,w0⟩,turn⟩:=h;refine wpAny_While (codeAny_whileLoop (λn s'=>∃σ' H',Inv X pins σ' H' s'/\W n σ' H') ?_ m0 ⟨σ,H,I,w0⟩);rintro n s1 hz;obtain⟨σ1,H1,I1,w1⟩:=hz;refine VP hp (aQ (hc pins s1 σ1 H1 _ I1 (turn n σ1 H1 w1)) λb s2 ⟨H2,I2,q2⟩=>?_);cases b with
 | true =>
  obtain⟨N,hN,q2⟩:=q2;rw[if_pos rfl];refine VP hp (aQ (hb pins s2 σ1 H2 _ I2 q2) λf s3 q3=>?_);cases f with
  | next =>
   obtain⟨σ3,H3,I3,n3⟩:=q3;obtain⟨m',hm,w3⟩:=hN σ3 H3 n3;exact⟨m',hm,σ3,H3,I3,w3⟩
  | cont =>
   obtain⟨σ3,H3,I3,n3⟩:=q3;obtain⟨m',hm,w3⟩:=hN σ3 H3 n3;exact⟨m',hm,σ3,H3,I3,w3⟩
  | brk=>exact q3
  | ret v=>exact q3
 | false =>
  rw[if_neg vJ];exact qV ⟨σ1,H2,I2,q2⟩
end
variable{tg:Expr}{P:wK}{w:wO}{K:wa}
structure It where
 go:Nat->Hp->Prop
 fW:Nat->Hp->V->Hp->Prop
 stop:Nat->Hp->Prop
def fm(X:Cx)(pins:.l)(H:Hp)(b:we):Prop :=
 H b=none/\b≠X.env.locals/\b ∉ X.fs/\(b∈X.ex\/X.s₀.heap.objs.size<=b)/\(∀x c,X.env.cells.lookup x=some c->c≠b) /\ ∀p∈X.pn++pins,p.1≠b
theorem Inv.kR{X:Cx}{pins:.l}{σ : St}{H H':Hp}{s:wm}{b:we}(I:.n)(hb:s.heap.objs.size<=b)(hn:H' b=none):fm X pins H' b:=by
 refine⟨hn,vv (wW I.lt hb),I.aaL hb,.inr (Wb I.sz hb),λx c e z=>?_,λp hp z=>?_⟩
 ·obtain⟨v,q⟩:=I.cell x c e
  exact absurd (wW q.lt (by rw[z];exact hb)) (Vp _)
 ·exact absurd (wW (wF (I.pin p hp).1) (by rw[z];exact hb)) (Vp _)
structure ko(P:wK)(w:wO)(K:wa)(tg:Expr)(J:It)(fp:.bp)(it:we)(tn:Nat->wJ->Prop):Prop where
 mem:it∈fp
 obj:∀i h,tn i h->∀b∈fp,∃o,h.get? b=some o /\ ∀v,o.data≠.cell v
 keep:∀i h h',tn i h->(∀b∈fp,∀o,h.get? b=some o->h'.get? b=some o)->tn i h'
 item:∀(X:Cx),X.prog=P->X.w=w->X.K=K->X.calm=true->∀(i:Nat)(pins:.l)(s:wm)(σ : St)(H:Hp)(E:.m),Inv X pins σ H s->(∀b∈fp,fm X pins H b)->tn i s.heap->J.go i H ->
   wx (model P w) X.A (V2 (.ref it)) (λr s1=>∃u,r=some u /\
     wx (model P w) X.A (qW tg (.ref it) u) (λ_ s2=>∃x H',Inv X pins σ H' s2/\bK x u/\J.fW i H x H'/\tn (i+1) s2.heap /\ ∀b∈fp,H' b=none) E s1) E s
 done:∀(X:Cx),X.prog=P->X.w=w->X.K=K->X.calm=true->∀(i:Nat)(pins:.l)(s:wm)(σ : St)(H:Hp)(E:.m),Inv X pins σ H s->(∀b∈fp,fm X pins H b)->tn i s.heap->J.stop i H ->
   wx (model P w) X.A (V2 (.ref it)) (λr s1=>r=none/\Inv X pins σ H s1) E s
 self:∀(A:vg)(i:Nat)(s:wm)(Q:.m)(E:.m),tn i s.heap->Q (.ref it) s->wx (model P w) A (pyIter (.ref it)) Q E s
abbrev TI:=St->Hp->(It->Hp->Prop)->Prop
def EU(X:Cx)(pins:.l)(σ : St)(tg:Expr)(R:It->Hp->Prop)(itv:wf)(s2:wm):Prop :=
 ∃(it:we)(fp:.bp)(tn:Nat->wJ->Prop)(J:It)(H':Hp),itv=.ref it/\Inv X pins σ H' s2/\ko X.prog X.w X.K tg J fp it tn/\tn 0 s2.heap/\(∀b∈fp,fm X pins H' b)/\R J H'
def PI(X:Cx)(tg iter:Expr)(wi:TI):Prop :=
 ∀(pins:.l)(s:wm)(σ : St)(H:Hp)(R:It->Hp->Prop),Inv X pins σ H s->wi σ H R ->
  wx .o X.A (eval iter X.env) (λv s1=>wx .o X.A (pyIter v) (EU X pins σ tg R) X.xe s1) X.xe s
theorem G1{M:Model}{A:vg}{E:.m}{s:wm}{it:we}{u:wf}{o:Obj}{n:.ar}{vs:.as}{Q:Unit->wm->Prop}(ho:s.heap.get? it=some o)(hc:o.cls=.type n)(hd:o.data=.fields vs)
   (hn:["enumerate","zip","dict_itemiterator","dict_reverseitemiterator","odict_iterator","itertools.zip_longest","itertools.pairwise"].contains n=false) (hQ:Q () s):wx M A (qW tg (.ref it) u) Q E s:=by
 unfold qW
 cases tg<;>first
   | exact wq hQ
   | (cases u<;>first
       | exact wq hQ
       | (refine wg (wpAny_load ho ?_)
          rw[hc,hd]
          show wx M A (if(["enumerate","zip","dict_itemiterator","dict_reverseitemiterator","odict_iterator","itertools.zip_longest","itertools.pairwise"].contains n&&vs[0]? == some (Vw _))=true then _ else _) Q E s
          rw[if_neg (by intro h;rw[hn,WJ]at h;cases h)];exact wq hQ))
def kA(K:wa)(a:we):It :=
 ⟨λi H=>∃xs x,aE K H a xs/\xs[i]? = some x,λi H x H'=>H'=H /\ ∀xs,aE K H a xs->xs[i]? = some x,λi H=>∃xs,aE K H a xs/\xs.length<=i⟩
def kC(K:wa)(a:we):It :=
 ⟨λi H=>∃xs x,aV K H a xs/\xs[i]? = some x,λi H x H'=>H'=H /\ ∀xs,aV K H a xs->xs[i]? = some x,λi H=>∃xs,aV K H a xs/\xs.length<=i⟩
def gZ(lo:Int)(n:Nat):It:=⟨λi _=>i<n,λi H x H'=>H'=H/\x=.int (lo+i),λi _=>n<=i⟩
theorem zq1(a it:we):ko P w K tg (kA K a) [it] it (λi h=>h.IsListIter it a i) where
 mem:=by simp
 obj:=λi h st b hb=>by
  have e:b=it:=by simpa using hb
  subst e;obtain⟨o,e,c,d⟩:=st;exact⟨o,e,λv z=>by rw[d]at z;cases z⟩
 keep:=λi h h' st k=>st.at λo e=>k it .u o e
 item:=by
  intro X hP hw hK hc i pins s σ H E I hf st hg;subst hP hw hK;obtain⟨xs,x,hq,hx⟩:=hg;obtain⟨its,rv,p,hz⟩:=I.list hq;obtain⟨u,hu,ru⟩:=rv.get hx;obtain⟨f0,f1,f2,f3,f4,f5⟩:=hf it .u;refine wpAny_pyNext_list_item st p.isList (x:=u) (by simpa using hu) λh' st' sb=>?_
  have I1:Inv X pins σ H {s with heap:=h'}:=I.turned (t':=s.toks) (λb o hb e=>(sb.2 b hb).trans e) f0 f1 f3 f4 f5;obtain⟨o,e,c,d⟩:=id st';exact⟨u,rfl,G1 (s:={s with heap:=h'}) e c d .M ⟨x,H,I1,ru,⟨rfl,λys hy=>by rw[I.CY hy hq];exact hx⟩,st',λb hb=>(hf b hb).1⟩⟩
 done:=by
  intro X hP hw hK hc i pins s σ H E I hf st hg;subst hP hw hK;obtain⟨xs,hq,hx⟩:=hg;obtain⟨its,rv,p,hz⟩:=I.list hq;obtain⟨f0,f1,f2,f3,f4,f5⟩:=hf it .u;have hl:=rv.length;exact wpAny_pyNext_list_end .aE st p.isList .aL λh' eb=>⟨rfl,I.turned (t':=s.toks) (λb o hb e=>eb b o hb e) f0 f1 f3 f4 f5⟩
 self:=λ_ _ _ _ _ st h=>wpAny_pyIter_listiter st h
theorem Sq(a it:we):ko P w K tg (kC K a) [it] it (λi h=>h.IsTupleIter it a i) where
 mem:=by simp
 obj:=λi h st b hb=>by
  have e:b=it:=by simpa using hb
  subst e;obtain⟨o,e,c,d⟩:=st;exact⟨o,e,λv z=>by rw[d]at z;cases z⟩
 keep:=λi h h' st k=>st.at λo e=>k it .u o e
 item:=by
  intro X hP hw hK hc i pins s σ H E I hf st hg;subst hP hw hK;obtain⟨xs,x,hq,hx⟩:=hg;obtain⟨its,rv,p,hz⟩:=I.tuple hq;obtain⟨u,hu,ru⟩:=rv.get hx;obtain⟨f0,f1,f2,f3,f4,f5⟩:=hf it .u;refine wpAny_pyNext_tuple_item st (show s.heap.IsTuple a its.toArray from p) (x:=u) (by simpa using hu) λh' st' sb=>?_
  have I1:Inv X pins σ H {s with heap:=h'}:=I.turned (t':=s.toks) (λb o hb e=>(sb.2 b hb).trans e) f0 f1 f3 f4 f5;obtain⟨o,e,c,d⟩:=id st';exact⟨u,rfl,G1 (s:={s with heap:=h'}) e c d .M ⟨x,H,I1,ru,⟨rfl,λys hy=>by rw[I.CU hy hq];exact hx⟩,st',λb hb=>(hf b hb).1⟩⟩
 done:=by
  intro X hP hw hK hc i pins s σ H E I hf st hg;subst hP hw hK;obtain⟨xs,hq,hx⟩:=hg;obtain⟨its,rv,p,hz⟩:=I.tuple hq;obtain⟨f0,f1,f2,f3,f4,f5⟩:=hf it .u;have hl:=rv.length;exact wpAny_pyNext_tuple_end .aE st (show s.heap.IsTuple a its.toArray from p) .aL λh' eb=>⟨rfl,I.turned (t':=s.toks) (λb o hb e=>eb b o hb e) f0 f1 f3 f4 f5⟩
 self:=λ_ _ _ _ _ st h=>wpAny_pyIter_tupleiter st h
theorem zw9(it:we)(lo:Int)(n:Nat):ko P w K tg (gZ lo n) [it] it (λi h=>IsRangeIter h it (lo+(i:Nat)*1) ((n:Int)-(i:Nat)) 1) where
 mem:=by simp
 obj:=λi h st b hb=>by
  have e:b=it:=by simpa using hb
  subst e
  exact⟨_,st,λv z=>by
   have z':Data.fields _=Data.cell v:=z;cases z'⟩
 keep:=λi h h' st k=>k it .u _ st
 item:=by
  intro X hP hw hK hc i pins s σ H E I hf st hg;subst hP hw hK;obtain⟨f0,f1,f2,f3,f4,f5⟩:=hf it .u;have W:=Walks.range (prog:=X.prog) (w:=X.w) .aE it lo 1 n;refine W.item i s _ _ hg st λv h' tk hv st' kk=>?_
  obtain⟨t,rfl⟩:=hv;have I1:Inv X pins σ H {s with heap:=h',toks:=tk}:=I.turned (λb o hb e=>kk b o (by simpa using hb) e) f0 f1 f3 f4 f5;refine⟨_,rfl,G1 (s:={s with heap:=h',toks:=tk}) (n:="range_iterator") st' rfl rfl .M ⟨.int (lo+i),H,I1,⟨t,?_⟩,⟨rfl,rfl⟩,st',λb hb=>(hf b hb).1⟩⟩;rw[Qt]
 done:=by
  intro X hP hw hK hc i pins s σ H E I hf st hg;subst hP hw hK;obtain⟨f0,f1,f2,f3,f4,f5⟩:=hf it .u;exact wpAny_pyNext_range_end .aE st (by have:n<=i:=hg;lia) λh' eb=>⟨rfl,I.turned (t':=s.toks) (λb o hb e=>eb b o hb e) f0 f1 f3 f4 f5⟩
 self:=λ_ _ _ _ _ st h=>wpAny_pyIter_rangeiter st h
section
variable{X:Cx}{tg:Expr}
variable{σ:St}{H:Hp}{fp:.bp}
def FT(K:wa)(tl:TE):TI:=λσ H R=>tl σ H λx H1=>∃a,x=.ref a/\(∃xs,aE K H1 a xs)/\R (kA K a) H1
def YO(K:wa)(tl:TE):TI:=λσ H R=>tl σ H λx H1=>∃a,x=.ref a/\(∃xs,aV K H1 a xs)/\R (kC K a) H1
theorem fC{l:Expr}{tl:TE}(hl:PE X l tl):PI X tg l (FT X.K tl):=by
 intro pins s σ H R I h;refine aQ (hl pins s σ H _ I h) λv s1 ⟨x,H1,I1,r1,q1⟩=>?_
 obtain⟨a,e,⟨xs,hq⟩,q⟩:=q1;subst e;cases r1;obtain⟨its,rv,p,hz⟩:=I1.list hq;refine qA p.isList ?_;refine⟨s1.heap.objs.size,[s1.heap.objs.size],_,_,H1,rfl,I1.kept (t':=s1.toks) λb o e=>wn _ e,zq1 a _,⟨_,wS _ rfl,rfl,rfl⟩,λb hb=>?_,q⟩;have e:b=s1.heap.objs.size:=by simpa using hb
 subst e;exact I1.kR .Y (I1.aO.fresh .Y)
theorem kf{l:Expr}{tl:TE}(hl:PE X l tl):PI X tg l (YO X.K tl):=by
 intro pins s σ H R I h;refine aQ (hl pins s σ H _ I h) λv s1 ⟨x,H1,I1,r1,q1⟩=>?_
 obtain⟨a,e,⟨xs,hq⟩,q⟩:=q1;subst e;cases r1;obtain⟨its,rv,p,hz⟩:=I1.tuple hq;refine Vk (show s1.heap.IsTuple a its.toArray from p) ?_;refine⟨s1.heap.objs.size,[s1.heap.objs.size],_,_,H1,rfl,I1.kept (t':=s1.toks) λb o e=>wn _ e,Sq a _,⟨_,wS _ rfl,rfl,rfl⟩,λb hb=>?_,q⟩;have e:b=s1.heap.objs.size:=by simpa using hb
 subst e;exact I1.kR .Y (I1.aO.fresh .Y)
theorem Ry{pins:.l}{s:wm}{R:It->Hp->Prop}{E:.m}{lo hi:Int}{t u v:Tok}{tk:Nat}(I:.n)(h1 : -(2^62)<=lo)(h2:lo<2^62)(h3 : -(2^62)<=hi)(h4:hi<2^62)
  (q:R (gZ lo (hi-lo).toNat) H):wx .o X.A (pyIter .aa) (EU X pins σ tg R) E {s with heap:=s.heap.push {cls:=.type "range",data:=.fields #[.int lo t,.int hi u,.int 1 v]},toks:=tk}:=by
 refine wpAny_pyIter_range (UB ..) (small_one h1 h2 h3 h4) ?_;have I1:Inv X pins σ H {s with heap:=s.heap.push {cls:=.type "range",data:=.fields #[.int lo t,.int hi u,.int 1 v]},toks:=tk}:=I.kept λb o e=>wn _ e
 refine⟨(s.heap.push {cls:=.type "range",data:=.fields #[.int lo t,.int hi u,.int 1 v]}).objs.size,[(s.heap.push {cls:=.type "range",data:=.fields #[.int lo t,.int hi u,.int 1 v]}).objs.size],_,_,H,rfl,
  I1.kept (t':=tk) λb o e=>wn _ e,zw9 _ lo (hi-lo).toNat,?_,λb hb=>?_,q⟩
 ·have e1:lo+((0:Nat):Int)*1=lo:=by simp
  have e2:(((hi-lo).toNat:Nat):Int)-((0:Nat):Int)=UA lo hi 1:=by rw[rangeSize_one];split<;>lia
  show IsRangeIter _ _ (lo+((0:Nat):Int)*1) ((((hi-lo).toNat:Nat):Int)-((0:Nat):Int)) 1
  rw[e1,e2];exact wS _ rfl
 ·have e:b=(s.heap.push {cls:=.type "range",data:=.fields #[.int lo t,.int hi u,.int 1 v]}).objs.size:=by simpa using hb
  subst e;exact I1.kR .Y (I1.aO.fresh .Y)
def EK(ta:TA):TI:=λσ H R=>ta σ H λvs H1=>∃j:Int,vs=[.int j] /\ -(2^62)<=j/\j<2^62/\R (gZ 0 j.toNat) H1
def TV(ta:TA):TI:=λσ H R=>ta σ H λvs H1=>∃i j:Int,vs=[.int i,.int j]/\(-(2^62)<=i/\i<2^62 /\ -(2^62)<=j/\j<2^62)/\R (gZ i (j-i).toNat) H1
theorem fA{a:Expr}{ta:TA}{p pos:Pos}(hg:Gl X "range")(hm:X.mg "range"=none)(ha:PA X [a] ta)(hs:wY [a] X.env=[(false,eval a X.env)]:=by rfl):PI X tg (.Call (.Name "range" p) [a] [] pos) (EK ta):=by
 intro pins s σ H R I h;refine Call_ (iL I hg hm boot_range (vF (aQ (ha pos pins s σ H _ I h) λus s1 ⟨vs,H1,I1,r1,q1⟩=>?_) hs rfl));obtain⟨j,e,q1,q2,q⟩:=q1;subst e;cases r1 with
 | cons r rr =>
  cases rr;obtain⟨t,rfl⟩:=r;exact call_range_1 (Ry I1 .a .a q1 q2 (by simpa using q))
theorem zyQ{a b:Expr}{ta:TA}{p pos:Pos}(hg:Gl X "range")(hm:X.mg "range"=none)(ha:PA X [a,b] ta)(hs:wY [a,b] X.env=[(false,eval a X.env),(false,eval b X.env)]:=by rfl)(hs2:wY [b] X.env=[(false,eval b X.env)]:=by rfl) :
  PI X tg (.Call (.Name "range" p) [a,b] [] pos) (TV ta):=by
 intro pins s σ H R I h;refine Call_ (iL I hg hm boot_range (vF (aQ (ha pos pins s σ H _ I h) λus s1 ⟨vs,H1,I1,r1,q1⟩=>?_) (by rw[hs,hs2]) (by rw[hs2];rfl)));obtain⟨i,j,e,⟨q1,q2,q3,q4⟩,q⟩:=q1;subst e;cases r1 with
 | cons r rr =>
  cases rr with
  | cons r' rr =>
   cases rr;obtain⟨t,rfl⟩:=r;obtain⟨t',rfl⟩:=r';exact call_range_2 (Ry I1 q1 q2 q3 q4 q)
def oB(wi:TI)(g:TG)(tb:TS):TS:=λD σ H=>wi σ H λJ H1=>∃W:Nat->Nat->St->Hp->Prop,(∃m,W 0 m σ H1) /\ ∀i m σ H,W i m σ H ->
 (J.stop i H/\D.nx σ H)\/(J.go i H /\ ∃N:St->Hp->Prop,(∀σ' H',N σ' H'->∃m',m'<m/\W (i+1) m' σ' H') /\ ∀x H',J.fW i H x H'->g x σ H' λσ2 H2=>tb {D with nx:=N,ct:=N,bk:=D.nx} σ2 H2)
def sS(fp:.bp)(h:wJ):List (we × Obj):=fp.filterMap λb=>(h.get? b).map λo=>(b,o)
theorem BE{h:wJ}{b:we}{o:Obj}(hb:b∈fp)(e:h.get? b=some o):(b,o)∈sS fp h:=xb.mpr ⟨b,hb,by rw[e];rfl⟩
theorem zy1{h:wJ}{p:we × Obj}(hp:p∈sS fp h):p.1∈fp/\h.get? p.1=some p.2:=by
 obtain⟨b,hb,e⟩:=xb.mp hp;cases q:h.get? b with
 | none=>rw[q]at e;cases e
 | some o =>
  rw[q]at e;have e':(b,o)=p:=wI e;subst e';exact⟨hb,q⟩
theorem Inv.pinned{pins:.l}{s:wm}(I:.n)(hf:∀b∈fp,fm X pins H b)(ho:∀b∈fp,∃o,s.heap.get? b=some o /\ ∀v,o.data≠.cell v):Inv X (pins++sS fp s.heap) σ H s :=
 I.M0 λp hp=>(Wc.mp hp).elim (λz=>I.pin p (Wo _ z)) λz=>by
  obtain⟨hb,e⟩:=zy1 z;obtain⟨f0,f1,f2,_⟩:=hf p.1 hb;obtain⟨o,e',d⟩:=ho p.1 hb;rw[e]at e';cases e';exact⟨e,f0,f1,f2,d⟩
theorem Inv.yF{pins pl:.l}{s:wm}(I:Inv X (pins++pl) σ H s):Inv X pins σ H s:=I.M0 λp hp=>I.pin p (Wo _ (V3 _ hp))
theorem eA{iter:Expr}{body:List w6}{wi:TI}{g:TG}{tb:TS}{pos:Pos}(hp:PassesOwn .o X.A X.env X.xe)(hc:.bu)(hi:PI X tg iter wi)(hg:PG X tg g)(hb:fZ X body tb)
  (hs:∀x,foldedSetIterable iter X.env x=pure x:=by intro _;rfl):PS X (.For tg iter body [] pos) (oB wi g tb):=by
 intro pins s σ H D I h;refine wpAny_For (aQ (hi pins s σ H _ I h) λv s1 h1=>aQ h1 λitv s2 h2=>?_) hs;obtain⟨it,fp,tn,J,H2,e,I2,T,st2,f2,W,⟨m0,w0⟩,turn⟩:=h2;subst e
 have stat:∀{H':Hp},(∀b∈fp,H' b=none)->∀b∈fp,fm X pins H' b:=λhn b hb=>⟨hn b hb,(f2 b hb).2⟩
 refine codeAny_forLoop_any (λn s'=>∃i σ' H',Inv X pins σ' H' s'/\tn i s'.heap/\(∀b∈fp,H' b=none)/\W i n σ' H') ?_ m0 ⟨0,σ,H2,I2,st2,λb hb=>(f2 b hb).1,w0⟩;rintro n s3 hz;obtain⟨i,σ3,H3,I3,st3,fr3,w3⟩:=hz;rcases turn i n σ3 H3 w3 with⟨stop,qn⟩ | ⟨go,N,hN,step⟩
 ·refine VP hp (aQ (T.done X rfl rfl rfl hc i pins s3 σ3 H3 X.xe I3 (stat fr3) st3 stop) λr s4 ⟨hr,I4⟩=>?_)
  subst hr;exact qV ⟨σ3,H3,I4,qn⟩
 ·refine VP hp (aQ (T.item X rfl rfl rfl hc i pins s3 σ3 H3 X.xe I3 (stat fr3) st3 go) λr s4 ⟨u,hr,h4⟩=>?_)
  subst hr;refine VP hp (aQ h4 λ_ s5 ⟨x,H5,I5,r5,y5,st5,fr5⟩=>?_);have I5':=I5.pinned (stat fr5) (T.obj _ _ st5);refine VP hp (aQ (hg _ s5 σ3 H5 x u _ I5' r5 (step x H5 y5)) λ_ s6 ⟨σ6,H6,I6,q6⟩=>?_);refine VP hp (aQ (hb _ s6 σ6 H6 _ I6 q6) λf s7 q7=>?_)
  have again:∀{σ7:St}{H7:Hp},Inv X (pins++sS fp s5.heap) σ7 H7 s7->N σ7 H7->∃m,m<n /\ ∃i σ' H',Inv X pins σ' H' s7/\tn i s7.heap/\(∀b∈fp,H' b=none)/\W i m σ' H':=λ{σ7 H7} I7 n7=>by
   obtain⟨m',hm,w7⟩:=hN σ7 H7 n7;refine⟨m',hm,i+1,σ7,H7,I7.yF,T.keep _ _ _ st5 λb hb o e=>(I7.pin (b,o) (Wo _ (Wo _ (BE hb e)))).1,λb hb=>?_,w7⟩;obtain⟨o,e,d⟩:=T.obj _ _ st5 b hb;exact(I7.pin (b,o) (Wo _ (Wo _ (BE hb e)))).2.1
  cases f with
  | next=>obtain⟨σ7,H7,I7,n7⟩:=q7;exact again I7 n7
  | cont=>obtain⟨σ7,H7,I7,n7⟩:=q7;exact again I7 n7
  | brk=>obtain⟨σ7,H7,I7,q7⟩:=q7;exact⟨σ7,H7,I7.yF,q7⟩
  | ret v=>obtain⟨x7,σ7,H7,I7,r7,q7⟩:=q7;exact⟨x7,σ7,H7,I7.yF,r7,q7⟩
end
variable{tb:TS}{D:c_}{σ:St}{H:Hp}
theorem zBi{K:wa}{a:we}{xs:.x}{g:TG}(Pv:Nat->St->Hp->Prop)(h0:Pv 0 σ H)(hl:∀i σ H,i<=xs.length->Pv i σ H->aE K H a xs)
  (hs:∀i x σ H,xs[i]? = some x->Pv i σ H->g x σ H λσ2 H2=>tb {D with nx:=Pv (i+1),ct:=Pv (i+1),bk:=D.nx} σ2 H2) (hd:∀σ H,Pv xs.length σ H->D.nx σ H) :
  ∃W:Nat->Nat->St->Hp->Prop,(∃m,W 0 m σ H) /\ ∀i m σ H,W i m σ H ->
   ((kA K a).stop i H/\D.nx σ H)\/((kA K a).go i H /\ ∃N:St->Hp->Prop,(∀σ' H',N σ' H'->∃m',m'<m/\W (i+1) m' σ' H') /\ ∀x H',(kA K a).fW i H x H'->g x σ H' λσ2 H2=>tb {D with nx:=N,ct:=N,bk:=D.nx} σ2 H2):=by
 refine⟨λi m σ H=>m=xs.length-i/\i<=xs.length/\Pv i σ H,⟨xs.length,by simp,WN _,h0⟩,?_⟩;rintro i m σ H ⟨rfl,hi,p⟩;have q:=hl i σ H hi p
 by_cases hlt:i<xs.length
 ·refine .inr ⟨⟨xs,xs[i],q,by simp[hlt]⟩,Pv (i+1),λσ' H' p'=>⟨xs.length-(i+1),by lia,rfl,hlt,p'⟩,λx H' y=>?_⟩
  obtain⟨e,y⟩:=y;subst e;exact hs i x σ _ (y xs q) p
 ·have e:i=xs.length:=by lia
  subst e;exact .inl ⟨⟨xs,q,wo _⟩,hd σ H p⟩
theorem zDV{K:wa}{a:we}{xs:.x}{g:TG}(Pv:Nat->St->Hp->Prop)(h0:Pv 0 σ H)(hl:∀i σ H,i<=xs.length->Pv i σ H->aV K H a xs)
  (hs:∀i x σ H,xs[i]? = some x->Pv i σ H->g x σ H λσ2 H2=>tb {D with nx:=Pv (i+1),ct:=Pv (i+1),bk:=D.nx} σ2 H2) (hd:∀σ H,Pv xs.length σ H->D.nx σ H) :
  ∃W:Nat->Nat->St->Hp->Prop,(∃m,W 0 m σ H) /\ ∀i m σ H,W i m σ H ->
   ((kC K a).stop i H/\D.nx σ H)\/((kC K a).go i H /\ ∃N:St->Hp->Prop,(∀σ' H',N σ' H'->∃m',m'<m/\W (i+1) m' σ' H') /\ ∀x H',(kC K a).fW i H x H'->g x σ H' λσ2 H2=>tb {D with nx:=N,ct:=N,bk:=D.nx} σ2 H2):=by
 refine⟨λi m σ H=>m=xs.length-i/\i<=xs.length/\Pv i σ H,⟨xs.length,by simp,WN _,h0⟩,?_⟩;rintro i m σ H ⟨rfl,hi,p⟩;have q:=hl i σ H hi p
 by_cases hlt:i<xs.length
 ·refine .inr ⟨⟨xs,xs[i],q,by simp[hlt]⟩,Pv (i+1),λσ' H' p'=>⟨xs.length-(i+1),by lia,rfl,hlt,p'⟩,λx H' y=>?_⟩
  obtain⟨e,y⟩:=y;subst e;exact hs i x σ _ (y xs q) p
 ·have e:i=xs.length:=by lia
  subst e;exact .inl ⟨⟨xs,q,wo _⟩,hd σ H p⟩
theorem UP{lo:Int}{n:Nat}{g:TG}(Pv:Nat->St->Hp->Prop)(h0:Pv 0 σ H)
  (hs:∀i σ H,i<n->Pv i σ H->g (.int (lo+i)) σ H λσ2 H2=>tb {D with nx:=Pv (i+1),ct:=Pv (i+1),bk:=D.nx} σ2 H2) (hd:∀σ H,Pv n σ H->D.nx σ H) :
  ∃W:Nat->Nat->St->Hp->Prop,(∃m,W 0 m σ H) /\ ∀i m σ H,W i m σ H ->
   ((gZ lo n).stop i H/\D.nx σ H)\/((gZ lo n).go i H /\ ∃N:St->Hp->Prop,(∀σ' H',N σ' H'->∃m',m'<m/\W (i+1) m' σ' H') /\ ∀x H',(gZ lo n).fW i H x H'->g x σ H' λσ2 H2=>tb {D with nx:=N,ct:=N,bk:=D.nx} σ2 H2):=by
 refine⟨λi m σ H=>m=n-i/\i<=n/\Pv i σ H,⟨n,by simp,WN _,h0⟩,?_⟩;rintro i m σ H ⟨rfl,hi,p⟩
 by_cases hlt:i<n
 ·refine .inr ⟨hlt,Pv (i+1),λσ' H' p'=>⟨n-(i+1),by lia,rfl,hlt,p'⟩,λx H' y=>?_⟩
  obtain⟨e,y⟩:=y;subst e y;exact hs i σ _ hlt p
 ·have e:i=n:=by lia
  subst e;exact .inl ⟨wo _,hd σ H p⟩
abbrev R2:=V->V->Hp->VK->Prop
def bL(X:Cx)(f:wf->wf->Sem wf)(r:R2):Prop :=
 ∀(pins:.l)(s:wm)(σ : St)(H:Hp)(x y:V)(v u:wf)(Q:VK),Inv X pins σ H s->bK x v->bK y u->r x y H Q ->
  wx .o X.A (f v u) (EP X pins σ Q) X.xe s
def Hm(X:Cx)(f:wf->Sem wf)(r:V->Hp->VK->Prop):Prop :=
 ∀(pins:.l)(s:wm)(σ : St)(H:Hp)(x:V)(v:wf)(Q:VK),Inv X pins σ H s->bK x v->r x H Q ->
  wx .o X.A (f v) (EP X pins σ Q) X.xe s
def bM(X:Cx)(f:wf)(r:List V->Hp->VK->Prop):Prop :=
 ∀(pins:.l)(s:wm)(σ : St)(H:Hp)(xs:.x)(us:.J)(Q:VK),Inv X pins σ H s->aU xs us->r xs H Q ->
  wx .o X.A (call f us) (EP X pins σ Q) X.xe s
def zHm(X:Cx)(r:V->Hp->(Bool->Hp->Prop)->Prop):Prop :=
 ∀(pins:.l)(s:wm)(σ : St)(H:Hp)(x:V)(v:wf)(Q:Bool->Hp->Prop),Inv X pins σ H s->bK x v->r x H Q ->
  wx .o X.A (truthy v) (TP X pins σ Q) X.xe s
def jT(r:R2)(ta tb:TE):TE:=λσ H Q=>ta σ H λx H1=>tb σ H1 λy H2=>r x y H2 Q
def RH(r:V->Hp->VK->Prop)(ta:TE):TE:=λσ H Q=>ta σ H λx H1=>r x H1 Q
def rI(C:Int->Int->Prop)(g:Int->Int->V):R2:=λx y H Q=>∃i j,x=.int i/\y=.int j/\C i j/\Q (g i j) H
def jR(g:Int->Int->V):R2:=λx y H Q=>∃i j,x=.int i/\y=.int j/\Q (g i j) H
def rU(g:Int->V):V->Hp->VK->Prop:=λx H Q=>∃i,x=.int i/\Q (g i) H
section
variable{X:Cx}{a b c:Expr}{ta tb tc:TE}{pos:Pos}
theorem Dv(ha:PE X a ta)(hb:PE X b tb){pins:.l}{s:wm}{σ : St}{H:Hp}{R:V->V->Hp->Prop}(I:.n)
  (h:ta σ H λx H1=>tb σ H1 λy H2=>R x y H2) {Q:.m} {f:wf->wf->Sem wf}
  (hf:∀v u s2 x y H2,Inv X pins σ H2 s2->bK x v->bK y u->R x y H2->wx .o X.A (f v u) Q X.xe s2) :
  wx .o X.A (eval a X.env) (λv s₁=>wx .o X.A (eval b X.env) (λu s₂=>wx .o X.A (f v u) Q X.xe s₂) X.xe s₁) X.xe s:=by
 refine aQ (ha pins s σ H _ I h) λv s1 ⟨x,H1,I1,r1,q1⟩=>?_
 refine aQ (hb pins s1 σ H1 _ I1 q1) λu s2 ⟨y,H2,I2,r2,q2⟩=>?_
 exact hf v u s2 x y H2 I2 r1 r2 q2
theorem aD{op:Operator}{r:R2}(ho:bL X (WQ op) r)(ha:PE X a ta)(hb:PE X b tb):PE X (.BinOp a op b pos) (jT r ta tb):=by
 intro pins s σ H Q I h;exact wpAny_BinOp (Dv ha hb I h λv u s2 x y H2 I2 rx ry q=>ho pins s2 σ H2 x y v u Q I2 rx ry q)
theorem gy{op:UnaryOp}{r:V->Hp->VK->Prop}(ho:Hm X (unaryOp op) r)(ha:PE X a ta):PE X (.UnaryOp op a pos) (RH r ta):=by
 intro pins s σ H Q I h;exact UnaryOp_ (aQ (ha pins s σ H _ I h) λv s1 ⟨x,H1,I1,r1,q1⟩=>ho pins s1 σ H1 x v Q I1 r1 q1)
theorem B5{f:wf->wf->Sem wf}{C:Int->Int->Prop}{g:Int->Int->Int}
  (rule:∀(i j:Int)(t u:Tok)(s:wm)(Q:.m)(E:.m),C i j->Q (.int (g i j) s.toks) {s with toks:=s.toks+1}->wx .o X.A (f (.int i t) (.int j u)) Q E s) :
  bL X f (rI C λi j=>.int (g i j)):=by
 intro pins s σ H x y v u Q I rx ry h;obtain⟨i,j,rfl,rfl,hc,q⟩:=h;obtain⟨t,rfl⟩:=rx;obtain⟨t',rfl⟩:=ry;exact rule i j t t' s _ _ hc ⟨.int (g i j),H,I.tok _,⟨_,rfl⟩,q⟩
theorem Ta{f:wf->wf->Sem wf}{g:Int->Int->Int}
  (rule:∀(i j:Int)(t u:Tok)(s:wm)(Q:.m)(E:.m),Q (.int (g i j) s.toks) {s with toks:=s.toks+1}->wx .o X.A (f (.int i t) (.int j u)) Q E s) :
  bL X f (jR λi j=>.int (g i j)):=by
 intro pins s σ H x y v u Q I rx ry h;obtain⟨i,j,rfl,rfl,q⟩:=h;obtain⟨t,rfl⟩:=rx;obtain⟨t',rfl⟩:=ry;exact rule i j t t' s _ _ ⟨.int (g i j),H,I.tok _,⟨_,rfl⟩,q⟩
theorem Cg{f:wf->wf->Sem wf}{g:Int->Int->Bool}
  (rule:∀(i j:Int)(t u:Tok)(s:wm)(Q:.m)(E:.m),Q (.bool (g i j)) s->wx .o X.A (f (.int i t) (.int j u)) Q E s) :
  bL X f (jR λi j=>.bl (g i j)):=by
 intro pins s σ H x y v u Q I rx ry h;obtain⟨i,j,rfl,rfl,q⟩:=h;obtain⟨t,rfl⟩:=rx;obtain⟨t',rfl⟩:=ry;exact rule i j t t' s _ _ ⟨.bl (g i j),H,I,rfl,q⟩
def TJ(i j:Int):Prop:=0<=j/\j<=1000000/\i.natAbs<2^64
theorem zFy:bL X (WQ .Add) (jR λi j=>.int (i+j)):=Ta λ_ _ _ _ _ _ _ q=>add_int q
theorem ic:bL X (WQ .Sub) (jR λi j=>.int (i-j)):=Ta λ_ _ _ _ _ _ _ q=>sub_int q
theorem iN:bL X (WQ .Mod) (rI (λ_ j=>0<j) λi j=>.int (i % j)):=B5 λi j _ _ _ _ _ hc q=>by
 have h1:(0:Int)<j:=hc;exact mod_int' .a (by rw[Int.fmod_eq_emod_of_nonneg i .a];exact q)
theorem zFF:bL X (WQ .Pow) (rI TJ λi j=>.int (i^j.toNat)):=B5 λ_ _ _ _ _ _ _ hc q=>pow_int_small hc.1 hc.2.1 hc.2.2 q
theorem unI{f:wf->Sem wf}{g:Int->Int}
  (rule:∀(i:Int)(t:Tok)(s:wm)(Q:.m)(E:.m),Q (.int (g i) s.toks) {s with toks:=s.toks+1}->wx .o X.A (f (.int i t)) Q E s) :
  Hm X f (rU λi=>.int (g i)):=by
 intro pins s σ H x v Q I rx h;obtain⟨i,rfl,q⟩:=h;obtain⟨t,rfl⟩:=rx;exact rule i t s _ _ ⟨.int (g i),H,I.tok _,⟨_,rfl⟩,q⟩
theorem gC:Hm X (unaryOp .USub) (rU λi=>.int (-i)):=unI λ_ _ _ _ _ q=>neg_int q
end
section
variable{X:Cx}{a b c:Expr}{ta tb tc:TE}{pos:Pos}
variable{r r':R2}{op:CmpOp}
theorem yR{pins:.l}{σ : St}{H:Hp}{s:wm}{Q:VK}{k k':Bool}(I:.n)(q:Q (.bl k) H)(e:k=k'):EP X pins σ Q (.bool k') s:=by
 subst e;exact⟨.bl k,H,I,rfl,q⟩
theorem mQ :bL X (vG .Lt) (jR λi j=>.bl (decide (i<j))):=Cg λ_ _ _ _ _ _ _ q=>lt_int q
theorem nM :bL X (vG .LtE) (jR λi j=>.bl (decide (i<=j))):=Cg λ_ _ _ _ _ _ _ q=>le_int q
theorem nP :bL X (vG .Gt) (jR λi j=>.bl (decide (j<i))):=Cg λ_ _ _ _ _ _ _ q=>gt_int q
theorem A6 :bL X (vG .GtE) (jR λi j=>.bl (decide (j<=i))):=Cg λ_ _ _ _ _ _ _ q=>ge_int q
theorem zFU :bL X (vG .Is) (λx y H Q=>y=.bE/\Q (.bl (decide (x=.bE))) H):=by
 intro pins s σ H x y v u Q I rx ry h;obtain⟨rfl,q⟩:=h;cases ry;refine is_none_gen (yR I q ?_)
 cases x<;>first
  | (cases rx;rfl)
  | (obtain⟨t,rfl⟩:=rx;rfl)
theorem zDw :bL X (vG .IsNot) (λx y H Q=>y=.bE/\Q (.bl (!decide (x=.bE))) H):=by
 intro pins s σ H x y v u Q I rx ry h;obtain⟨rfl,q⟩:=h;cases ry;refine isnot_none_gen (yR I q ?_)
 cases x<;>first
  | (cases rx;rfl)
  | (obtain⟨t,rfl⟩:=rx;rfl)
theorem bL.or{f:wf->wf->Sem wf}(h:bL X f r)(h':bL X f r'):bL X f (λx y H Q=>r x y H Q\/r' x y H Q):=by
 intro pins s σ H x y v u Q I rx ry q;rcases q with q | q
 ·exact h pins s σ H x y v u Q I rx ry q
 ·exact h' pins s σ H x y v u Q I rx ry q
theorem dF(b:Expr)(h:op≠.In:=by decide)(h2:op≠.NotIn:=by decide):behindInMarks op b=false:=by
 have e1:(op == CmpOp.In)=false:=by cases op<;>first | rfl | exact absurd rfl h
 have e2:(op == CmpOp.NotIn)=false:=by cases op<;>first | rfl | exact absurd rfl h2
 cases b<;>simp[behindInMarks,e1,e2]
theorem jk(ho:bL X (vG op) r)(ha:PE X a ta)(hb:PE X b tb)(hm:behindInMarks op b=false):PE X (.Compare a [op] [b] pos) (jT r ta tb):=by
 intro pins s σ H Q I h;exact wpAny_Compare1 (Dv ha hb I h λv u s2 x y H2 I2 rx ry q=>ho pins s2 σ H2 x y v u Q I2 rx ry q) hm
def tK(t:TE):TT:=λσ H Q=>t σ H λx H'=>∃k,x=.bl k/\Q k H'
theorem dP(ho:bL X (vG op) r)(ha:PE X a ta)(hb:PE X b tb)(hm:behindInMarks op b=false):PT X (.Compare a [op] [b] pos) (tK (jT r ta tb)):=by
 intro pins s σ H Q I h
 refine wpAny_isTrue_Compare1 (aQ (ha pins s σ H _ I h) λv s1 ⟨x,H1,I1,r1,q1⟩=>aQ (hb pins s1 σ H1 _ I1 q1) λu s2 ⟨y,H2,I2,r2,q2⟩ =>
  aQ (ho pins s2 σ H2 x y v u _ I2 r1 r2 q2) λc s3 ⟨z,H3,I3,r3,k,e,q3⟩=>?_) hm
 subst e;cases r3;exact Wx ⟨H3,I3,q3⟩
def IF(r r':R2)(ta tb tc:TE):TE:=λσ H Q=>ta σ H λx H1=>tb σ H1 λy H2=>r x y H2 λz H3=>∃k,z=.bl k /\
 (if k=true then tc σ H3 λw' H4=>r' y w' H4 Q else Q (.bl false) H3)
theorem zAK{op':CmpOp}(ho:bL X (vG op) r)(ho':bL X (vG op') r')(ha:PE X a ta)(hb:PE X b tb)(hc:PE X c tc)
  (hm:lastMarks [op,op'] [b,c]=false:=by with_unfolding_all rfl):PE X (.Compare a [op,op'] [b,c] pos) (IF r r' ta tb tc):=by
 intro pins s σ H Q I h
 refine Compare_chain (aQ (ha pins s σ H _ I h) λv s1 ⟨x,H1,I1,r1,q1⟩=>chain_link (aQ (hb pins s1 σ H1 _ I1 q1) λu s2 ⟨y,H2,I2,r2,q2⟩ =>
  aQ (ho pins s2 σ H2 x y v u _ I2 r1 r2 q2) λd s3 ⟨z,H3,I3,r3,k,e,q3⟩=>?_)) hm
 subst e;cases r3;refine Wx ?_;cases k with
 | false=>exact ite_ff ⟨.bl false,H3,I3,rfl,q3⟩
 | true=>exact ite_tt (chain_last (aQ (hc pins s3 σ H3 _ I3 q3) λw' s4 ⟨z',H4,I4,r4,q4⟩=>ho' pins s4 σ H4 y z' u w' Q I4 r2 r4 q4))
theorem zBv{op':CmpOp}(ho:bL X (vG op) r)(ho':bL X (vG op') r')(ha:PE X a ta)(hb:PE X b tb)(hc:PE X c tc)
  (hm:lastMarks [op,op'] [b,c]=false:=by with_unfolding_all rfl):PT X (.Compare a [op,op'] [b,c] pos) (tK (IF r r' ta tb tc)):=by
 intro pins s σ H Q I h
 refine isTrue_chain (aQ (ha pins s σ H _ I h) λv s1 ⟨x,H1,I1,r1,q1⟩=>test_link (aQ (hb pins s1 σ H1 _ I1 q1) λu s2 ⟨y,H2,I2,r2,q2⟩ =>
  aQ (ho pins s2 σ H2 x y v u _ I2 r1 r2 q2) λd s3 ⟨z,H3,I3,r3,k,e,q3⟩=>?_)) hm
 subst e;cases r3;refine Wx ?_;cases k with
 | false =>
  obtain⟨k',e',q'⟩:=q3;cases e';exact ite_ff ⟨H3,I3,q'⟩
 | true =>
  refine ite_tt (test_last (aQ (hc pins s3 σ H3 _ I3 q3) λw' s4 ⟨z',H4,I4,r4,q4⟩=>aQ (ho' pins s4 σ H4 y z' u w' _ I4 r2 r4 q4) λd' s5 ⟨z2,H5,I5,r5,k2,e2,q5⟩=>?_));subst e2;cases r5;exact Wx ⟨H5,I5,q5⟩
def Ic(K:wa)(x:V)(H:Hp)(k:Bool):Prop :=
 match x with
 | .bE=>k=false
 | .bl b=>k=b
 | .int i=>k=(i != 0)
 | .str y=>y.length<=vd/\k=((y.length:Int) != 0)
 | .byt y=>y.size<=vd/\k=((y.size:Int) != 0)
 | .ref p=>(∃xs,aE K H p xs/\k = !xs.isEmpty)\/(∃xs,aV K H p xs/\k = !xs.isEmpty) \/ ∃kvs,H p=some (.dK kvs)/\k = !kvs.isEmpty
 | _=>False
theorem zwr{κ : Type}{kvs:List (κ × V)}{vs:List (κ × wf)}(r:KV kvs vs):(!vs.isEmpty) = !kvs.isEmpty:=by
 cases r<;>rfl
theorem zp3{xs:.x}{its:.J}(r:aU xs its):(!its.toArray.isEmpty) = !xs.isEmpty:=by
 cases r<;>simp
theorem pb :(vd:Nat)<2^63:=by rw[sizeLine_eq];decide
theorem zFG :zHm X (λx H Q=>∃k,Ic X.K x H k/\Q k H):=by
 intro pins s σ H x v Q I rx h;obtain⟨k,e,q⟩:=h;have hl:=pb;have hs:vd=16777216:=sizeLine_eq;cases x with
 | bE =>
  cases rx;have e':k=false:=e;subst e';exact truthy_none ⟨H,I,q⟩
 | bl b =>
  cases rx;have e':k=b:=e;subst e';exact Wx ⟨H,I,q⟩
 | int i =>
  obtain⟨t,rfl⟩:=rx;have e':k=(i != 0):=e;subst e';exact PySem.P.truthy_int ⟨H,I,q⟩
 | str y =>
  obtain⟨t,rfl⟩:=rx;obtain⟨hy,e'⟩:y.length<=vd/\k=((y.length:Int) != 0):=e;subst e';exact PySem.P.truthy_str .a ⟨H,I.tok _,q⟩
 | byt y =>
  obtain⟨t,rfl⟩:=rx;obtain⟨hy,e'⟩:y.size<=vd/\k=((y.size:Int) != 0):=e;subst e';exact PySem.W.truthy_bytes .a ⟨H,I.tok _,q⟩
 | ref p =>
  cases rx;have e':(∃xs,aE X.K H p xs/\k = !xs.isEmpty)\/(∃xs,aV X.K H p xs/\k = !xs.isEmpty) \/ ∃kvs,H p=some (.dK kvs)/\k = !kvs.isEmpty:=e;rcases e' with⟨xs,hx,e'⟩ | ⟨xs,hx,e'⟩ | ⟨kvs,hx,e'⟩
  ·subst e'
   obtain⟨its,r,pl,hz⟩:=I.list hx;have hlen:=r.length;exact wpAny_truthy_list pl.isList (by simp only[wP];lia) ⟨H,I.tok _,by rw[zp3 r];exact q⟩
  ·subst e'
   obtain⟨its,r,pl,hz⟩:=I.tuple hx;have hlen:=r.length;exact truthy_tuple pl (by simp only[wP];lia) ⟨H,I.tok _,by rw[zp3 r];exact q⟩
  ·subst e'
   obtain⟨hz,hS,vs,r,m⟩:kvs.length<=vd/\(p == sysModules)=false /\ ∃vs,KV kvs vs/\s.heap.DictOf (IX X.prog X.w) p vs:=I.aO p _ hx;have hlen:kvs.length=vs.length:=Ul r;exact wpAny_truthy_dict hS m .a ⟨H,I.tok _,by rw[zwr r];exact q⟩
 | _=>exact(show False from e).elim
theorem zzT(ha:PE X a ta)(he:∀whole,isTrue a X.env whole=(do let v <- whole;standAt a.pos;holding [v] (truthy v))) :
  PT X a (λσ H Q=>ta σ H λx H'=>∃k,Ic X.K x H' k/\Q k H'):=by
 intro pins s σ H Q I h;exact isTrue_plain (aQ (ha pins s σ H _ I h) λv s1 ⟨x,H1,I1,r1,q1⟩=>zFG pins s1 σ H1 x v Q I1 r1 q1) (he _)
theorem zw3 :bL X (WQ .Add) (λx y H Q=>∃i j,x=.str i/\y=.str j/\i.length+j.length<=vd/\Q (.str (i++j)) H):=by
 intro pins s σ H x y v u Q I rx ry h;obtain⟨i,j,rfl,rfl,hz,q⟩:=h;obtain⟨t,rfl⟩:=rx;obtain⟨t',rfl⟩:=ry;exact add_str (λt' tk=>⟨.str (i++j),H,I.tok _,⟨_,rfl⟩,q⟩) hz
theorem iD{x:V}{us:.J}(r:aU [x] us):∃u,us=[u]/\bK x u:=by
 cases r with
 | cons r1 r2=>cases r2;exact⟨_,rfl,r1⟩
theorem oo{x y:V}{us:.J}(r:aU [x,y] us):∃u w',us=[u,w']/\bK x u/\bK y w':=by
 cases r with
 | cons r1 r2 =>
  cases r2 with
  | cons r3 r4=>cases r4;exact⟨_,_,rfl,r1,r3⟩
theorem zzS :bM X (.builtin "abs") (λxs H Q=>∃i,xs=[.int i]/\Q (.int (if i<0 then -i else i)) H):=by
 intro pins s σ H xs us Q I r h;obtain⟨i,rfl,q⟩:=h;obtain⟨u,rfl,t,rfl⟩:=iD r;exact call_abs_int λu tk=>⟨.int (if i<0 then -i else i),H,I.tok _,⟨_,rfl⟩,q⟩
theorem zyA(hc:.bu):bM X (.builtin "min") (λxs H Q=>∃i j,xs=[.int i,.int j]/\Q (.int (if j<i then j else i)) H):=by
 intro pins s σ H xs us Q I r h;obtain⟨i,j,rfl,q⟩:=h;obtain⟨u,w',rfl,⟨t,rfl⟩,⟨t',rfl⟩⟩:=oo r;refine min_two_ints .aE λh' tk k=>⟨_,H,I.kept k,?_,q⟩
 by_cases hj:j<i
 ·rw[if_pos hj,if_pos hj];exact⟨_,rfl⟩
 ·rw[if_neg hj,if_neg hj];exact⟨_,rfl⟩
end
section
variable{prog:wK}{w:wO}{A:vg}{E:.m}{s:wm}{K:wa}{x dx C f:we}{mA:.I}{name:Str}{v:wf}
end
section
variable{P:wK}{w:wO}{H H':Hp}{h h':wJ}{a C dx:we}{fs fs':List (Str × V)}
end
section
variable{X:Cx}{pins:.l}{σ : St}{H:Hp}{s:wm}{a C dx:we}{fs:List (Str × V)}{f:Str}{v:V}{A:vg}{E:.m}
end
section
variable{X:Cx}{o e value:Expr}{f:Str}{pos pos' tpos:Pos}{ta tv:TE}
end
section
variable{X:Cx}{pins:.l}{σ : St}{H:Hp}{s:wm}{A:vg}{E:.m}{Q:.m}{c:wf}{b:Bool}
end
variable{k:Nat}{A:vg}
structure eT(k:Nat)(A:vg):Prop where
 hd:A.handled=none
 dp:A.depth+3*k+5<recursionLimit
 un:A.units+16*k+200<WC
 gd:A.guards=some []
theorem eT.mono{j:Nat}(r:eT k A)(h:j<=k):eT j A:=⟨r.hd,by have:=r.dp;lia,by have:=r.un;lia,by first | exact r.gd | (simp[Uy,Code.guards,Uz,guardIds];exact r.gd)⟩
theorem eT.deeper(r:eT (k+1) A)(env:Env):eT k (A.deeper env) :=
 ⟨r.hd,by have:=r.dp;show A.depth+1+3*k+5<_;lia,by have:=r.un;show A.units+3+16*k+200<_;lia,by first | exact r.gd | (simp[Uy,Code.guards,Uz,guardIds];exact r.gd)⟩
theorem eT.depth(r:eT k A):A.depth<recursionLimit:=by have:=r.dp;lia
theorem eT.units(r:eT k A):A.units+64<WC:=by have:=r.un;lia
def pH:TA:=λ_ H Q=>Q [] H
def lG(ta:TE)(tr:TA):TA:=λσ H Q=>ta σ H λx H1=>tr σ H1 λxs H2=>Q (x::xs) H2
section
variable{X:Cx}{e:Expr}{es:.ak}{te:TE}{t:TA}{pos:Pos}
theorem ah:PA X [] pH:=λ_ _ _ _ H Q I h=>xo ⟨[],H,I,.nil,h⟩
theorem ae(ha:PE X e te)(hr:PA X es t)(hs:wY (e::es) X.env=(false,eval e X.env)::wY es X.env:=by rfl):PA X (e::es) (lG te t):=by
 intro pos pins s σ H Q I h;rw[hs]
 show wx _ _ (spliced ((false,eval e X.env)::V1 pos (wY es X.env))) _ _ s
 refine xc (aQ (ha pins s σ H _ I h) λu s1 ⟨x,H1,I1,r1,q1⟩=>?_);exact aQ (hr pos pins s1 σ H1 _ I1 q1) λus s2 ⟨xs,H2,I2,r2,q2⟩=>⟨x::xs,H2,I2,.cons r1 r2,q2⟩
def zHf(t:TA):TE:=λσ H Q=>t σ H λxs H1=>xs.length<=vd /\ ∀p,H1 p=none->Q .aA (upd H1 p (.tup xs))
def zHn(t:TA):TE:=λσ H Q=>t σ H λxs H1=>xs.length<=vd /\ ∀p,H1 p=none->Q .aA (upd H1 p (.lst xs))
theorem zF4{x1}(h:PA X es t):PE X (.Tuple es x1 pos) (zHf t):=by
 intro pins s σ H Q I hq;refine wpAny_Tuple_spliced (aQ (h pos pins s σ H _ I hq) λus s1 ⟨xs,H1,I1,r,z,q⟩=>⟨by rw[<- r.length];exact z,?_⟩);have hf:H1 s1.heap.objs.size=none:=I1.aO.fresh .Y;refine⟨.ref s1.heap.objs.size,upd H1 s1.heap.objs.size (.tup xs),I1.laid (t':=s1.toks) (λb u e=>wn _ e) .Y ?_,rfl,q _ hf⟩;exact⟨z,us,r,⟨_,wS _ rfl,rfl,_,rfl⟩⟩
theorem zFq(h:PA X es t):PE X (.List es pos) (zHn t):=by
 intro pins s σ H Q I hq;refine wpAny_List_spliced (aQ (h pos pins s σ H _ I hq) λus s1 ⟨xs,H1,I1,r,z,q⟩=>⟨by rw[<- r.length];exact z,?_⟩);have hf:H1 s1.heap.objs.size=none:=I1.aO.fresh .Y;refine⟨.ref s1.heap.objs.size,upd H1 s1.heap.objs.size (.lst xs),I1.laid (t':=s1.toks) (λb u e=>wn _ e) .Y ?_,rfl,q _ hf⟩;exact⟨z,us,0,r,wS _ rfl⟩
end
abbrev Sp:=List V->Hp->VK->XK->Prop
abbrev gx:=List Env->Hp->wm->XK->wf->wm->Prop
structure A2(P:wK)(w:wO)(K:wa)(mg:.I)(base:wJ)(A:vg)(outer:.bj)(s:wm)(H:Hp):Prop where
 frames:A.frames=some outer
 mod:Mod K mg base
 bs:∀b o,base.get? b=some o->s.heap.get? b=some o/\H b=none
 jJ:base.objs.size<=s.heap.objs.size
 fH:s.heap.FunFrames base outer
 kz:∀b∈eH outer,H b=none
 aO:dR P w H s.heap
 bare:AllBare s.gens
def CE(outer:.bj)(P:wK)(w:wO)(H:Hp)(s:wm)(Q:VK)(u:wf)(s':wm):Prop :=
 ∃v H',s'.os=s.os/\AllBare s'.gens/\Un (eH outer) [] H H' s.heap s'.heap/\dR P w H' s'.heap/\bK v u/\Q v H'
def CR(CX:gx)(outer:.bj)(P:wK)(w:wO)(H:Hp)(s:wm)(Q:VK)(E:XK)(r:Result)(s':wm):Prop :=
 match r with
 | .ok (.ret u)=>CE outer P w H s Q u s'
 | .ok _=>False
 | .error e=>CX outer H s E e s'
structure aG(P:wK)(w:wO)(K:wa)(mg:.I)(base:wJ)(CX:gx)(k:Nat)(f:we)(fd:wA)(ps:.Q)(sp:Sp):Prop where
 len:∀vs H Q E,sp vs H Q E->vs.length=ps.length
 run:∀(A:vg)(outer:.bj)(s:wm)(H:Hp)(args:Args)(us:.J)(vs:.x)(Q:VK)(E:XK),eT k A->A2 P w K mg base A outer s H->BindsTo s fd args (ps.zip us)->aU vs us->sp vs H Q E ->
   codeAny (model P w) A (.call (.ref f) args) (CR CX outer P w H s Q E) s
section
variable{X:Cx}{pins:.l}{σ : St}{H:Hp}{s s':wm}
theorem Inv.Nt(I:.n):A2 X.prog X.w X.K X.mg X.base X.A X.stack s H :=
 ⟨I.ok.frames,I.ok.mod,I.bs,Wb I.ok.jJ I.sz,I.stack,I.yG,I.aO,I.bare⟩
theorem Inv.after{Q:VK}{u:wf}(I:.n)(h:CE X.stack X.prog X.w H s Q u s'):EP X pins σ Q u s':=by
 obtain⟨v,H',os,bare,un,aO,r,q⟩:=h;obtain⟨hh,g,d,t,os'⟩:=s';obtain rfl:os'=s.os:=os;exact⟨v,H',I.call (h':=hh) (g':=g) (d':=d) (t':=t) (ch:=[]) un aO bare (λb z=>absurd z .u),r,q⟩
end
def yh(sp:Sp)(dvs:.x)(E:XK)(t:TA):TE:=λσ H Q=>t σ H λvs H1=>sp (vs++dvs) H1 Q E
def nA(K:wa)(fd:wA)(ps:.Q)(ds:.J):Prop :=
 ∀(s:wm)(us:.J),K.In s.heap->(us++ds).length=ps.length->BindsTo s fd ⟨us,[]⟩ (ps.zip (us++ds))
theorem nA.all{K:wa}{fd:wA}{ps:.Q}(h:∀us:List wf,us.length=ps.length->bindArgs fd ⟨us,[]⟩=pure (ps.zip us)):nA K fd ps []:=λs us _ hl=>by
 rw[vS]at hl ⊢;exact .of_eq (h us hl)
def oO(CX:gx)(X:Cx)(E:XK):Prop:=∀(pins:.l)(σ : St)(H:Hp)(s:wm)(e:wf)(s':wm),Inv X pins σ H s->CX X.stack H s E e s'->X.xe e s'
section
variable{X:Cx}{CX:gx}{k:Nat}{f C:we}{fd:wA}{ps:.Q}{sp:Sp}{dvs:.x}{ds:.J}{E:XK}{x m:Str}{p pos apos:Pos}{e o:Expr}{es:.ak}{ta:TE}{t:TA}
theorem zFQ{pins:.l}{σ : St}{H:Hp}{s:wm}{Q:VK}{us:.J}{vs:.x}(F:aG X.prog X.w X.K X.mg X.base CX k f fd ps sp)(hr:eT k X.A)(hb:nA X.K fd ps ds)(hd:aU dvs ds)(hx:oO CX X E)
  (I:.n) (r:aU vs us) (h:sp (vs++dvs) H Q E):wx .o X.A (call (.ref f) us) (EP X pins σ Q) X.xe s:=by
 have r2:aU (vs++dvs) (us++ds):=r.append hd;have hl:(us++ds).length=ps.length:=by rw[<- r2.length];exact F.len _ _ _ _ h
 refine wpAny_call (codeAny_mono (F.run X.A X.stack s H ⟨us,[]⟩ (us++ds) (vs++dvs) Q E hr I.Nt (hb s us I.eF hl) r2 h) λr s' hq=>?_);cases r with
 | error e=>exact hx pins σ H s e s' I hq
 | ok fl =>
  cases fl with
  | ret u=>exact I.after hq
  | next=>exact Vc hq
  | brk=>exact Vc hq
  | cont=>exact Vc hq
theorem Zl(F:aG X.prog X.w X.K X.mg X.base CX k f fd ps sp)(hr:eT k X.A)(hg:Gl X x)(hm:X.mg x=some (.ref f))(hk:Qh X.K (.ref f)=true)(hb:nA X.K fd ps ds)(hd:aU dvs ds)(hx:oO CX X E)
  (ha:PA X (e::es) t) (hdb:.ay=false:=by decide) (he:wY (e::es) X.env=(false,eval e X.env)::wY es X.env:=by rfl) (hpl:(V1 pos (wY es X.env)).any (·.1)=false:=by rfl) :
  PE X (.Call (.Name x p) (e::es) [] pos) (yh sp dvs E t):=by
 intro pins s σ H Q I h;refine Qg (sN I hg hm ?_ hdb);refine XN (h₀:=X.base) I.ok.mod.tD hk (aQ (ha pos pins s σ H _ I h) λus s1 ⟨vs,H1,I1,r,q⟩=>⟨I1.eF,?_⟩) he hpl;exact zFQ F hr hb hd hx I1 r q
end
section
variable{X:Cx}{CX:gx}{k:Nat}{f C:we}{fd:wA}{ps ks:.Q}{sp:Sp}{E:XK}{x m:Str}{p pos apos kpos:Pos}{e o:Expr}{es:.ak}{kws:List Keyword}{te ta:TE}{t tk:TA}{nm:Option Str}
variable{g:List wf->List wf->List wf}{gV:List V->List V->List V}
end
variable{base:wJ}{qual:Str}
structure aJ(N P:.Q)(sc:Scope):Prop where
 kind:sc.kind=.function
 co:sc.isCoroutine=false
 gen:sc.isGenerator=false
 nd:N.Nodup
 pre:N.take P.length=P
 par:∀x∈P,sc.names.lookup x=some .local\/sc.names.lookup x=some .cell
 aaA:∀y∈sc.names,y.2≠.free
theorem SY{kindOf:Str->Option Vf}{x:Str} : ∀{binds:List (Str × wf)}{m:.I},(∀v,(x,v) ∉ binds)->bindL kindOf binds m x=m x
 | [],_,_=>rfl
 | (n,v)::r,m,h=>by
  unfold bindL;rw[SY λw hw=>h w (wt _ hw)]
  split
  ·have:x≠n:=by rintro rfl;exact h v wz
   simp[this]
  ·rfl
theorem zru{kindOf:Str->Option Vf}{x:Str} : ∀{binds:List (Str × wf)}{m:.I},(∀v,(x,v) ∉ binds)->bindC kindOf binds m x=m x
 | [],_,_=>rfl
 | (n,v)::r,m,h=>by
  unfold bindC;rw[zru λw hw=>h w (wt _ hw)]
  split
  ·rfl
  ·have:x≠n:=by rintro rfl;exact h v wz
   simp[this]
theorem zq5{kindOf:Str->Option Vf}{x:Str}{v:wf} : ∀{P:.Q}{vs:.J}{i:Nat}{m:.I},P.Nodup->P[i]? = some x->vs[i]? = some v->kindOf x=some .local ->
  bindL kindOf (P.zip vs) m x=some v
 | [],_,_,_,_,h,_,_=>by simp at h
 | _::_,[],_,_,_,_,h,_=>by simp at h
 | p::P,w::vs,0,m,nd,h1,h2,hk=>by
  simp at h1 h2;subst h1;subst h2
  show bindL kindOf ((p,w)::P.zip vs) m p=_
  unfold bindL;rw[SY λv hv=>(Vb.mp nd).1 (xK hv).1,if_pos hk];simp
 | p::P,w::vs,i+1,m,nd,h1,h2,hk=>by
  show bindL kindOf ((p,w)::P.zip vs) m x=_
  unfold bindL;exact zq5 (i:=i) (Vb.mp nd).2 (by simpa using h1) (by simpa using h2) hk
theorem RS{kindOf:Str->Option Vf}{x:Str}{v:wf} : ∀{P:.Q}{vs:.J}{i:Nat}{m:.I},P.Nodup->P[i]? = some x->vs[i]? = some v->kindOf x≠some .local ->
  bindC kindOf (P.zip vs) m x=some v
 | [],_,_,_,_,h,_,_=>by simp at h
 | _::_,[],_,_,_,_,h,_=>by simp at h
 | p::P,w::vs,0,m,nd,h1,h2,hk=>by
  simp at h1 h2;subst h1;subst h2
  show bindC kindOf ((p,w)::P.zip vs) m p=_
  unfold bindC;rw[zru λv hv=>(Vb.mp nd).1 (xK hv).1,if_neg hk];simp
 | p::P,w::vs,i+1,m,nd,h1,h2,hk=>by
  show bindC kindOf ((p,w)::P.zip vs) m x=_
  unfold bindC;exact RS (i:=i) (Vb.mp nd).2 (by simpa using h1) (by simpa using h2) hk
def start(N:.Q)(vs:.x):St:=vs.map some++vj (N.length-vs.length) none
def jD(CX:gx)(P:wK)(w:wO)(K:wa)(mg:.I)(base:wJ)(N:.Q)(qual:Str)(scope:Scope)(f:we)(cd:wf)(A:vg)(outer:.bj)(s:wm)(H:Hp)(E:XK):Cx where
 prog:=P
 w:=w
 K:=K
 mg:=mg
 base:=base
 A:=A.deeper (envOfC qual scope s.heap.objs.size f cd)
 N:=N
 s₀:=s
 H₀:=H
 env:=envOfC qual scope s.heap.objs.size f cd
 outer:=outer
 stack:=envOfC qual scope s.heap.objs.size f cd::outer
 ex:=[]
 calm:=true
 fn:=λ_=>true
 pn:=[]
 xe:=λe s'=>wx (model P w) (A.deeper (envOfC qual scope s.heap.objs.size f cd)) (leaving (envOfC qual scope s.heap.objs.size f cd) e) (λ_ s''=>CX outer H s E e s'') (λe' s''=>CX outer H s E e' s'') s'
theorem Ct{sc:Scope}{n:Nat}{x:Str}(h:sc.names.lookup x=some .cell):∃c,(cellsFrom n sc.names []).lookup x=some c:=by
 have q:=xS sc.names n [] (.inl h);exact Option.isSome_iff_exists.mp q
theorem zyM{CX:gx}{P:wK}{w:wO}{K:wa}{mg:.I}{N ps:.Q}{scope:Scope}{f:we}{cd:wf}{A:vg}{outer:.bj}{s s1:wm}{H:Hp}{E:XK}{us:.J}{vs:.x}
  (S:aJ N ps scope) (hd:A.handled=none) (e0:A2 P w K mg base A outer s H) (hl:vs.length=ps.length) (r:aU vs us)
  (x:InCallC s s.heap.objs.size (bindL (envOfC qual scope s.heap.objs.size f cd).kindOf (ps.zip us) λ_=>none) (cellsFrom .bI scope.names []) (bindC (envOfC qual scope s.heap.objs.size f cd).kindOf (ps.zip us) λ_=>none) s1) :
  Inv (jD CX P w K mg base N qual scope f cd A outer s H E) [] (start N vs) H s1:=by
 have hpl:ps.length<=N.length:=by have:=congrArg xT S.pre;rw[Wi]at this;lia
 obtain⟨h1,tk,rfl,hk⟩:=x.done;have noA:∀b:we,b ∉ (jD CX P w K mg base N qual scope f cd A outer s H E).ex:=λb z=>absurd (show b∈([]:List we)from z) .u
 refine⟨⟨e0.mod,S.kind,rfl,rfl,wo _,λy z c h1 h2=>?_,λy hy=>?_,λy c _ h=>?_,λ_=>hd,Around.frames_deeper e0.frames,.inr ⟨rfl,rfl⟩,λb z=>absurd z (noA b),e0.bs,e0.jJ,λb _ _=>noA b,λb z=>absurd z (noA b),e0.fH,e0.kz⟩,
  rfl,e0.bare,Un.kept hk,⟨_,x.toInCall.ns,λi y v h1 h2 h3=>?_⟩,λy c h=>⟨_,x.cell y c h⟩,e0.aO.fresh .Y,λy c h=>?_,λp hp=>absurd (show p∈([]:List (we × Obj))from hp) .u,e0.aO.kept hk,?_⟩
 ·exact name_of_addr x.apart (Vu h1) (Vu h2)
 ·have hy:scope.names.lookup y=some .cell\/scope.names.lookup y=some .free:=hy
  rcases hy with hy | hy
  ·exact Ct hy
  ·exact absurd rfl (S.aaA _ (Vu hy))
 ·exact WH (x.above y c (Vu h))
 ·have hi:i<vs.length:=by
   unfold start at h2
   by_cases hi:i<vs.length
   ·exact hi
   ·rw[vC (by simpa using hi)]at h2
    rw[xF]at h2
    split at h2<;>cases h2
  have ha:vs[i]? = some v:=by
   unfold start at h2;rw[vQ (by simpa using hi),wu]at h2;cases e:vs[i]? with
   | none=>rw[e]at h2;cases h2
   | some a=>rw[e]at h2;cases h2;rfl
  obtain⟨u,hu,rv⟩:=r.get ha
  have hp:ps[i]? = some y:=by
   rw[<- S.pre,xw .a];exact h1
  have ndP:ps.Nodup:=by rw[<- S.pre];exact S.nd.sublist (X2 _ _)
  refine⟨u,rv,?_⟩;rcases S.par y (List.mem_of_getElem? hp)with k | k
  ·exact .inl ⟨k,zq5 ndP hp hu k⟩
  ·obtain⟨c,e⟩:=Ct (n:=s.heap.objs.size+1) k
   refine .inr ⟨.inl k,c,e,?_⟩;have q:=x.cell y c e;rw[RS ndP hp hu (by show scope.names.lookup y≠_;rw[k];decide)]at q;exact q
 ·exact e0.aO.fresh (WH (x.above y c (Vu h)))
 ·unfold start
  show _=N.length
  rw[wL,wl,WK]
  lia
theorem zD5{CX:gx}{P:wK}{w:wO}{K:wa}{mg:.I}{k:Nat}{f:we}{name:Str}{params:Arguments}{body:List w6}{scope:Scope}{dV kV doc pm cdv ct oc:wf}{an od:Option we}
  {osl:.bG} {N ps:.Q} {sp:Sp} (lk:K.lookup f=some ⟨oc,od,.func (V9 name qual params body scope dV kV doc pm an cdv ct),osl⟩) (hcd:QZ K cdv qual=true) (S:aJ N ps scope)
  (len:∀vs H Q E,sp vs H Q E->vs.length=ps.length)
  (hbody:∀(A:vg)(outer:.bj)(s:wm)(H:Hp)(vs:.x)(Q:VK)(E:XK),eT k (A.deeper (envOfC qual scope s.heap.objs.size f cdv))->sp vs H Q E ->
   ∃t,fZ (jD CX P w K mg base N qual scope f cdv A outer s H E) body t/\t {nx:=λ_ H'=>Q .bE H',rt:=Q} (start N vs) H) :
  aG P w K mg base CX (k+1) f (V9 name qual params body scope dV kV doc pm an cdv ct) ps sp:=by
 refine⟨len,λA outer s H args us vs Q E hr e0 hb r hsp=>?_⟩;have hl:=len _ _ _ _ hsp;have KX:K.In s.heap:=e0.mod.tD.keeps λb o e=>(e0.bs b o e).1
 have lim:s.heap.NoLimit:=e0.mod.nolimit.keeps λb o e=>(e0.bs b o e).1
 have hkind:∀y∈ps.zip us,scope.names.lookup y.1=some .local\/(scope.names.lookup y.1=some .cell/\((cellsFrom .bI scope.names []).lookup y.1).isSome=true):=λ⟨n,v⟩ hy=>by
  rcases S.par n (xK hy).1 with q | q
  ·exact .inl q
  ·exact .inr ⟨q,xS _ _ _ (.inl q)⟩
 refine codeAny_call_function hr.depth (KX _ _ lk) rfl S.co S.gen rfl (PySem.W.codeRec_of KX hcd) (hb _ _ _ _ ?_);refine wpAny_newFunctionEnv_cells S.kind hkind λenv he s1 x=>?_
 subst he;refine⟨lim.keeps x.toInCall.keep,codeAny_func ?_⟩;obtain⟨t,ht,hq⟩:=hbody A outer s H vs Q E (hr.deeper _) hsp;have I:Inv (jD CX P w K mg base N qual scope f cdv A outer s H E) [] (start N vs) H s1:=zyM S hr.hd e0 hl r x;refine WP (ht [] s1 (start N vs) H _ I hq) (λfl s' hs=>?_) λe s' hs=>hs
 have fin:∀{σ':St}{H':Hp}{v:V}{u:wf},Inv (jD CX P w K mg base N qual scope f cdv A outer s H E) [] σ' H' s'->bK v u->Q v H'->CE outer P w H s Q u s' :=
  λ{σ' H' v u} J rv q=>⟨v,H',J.os,J.bare,J.base,J.aO,rv,q⟩
 cases fl with
 | ret u =>
  obtain⟨v,σ',H',J,rv,q⟩:=hs;exact fin J rv q
 | next =>
  obtain⟨σ',H',J,q⟩:=hs;exact fin (v:=V.bE) (u:=Value.none) J rfl q
 | brk =>
  obtain⟨_,_,_,q⟩:=hs;exact Vc q
 | cont =>
  obtain⟨_,_,_,q⟩:=hs;exact Vc q
section
variable{X:Cx}{x:Str}{p pos:Pos}{e:Expr}{es:.ak}{t:TA}{id T:.ar}{r:List V->Hp->VK->Prop}
def sI(r:List V->Hp->VK->Prop)(t:TA):TE:=λσ H Q=>t σ H λvs H1=>r vs H1 Q
theorem dw(hc:bM X (.builtin id) r)(hg:Gl X x)(hm:X.mg x=none)(hv:vL x=some (.builtin id))(ha:PA X (e::es) t)(hn:x≠"__name__":=by decide)(hdb:.ay=false:=by decide)
  (he:wY (e::es) X.env=(false,eval e X.env)::wY es X.env:=by rfl) (hpl:(V1 pos (wY es X.env)).any (·.1)=false:=by rfl):PE X (.Call (.Name x p) (e::es) [] pos) (sI r t):=by
 intro pins s σ H Q I h;refine Qg (iL I hg hm hv ?_ hn hdb);exact PyProof.Rows.callWith_builtin1 (aQ (ha pos pins s σ H _ I h) λus s1 ⟨vs,H1,I1,r1,q1⟩=>hc pins s1 σ H1 vs us Q I1 r1 q1) he hpl
theorem iS(hc:bM X (.type T) r)(hg:Gl X x)(hm:X.mg x=none)(hv:vL x=some (.type T))(ha:PA X (e::es) t)(hn:x≠"__name__":=by decide)(hdb:.ay=false:=by decide)
  (he:wY (e::es) X.env=(false,eval e X.env)::wY es X.env:=by rfl) (hpl:(V1 pos (wY es X.env)).any (·.1)=false:=by rfl):PE X (.Call (.Name x p) (e::es) [] pos) (sI r t):=by
 intro pins s σ H Q I h;refine Qg (iL I hg hm hv ?_ hn hdb);exact vF (aQ (ha pos pins s σ H _ I h) λus s1 ⟨vs,H1,I1,r1,q1⟩=>hc pins s1 σ H1 vs us Q I1 r1 q1) he hpl
end
section
variable{κ : Type}[DecidableEq κ]
end
abbrev KT(H:Hp):List (List Key × V)->List (List Key × we × wf)->Prop:=Paired λp q=>p.1=q.1/\H q.2.1=some (.tup (p.1.map kV))/\bK p.2 q.2.2
section
variable{P:wK}{w:wO}{H:Hp}{h:wJ}{a:we}
end
section
variable{X:Cx}{pins:.l}{σ : St}{H:Hp}{s:wm}{a:we}{y v:V}{u r:wf}{o:.bf}{A:vg}{E:.m}
theorem Inv.big(I:.n):sysModules<s.heap.objs.size:=by
 have h:wU<s.heap.objs.size:=(I.mod.glob.keeps I.bk).lt;exact XO .M h
end
section
variable{X:Cx}{pins:.l}{σ : St}{H:Hp}{s:wm}{a:we}{kvs:List (Key × V)}{k:Key}{u:wf}{A:vg}{E:.m}
end
def Sn(i:Expr):Prop:=∀ov iv,subscripted i false ov iv=operate [ov,iv] (getItem ov iv)
theorem zCs{prog:wK}{w:wO}{A:vg}{E:.m}{s:wm}{env:Env}{value slice:Expr}{pos:Pos}{T id:.ar}{Q:.m}
  (hl:typeLookup (.type T) "__getitem__"=pure (some (.builtin id))) (hs:Sn slice)
  (h:wx .s A (eval value env) (λo s₁=>wx .s A (eval slice env) (λi s₂=>s₂.TypeIs o T/\wx .s A (getItem o i) Q E s₂) E s₁) E s) :
  wx .s A (eval (.Subscript value slice pos) env) Q E s:=by
 refine Subscript_ (WP h (λo s₁ h₁=>WP h₁ (λi s₂ h₂=>?_) λ_ _ x=>x) λ_ _ x=>x);obtain⟨hT,h₂⟩:=h₂;unfold subscriptTail;refine wg ?_;rw[getitemInPython_of_ne hT.not_modules];refine wg (qX hT hl ?_)
 have fin:wx .s A (subscripted slice false o i) (λr s₃=>wx .s A (letTemporaryGo value o r >>= λ_=>pure r) Q E s₃) E s₂:=by
  rw[hs o i];exact wpAny_operating (WP h₂ (λr s₃ h₃=>wg (wpAny_letTemporaryGo (wq h₃))) λ_ _ x=>x)
 first
  | exact wq (wg fin)
  | exact wg (wq (wg fin))
  | exact wg fin
section
variable{X:Cx}{o i e value:Expr}{pos pos' tpos:Pos}{td ty tv:TE}
end
section
variable{X:Cx}{pos:Pos}
end
abbrev VV:List (V × V)->List (wf × wf)->Prop:=Paired λp q=>bK p.1 q.1/\bK p.2 q.2
section
variable{X:Cx}{pins:.l}{σ : St}{H:Hp}{s:wm}{a:we}{y d:V}{u r:wf}{o:.bf}{A:vg}{E:.m}
end
section
variable{X:Cx}{o e f:Expr}{apos cpos:Pos}{td ty tx:TE}
end
section
variable{X:Cx}{pins:.l}{σ : St}{H:Hp}{s:wm}{a:we}{kvs:List (Key × V)}{A:vg}{E:.m}
end
section
variable{X:Cx}{pins:.l}{σ : St}{H:Hp}{s:wm}{a:we}{y:V}{u:wf}{A:vg}{E:.m}
end
end L2
namespace HT
open PySem PyProof.Rows
section
open PySem.SeqAt
open PySem.AutoSeq1 (wpAny_loadPart')
open PySem.MeetsSeq PySem.MeetsSeq2 PySem.MeetsSeq3
end
section
variable{prog:wK}{w:wO}{A:vg}{E:.m}{s:wm}
theorem aat{t b:we}{vs ws:.J}{Q:.m}(ht:IsTup s.heap t vs.toArray)(hb:IsTup s.heap b ws.toArray)(hv:vs≠[])
  (h1:ws=[]->Q (.ref t) s) (h2:ws≠[]->Q .aa {s with heap:=s.heap.push {cls:=.type "tuple",data:=.seq (vs++ws).toArray}})
  (hsz:vs.length+ws.length<=vd):wx .s A (WQ .Add (.ref t) (.ref b)) Q E s:=by
 obtain⟨⟨cls,dd,data,sl⟩,ho,hc,n,hd⟩:=id ht;obtain⟨⟨cls2,dd2,data2,sl2⟩,ho2,hc2,n2,hd2⟩:=id hb;simp only at hc hd hc2 hd2;subst hc hd hc2 hd2;have e:vs.toArray++ws.toArray=(vs++ws).toArray:=by simp
 by_cases hw:ws=[]
 ·exact concat_meets ⟨_,ho,rfl⟩ ⟨_,ho2,rfl⟩ noFill_tuple_add seq_tuple_add Qu Qj (qY _ _)
   (tuple_addW1 t b vs.toArray ws.toArray n n2 dd dd2 sl sl2 (by simpa using hv) (by simp[hw])) ⟨ho,ho2,h1 hw⟩
 ·refine concat_meets ⟨_,ho,rfl⟩ ⟨_,ho2,rfl⟩ noFill_tuple_add seq_tuple_add Qu Qj (qY _ _)
   (tuple_addW2 t b vs.toArray ws.toArray n n2 dd dd2 sl sl2 (by simpa using hv) (by simpa using hw) (by rw[wP,wP];exact hsz)) ⟨ho,ho2,?_⟩
  rw[e];exact h2 hw
def bA(n d:Nat):Option Int->Nat
 | none=>d
 | some v=>if v<0 then(v+(n:Int)).toNat else min v.toNat n
theorem aar(n d:Nat):bA n d none=d:=rfl
theorem aax(n d k:Nat):bA n d (some (k:Int))=min k n:=by
 show(if(k:Int)<0 then((k:Int)+(n:Int)).toNat else min (k:Int).toNat n)=min k n
 rw[if_neg .a,wD]
theorem zFY(n d:Nat)(hd:d<=n)(o:Option Int):bA n d o<=n:=by
 cases o with
 | none=>exact hd
 | some v =>
  show(if v<0 then(v+(n:Int)).toNat else min v.toNat n)<=n
  by_cases hv:v<0
  ·rw[if_pos hv];lia
  ·rw[if_neg hv];exact xx _ _
theorem ZI(v:Int)(n d:Nat):(if v<0 then max (v+(n:Int)) 0 else min v (n:Int))=((bA n d (some v):Nat):Int):=by
 show(if v<0 then max (v+(n:Int)) 0 else min v (n:Int))=(((if v<0 then(v+(n:Int)).toNat else min v.toNat n):Nat):Int)
 by_cases hv:v<0
 ·simp only[if_pos hv];lia
 ·simp only[if_neg hv];lia
theorem zwn(lo hi:Option Int)(n:Nat):qS lo hi 1 (n:Int)=(((bA n 0 lo:Nat):Int),((bA n n hi:Nat):Int)):=by
 have h1:¬ ((1:Int)<0):=by lia
 unfold qS;simp only[h1,if_false];refine VQ ?_ ?_
 ·cases lo with
  | none=>rfl
  | some v=>exact ZI v n 0
 ·cases hi with
  | none=>rfl
  | some v=>exact ZI v n n
theorem zwV(i j:Nat):V4 (i:Int) (j:Int) 1=j-i:=by
 unfold V4;have h1:(1:Int) > 0:=by lia
 simp only[h1,if_true,Int.ediv_one]
 split<;>lia
theorem O6{v:wf}{o:Option Int}{Q:Option Int->wm->Prop}(p:IsPart v o)(h:Q o s):wx .s A (Uc v) Q E s:=by
 cases p with
 | none=>exact slicePart_none h
 | int i t=>exact slicePart_int h
theorem zm7{sl:we}{vl vu:wf}{lo hi:Option Int}{n:Nat}{Q:Int × Int × Nat->wm->Prop}(hs:s.heap.IsSliceOf sl vl vu .none)(pl:IsPart vl lo)(pu:IsPart vu hi)
  (h:Q (((bA n 0 lo:Nat):Int),1,bA n n hi-bA n 0 lo) s):wx .s A (xj (.ref sl) (pure (n:Int))) Q E s:=by
 obtain⟨os,hos,hcs,hds⟩:=id hs;unfold xj Uw;refine wg (wg (vH hos hds (x:=vl) rfl (wg (vH hos hds (x:=vu) rfl (wg (vH hos hds (x:=.none) rfl (wq ?_)))))));refine wg (slicePart_none ?_)
 show wx _ _ (if((1:Int) == 0)=true then _ else _) _ _ s
 rw[if_neg .M];refine wg (O6 pl (wg (O6 pu (wg (wq ?_)))))
 show wx _ _ (match qS lo hi 1 (n:Int)with | (lo,hi)=>pure (lo,(1:Int),V4 lo hi 1)) _ _ s
 rw[zwn lo hi n]
 show wx _ _ (pure (((bA n 0 lo:Nat):Int),(1:Int),V4 ((bA n 0 lo:Nat):Int) ((bA n n hi:Nat):Int) 1)) _ _ s
 rw[zwV];exact wq h
theorem zCd(xs:.as)(i k:Nat):((wp k).filterMap λ(m:Nat)=>xs[((i:Int)+(m:Int)*1).toNat]?).toArray=((xs.toList.drop i).take k).toArray:=by
 have e:(λ(m:Nat)=>xs[((i:Int)+(m:Int)*1).toNat]?)=λm=>xs[i+m]?:=by
  funext m
  have:((i:Int)+(m:Int)*1).toNat=i+m:=by lia
  rw[this]
 rw[e];have:=pick_run xs i k;rw[List.filterMap_map]at this;have e2:((λx=>xs[x]?) ∘ λx=>i+x)=λm=>xs[i+m]?:=rfl
 rw[e2]at this;rw[this]
theorem aab{t sl:we}{items:.as}{vl vu:wf}{lo hi:Option Int}{Q:.m}(ht:IsTup s.heap t items)(hs:s.heap.IsSliceOf sl vl vu .none)(pl:IsPart vl lo)(pu:IsPart vu hi)
  (hw:¬ (bA items.size 0 lo=0/\bA items.size items.size hi=items.size))
  (h:Q .aa {s with heap:=s.heap.push {cls:=.type "tuple",data:=.seq ((items.toList.drop (bA items.size 0 lo)).take (bA items.size items.size hi-bA items.size 0 lo)).toArray}})
  (hsz:items.size<=vd):wx .s A (getItem (.ref t) (.ref sl)) Q E s:=by
 have htake:sizeOk (.seq ((items.toList.drop (bA items.size 0 lo)).take (bA items.size items.size hi-bA items.size 0 lo)).toArray):=by
  show((items.toList.drop (bA items.size 0 lo)).take (bA items.size items.size hi-bA items.size 0 lo)).toArray.size<=vd
  rw[wP,Wi,Wd,wV]
  lia
 have hj:bA items.size items.size hi<=items.size:=zFY _ _ .Y hi;obtain⟨os,hos,hcs,hds⟩:=id hs;have hTs:s.TypeIs (.ref sl) "slice":=⟨os,hos,hcs⟩;unfold getItem
 try with_reducible refine Wv ?_
 first | refine wg (wq ?_) | skip
 refine wg (wpAny_sequenceKey ht.typeIs .M ?_)
 refine wg (wpAny_callSpecial?_slot (name:=Wg "__getitem__") ht.typeIs ql
  (Wp ql ht.typeIs entry_tuple_getitem ?_ (args_tuple_getitem _ _)))
 show wx _ _ (xk (.ref t) >>= _) _ _ s
 refine wg (tupleItemsOf_ ht ?_);refine wg (wpAny_typeOf hTs ?_);rw[if_pos .M];refine wg (zm7 hs pl pu ?_)
 have hno:¬ ((((bA items.size 0 lo:Nat):Int) == 0&&(1:Int) == 1&&(bA items.size items.size hi-bA items.size 0 lo) == items.size)=true):=by
  intro q;rw[w8,w8]at q;have q1:((bA items.size 0 lo:Nat):Int)=0:=eq_of_beq q.1.1;have q2:bA items.size items.size hi-bA items.size 0 lo=items.size:=eq_of_beq q.2;exact hw ⟨by lia,by lia⟩
 show wx _ _ (if(((bA items.size 0 lo:Nat):Int) == 0&&(1:Int) == 1&&(bA items.size items.size hi-bA items.size 0 lo) == items.size)=true then _ else _) _ _ s
 rw[if_neg hno,zCd]
 first
  | exact wg (m:=qa _) (WY (wq ⟨_,rfl,wq h⟩) htake)
  | exact wg (m:=qa _) (WY (wg (wq (wq ⟨_,rfl,wq h⟩))) htake)
  | exact wg (wg (m:=qa _) (WY (wq (wq ⟨_,rfl,wq h⟩)) htake))
  | exact wg (wg (m:=qa _) (WY (wq ⟨_,rfl,wq h⟩) htake))
end
end HT
namespace L2
open PySem PySem.Spec PyProof.Rows
abbrev TO:=St->Hp->(Option Int->Hp->Prop)->Prop
def PO(X:Cx)(e:Option Expr)(t:TO):Prop :=
 ∀(pins:.l)(s:wm)(σ : St)(H:Hp)(Q:Option Int->Hp->Prop),Inv X pins σ H s->t σ H Q ->
  wx .o X.A (evalPart e X.env) (λu s'=>∃o H',Inv X pins σ H' s'/\IsPart u o/\Q o H') X.xe s
def P0:TO:=λ_ H Q=>Q none H
def Ri(t:TE):TO:=λσ H Q=>t σ H λx H1=>∃i,x=.int i/\Q (some i) H1
theorem BW{ns:.p} : ∀{us:.J},aU .aq us->IntsAre us ns:=by
 induction ns with
 | nil=>intro us r;rw[xy]at r;cases r;exact .nil
 | cons n ns ih =>
  intro us r;rw[ve]at r;cases r with
  | cons r1 r2 =>
   obtain⟨t,e⟩:=r1;subst e;exact .cons n t (ih r2)
section
variable{X:Cx}{e:Expr}{te:TE}{lo hi:Option Expr}{tl th:TO}{pos p2:Pos}
theorem mD:PO X none P0:=by
 intro pins s σ H Q I h;rw[evalPart_none];exact wq ⟨none,H,I,.none,h⟩
theorem mh(h:PE X e te):PO X (some e) (Ri te):=by
 intro pins s σ H Q I hw;rw[evalPart_some];refine aQ (h pins s σ H _ I hw) λu s1 ⟨x,H1,I1,r1,q1⟩=>?_
 obtain⟨i,rfl,q⟩:=q1;obtain⟨t,rfl⟩:=r1;exact⟨some i,H1,I1,.int i t,q⟩
def mR(X:Cx)(r:V->Option Int->Option Int->Hp->VK->Prop):Prop :=
 ∀(pins:.l)(s:wm)(σ : St)(H:Hp)(x:V)(v vl vu:wf)(lo hi:Option Int)(sl:we)(Q:VK),Inv X pins σ H s->bK x v->s.heap.IsSliceOf sl vl vu .none->IsPart vl lo->IsPart vu hi->r x lo hi H Q ->
  ∃T id,typeLookup (.type T) "__getitem__"=pure (some (.builtin id))/\s.TypeIs v T/\wx .o X.A (getItem v (.ref sl)) (EP X pins σ Q) X.xe s
theorem mR.or{r r':V->Option Int->Option Int->Hp->VK->Prop}(h:mR X r)(h':mR X r'):mR X (λx lo hi H Q=>r x lo hi H Q\/r' x lo hi H Q):=by
 intro pins s σ H x v vl vu lo hi sl Q I rx hs pl pu q;rcases q with q | q
 ·exact h pins s σ H x v vl vu lo hi sl Q I rx hs pl pu q
 ·exact h' pins s σ H x v vl vu lo hi sl Q I rx hs pl pu q
def PZ(r:V->Option Int->Option Int->Hp->VK->Prop)(te:TE)(tl th:TO):TE:=λσ H Q=>te σ H λx H1=>tl σ H1 λl H2=>th σ H2 λu H3=>r x l u H3 Q
theorem mX{r:V->Option Int->Option Int->Hp->VK->Prop}(hr:mR X r)(he:PE X e te)(hl:PO X lo tl)(hu:PO X hi th):PE X (.Subscript e (.Slice lo hi none p2) pos) (PZ r te tl th):=by
 intro pins s σ H Q I h;refine Subscript_ (aQ (he pins s σ H _ I h) λv s1 ⟨x,H1,I1,r1,q1⟩=>?_);refine wpAny_Slice (aQ (hl pins s1 σ H1 _ I1 q1) λvl s2 ⟨l,H2,I2,pl,q2⟩=>aQ (hu pins s2 σ H2 _ I2 q2) λvu s3 ⟨u,H3,I3,pu,q3⟩=>?_);rw[evalPart_none];refine wq ?_;have I4:Inv X pins σ H3 {s3 with heap:=s3.heap.push {cls:=.type "slice",data:=.fields #[vl,vu,.none]}}:=I3.kept (t':=s3.toks) λb ob q=>wn _ q
 obtain⟨T,id,hT,ht,hg⟩:=hr pins {s3 with heap:=s3.heap.push {cls:=.type "slice",data:=.fields #[vl,vu,.none]}} σ H3 x v vl vu l u s3.heap.objs.size Q I4 r1 (UC ..) pl pu q3
 show wx .o X.A (subscriptTail e (.Slice lo hi none p2) v (.ref s3.heap.objs.size)) (EP X pins σ Q) X.xe {s3 with heap:=s3.heap.push {cls:=.type "slice",data:=.fields #[vl,vu,.none]}}
 exact tail_any (ops:=[.ref s3.heap.objs.size,v]) ht hT hg .ae
def lV(xs:.x)(lo hi:Option Int):List V:=(xs.drop (HT.bA xs.length 0 lo)).take (HT.bA xs.length xs.length hi-HT.bA xs.length 0 lo)
theorem Y_(xs:.x)(lo hi:Option Int):(lV xs lo hi).length<=xs.length:=by
 unfold lV;rw[Wi,Wd]
 lia
def OT(K:wa):V->Option Int->Option Int->Hp->VK->Prop:=λx lo hi H Q=>∃a xs,x=.ref a/\aV K H a xs /\
 ¬ (HT.bA xs.length 0 lo=0/\HT.bA xs.length xs.length hi=xs.length) /\ ∀p,H p=none->Q .aA (upd H p (.tup (lV xs lo hi)))
theorem zEO:mR X (OT X.K):=by
 intro pins s σ H x v vl vu lo hi sl Q I rx hs pl pu h;obtain⟨a,xs,rfl,hx,hw,q⟩:=h;cases rx;obtain⟨its,r,ht,hz⟩:=I.tuple hx;have hlen:its.toArray.size=xs.length:=by rw[wP];exact r.length.symm
 refine⟨"tuple",_,ql.lookup,ht.typeIs,?_⟩;refine HT.aab ht hs pl pu (by rw[hlen];exact hw) ?_ (by rw[hlen];exact hz);rw[hlen];refine⟨.ref s.heap.objs.size,_,I.laid (t':=s.toks) (o:=.tup (lV xs lo hi)) (λb ob q=>wn _ q) .Y ?_,rfl,q _ (I.aO.fresh .Y)⟩;exact⟨Wb (Y_ xs lo hi) hz,_,(r.drop (HT.bA xs.length 0 lo)).take (HT.bA xs.length xs.length hi-HT.bA xs.length 0 lo),QI _ _⟩
def Ro(K:wa):R2:=λx y H Q=>∃a b xs ys,x=.ref a/\y=.ref b/\aV K H a xs/\aV K H b ys/\xs≠[]/\xs.length+ys.length<=vd /\
 (ys=[]->Q .bq H)/\(ys≠[]->∀p,H p=none->Q .aA (upd H p (.tup (xs++ys))))
theorem aU.C1{xs:.x}{us:.J}(r:aU xs us):us=[] ↔ xs=[]:=by
 cases r with
 | nil=>simp
 | cons _ _=>simp
theorem zDt:bL X (WQ .Add) (Ro X.K):=by
 intro pins s σ H x y v u Q I rx ry h;obtain⟨a,b,xs,ys,rfl,rfl,ha,hb,hx,hz,q1,q2⟩:=h;cases rx;cases ry;obtain⟨its,r1,p1,_⟩:=I.tuple ha;obtain⟨its2,r2,p2,_⟩:=I.tuple hb;refine HT.aat p1 p2 (λz=>hx (r1.C1.mp z)) (λz=>⟨.ref a,H,I,rfl,q1 (r2.C1.mp z)⟩) (λz=>?_) (by rw[<- r1.length,<- r2.length];exact hz);refine⟨.ref s.heap.objs.size,_,I.laid (t':=s.toks) (o:=.tup (xs++ys)) (λb ob q=>wn _ q) .Y ?_,rfl,q2 (λw=>z (r2.C1.mpr w)) _ (I.aO.fresh .Y)⟩;exact⟨by rw[wL];exact hz,_,r1.append r2,QI _ _⟩
end
def gQ(n:Nat)(i:Int):Option Nat:=if 0<=i then(if i<n then some i.toNat else none)else if -(n:Int)<=i then some (i+n).toNat else none
def jt{α : Type}(xs:.aY)(i:Int):Option α:=(gQ xs.length i).bind λj=>xs[j]?
theorem YE{n:Nat}{i:Int}{j:Nat}(h:gQ n i=some j):seqIndex? i n=some j/\j<n /\ -(n:Int)<=i/\i<n:=by
 unfold gQ at h
 by_cases h0:0<=i
 ·rw[if_pos h0]at h
  by_cases h1:i<n
  ·rw[if_pos h1]at h
   have e:i.toNat=j:=wI h;exact⟨by rw[seqIndex_of h0 h1,e],by lia,by lia,h1⟩
  ·rw[if_neg h1]at h;cases h
 ·rw[if_neg h0]at h
  by_cases h1 : -(n:Int)<=i
  ·rw[if_pos h1]at h
   have e:(i+n).toNat=j:=wI h;exact⟨by rw[seqIndex_neg .a h1,e],by lia,h1,by lia⟩
  ·rw[if_neg h1]at h;cases h
theorem HL{α : Type}{xs:.aY}{i:Int}{v : α}(h:jt xs i=some v):∃j,seqIndex? i xs.length=some j/\xs[j]? = some v/\j<xs.length /\ -(xs.length:Int)<=i/\i<xs.length:=by
 unfold jt at h;cases e:gQ xs.length i with
 | none=>rw[e]at h;cases h
 | some j =>
  rw[e]at h;obtain⟨h1,h2,h3,h4⟩:=YE e;exact⟨j,h1,h,h2,h3,h4⟩
theorem m5{α : Type}{xs:.aY}{j:Nat}{v : α}(h:xs[j]? = some v):jt xs (j:Int)=some v:=by
 have hj:j<xs.length:=(WZ.mp h).1
 have e:gQ xs.length (j:Int)=some j:=by
  unfold gQ;rw[if_pos .a,if_pos .a];simp
 unfold jt;rw[e];exact h
def zCM(b:Expr):Prop:=∀o i,subscripted b false o i=operate [o,i] (getItem o i)
def fX(X:Cx)(r:R2):Prop :=
 ∀(value slice:Expr)(pins:.l)(s:wm)(σ : St)(H:Hp)(x y:V)(v u:wf)(Q:VK),Inv X pins σ H s->bK x v->bK y u->r x y H Q ->
  subscripted slice false v u=operate [v,u] (getItem v u)->wx .o X.A (subscriptTail value slice v u) (EP X pins σ Q) X.xe s
def S0(X:Cx)(id:.ar)(r:V->List V->Hp->VK->Prop):Prop :=
 ∀(pins:.l)(s:wm)(σ : St)(H:Hp)(x:V)(xs:.x)(v:wf)(us:.J)(Q:VK),Inv X pins σ H s->bK x v->aU xs us->r x xs H Q ->
  wx .o X.A (call (.builtin id) (v::us)) (EP X pins σ Q) X.xe s
section
variable{X:Cx}{a b:Expr}{ta tb:TE}{pos:Pos}
variable{σ:St}{H:Hp}{x:V}
theorem fX.or{r r':R2}(h:fX X r)(h':fX X r'):fX X (λx y H Q=>r x y H Q\/r' x y H Q):=by
 intro value slice pins s σ H x y v u Q I rx ry q hs;rcases q with q | q
 ·exact h value slice pins s σ H x y v u Q I rx ry q hs
 ·exact h' value slice pins s σ H x y v u Q I rx ry q hs
theorem dD{r:R2}(hr:fX X r)(ha:PE X a ta)(hb:PE X b tb)(hs:zCM b):PE X (.Subscript a b pos) (jT r ta tb):=by
 intro pins s σ H Q I h;exact Subscript_ (Dv ha hb I h λv u s2 x y H2 I2 rx ry q=>hr a b pins s2 σ H2 x y v u Q I2 rx ry q (hs _ _))
def NY(K:wa):R2:=λx y H Q=>∃p xs i v,x=.ref p/\y=.int i/\aE K H p xs/\jt xs i=some v/\Q v H
def TY(K:wa):R2:=λx y H Q=>∃p xs i v,x=.ref p/\y=.int i/\aV K H p xs/\jt xs i=some v/\Q v H
def Pn:R2:=λx y H Q=>∃z i c,x=.str z/\y=.int i/\z.length<=vd/\jt z.cps.toList i=some c/\Q (.str ⟨#[c]⟩) H
theorem zDc :fX X (NY X.K):=by
 intro value slice pins s σ H x y v u Q I rx ry h hs;obtain⟨p,xs,i,z,rfl,rfl,hq,he,q⟩:=h;cases rx;obtain⟨t,rfl⟩:=ry;obtain⟨its,r,pl,hz⟩:=I.list hq;obtain⟨j,h1,h2,h3,h4,h5⟩:=HL he;obtain⟨w,ew,rw'⟩:=r.get h2;have hl:=r.length;have hn:=pb;have fin:EP X pins σ Q w s:=⟨z,H,I,rw',q⟩
 by_cases h0:0<=i
 ·have hj:i.toNat=j:=by
   rw[seqIndex_of h0 h5]at h1;exact wI h1
  exact item_listR pl.isList h0 .a (by rw[hj];simpa using ew) fin hs
 ·have hj:(i+(its.toArray.size:Int)).toNat=j:=by
   rw[seqIndex_neg .a h4]at h1;rw[wP,<- hl];exact wI h1
  exact subscriptTail_builtinR (x:=w) pl.isList.typeIs slot_list_getitem.lookup
   (wpAny_getItem_list_neg (Q:=λr s'=>r=w/\EP X pins σ Q r s') pl.isList .a (by rw[wP]<;>lia) .a (by rw[hj];simpa using ew) ⟨rfl,fin⟩) hs
theorem zF5 :fX X (TY X.K):=by
 intro value slice pins s σ H x y v u Q I rx ry h hs;obtain⟨p,xs,i,z,rfl,rfl,hq,he,q⟩:=h;cases rx;obtain⟨t,rfl⟩:=ry;obtain⟨its,r,pl,hz⟩:=I.tuple hq;obtain⟨j,h1,h2,h3,h4,h5⟩:=HL he;obtain⟨w,ew,rw'⟩:=r.get h2;have hl:=r.length;have hn:=pb;have fin:EP X pins σ Q w s:=⟨z,H,I,rw',q⟩
 exact subscriptTail_builtinR (x:=w) pl.typeIs slot_tuple_getitem.lookup
  (getItem_tuple (j:=j) (Q:=λr s'=>r=w/\EP X pins σ Q r s') pl .a .a (by rw[wP,<- hl];exact h1) (by simpa using ew) ⟨rfl,fin⟩) hs
theorem zFD :fX X Pn:=by
 intro value slice pins s σ H x y v u Q I rx ry h hs;obtain⟨z,i,c,rfl,rfl,hz,he,q⟩:=h;obtain⟨t,rfl⟩:=rx;obtain⟨t',rfl⟩:=ry;obtain⟨j,h1,h2,h3,h4,h5⟩:=HL he;have hl:z.cps.toList.length=z.length:=by simp[Str.length]
 rw[hl]at h1 h4 h5;have hn:=pb
 exact tail_any (typeIs_str s z t) slot_str_getitem.lookup (getItem_str (c:=c) (by
  have e1:decide (i < -(2^63:Int))=false:=decide_eq_false .a;have e2:decide (i ≥ 2^63)=false:=decide_eq_false .a;rw[e1,e2,Um]) (by rw[h1];simpa using h2) ⟨.str ⟨#[c]⟩,H,I.tok _,⟨_,rfl⟩,q⟩) hs
def du(K:wa):R2:=λx y H Q=>NY K x y H Q\/TY K x y H Q\/Pn x y H Q
theorem cZ :fX X (du X.K):=zDc.or (zF5.or zFD)
theorem zxa(its:.J)(n j:Nat)(u:wf):xr (·.setIfInBounds j u) {cls:=.type "list",data:=.seq its.toArray n} = {cls:=.type "list",data:=.seq (its.set j u).toArray n}:=by
 simp[xr]
theorem Inv.lst{pins:.l}{s:wm}{p:we}{xs:.x}(I:.n)(h:H p=some (.lst xs)) :
  ∃(its:.J)(n:Nat),aU xs its/\s.heap.get? p=some {cls:=.type "list",data:=.seq its.toArray n}/\xs.length<=vd:=by
 obtain⟨z,its,n,r,e⟩:=I.aO p _ h;exact⟨its,n,r,e,z⟩
theorem Inv.aay{pins:.l}{s:wm}{p:we}{xs ys:.x}{its its':.J}{n n':Nat}{f:Obj->Obj}(I:.n)(h:H p=some (.lst xs))
  (ho:s.heap.get? p=some {cls:=.type "list",data:=.seq its.toArray n}) (hf:f {cls:=.type "list",data:=.seq its.toArray n} = {cls:=.type "list",data:=.seq its'.toArray n'}) (r:aU ys its') (hz:ys.length<=vd) (t:Nat) :
  Inv X pins σ (upd H p (.lst ys)) {s with heap:=s.heap.update p f,toks:=t}:=by
 have e:(s.heap.update p f).get? p=some {cls:=.type "list",data:=.seq its'.toArray n'}:=by
  rw[VL f ho (by rw[hf]<;>rfl),hf]
 refine I.write (x:=p) (e:=p) (by rw[h];trivial) .aZ (λb u hb q=>(Qv _ _ (WI hb)).trans q) ⟨_,e⟩ ?_;exact⟨hz,its',n',r,e⟩
def zD9:V->V->V->Hp->(Hp->Prop)->Prop:=λo i v H Q=>∃p xs k j,o=.ref p/\i=.int k/\H p=some (.lst xs)/\gQ xs.length k=some j/\Q (upd H p (.lst (xs.set j v)))
theorem nZ :RK X zD9:=by
 intro pins s σ H o i v ov iv u Q I ro ri rv h;obtain⟨p,xs,k,j,rfl,rfl,hp,hj,q⟩:=h;cases ro;obtain⟨t,rfl⟩:=ri;obtain⟨its,n,r,ho,hz⟩:=I.lst hp;obtain⟨h1,h2,h3,h4⟩:=YE hj;have hl:=r.length;have hn:=pb
 have I':Inv X pins σ (upd H p (.lst (xs.set j v))) {s with heap:=s.heap.update p (xr (·.setIfInBounds j u))} :=
  I.aay hp ho (zxa its n j u) (r.set rv j) (by rw[Wz];exact hz) s.toks
 by_cases h0:0<=k
 ·have hk:k.toNat=j:=by
   rw[seqIndex_of h0 h4]at h1;exact wI h1
  exact PySem.W.ki_setAt ho h0 .a (by rw[wP,<- hl];exact h4) (by rw[hk];exact⟨_,I',q⟩)
 ·have hk:(k+(its.toArray.size:Int)).toNat=j:=by
   rw[seqIndex_neg .a h3]at h1;rw[wP,<- hl];exact wI h1
  exact PySem.W.ki_setBack ho .a (by rw[wP,<- hl];exact h3) .a (by rw[hk];exact⟨_,I',q⟩)
theorem zsz(lo hi:Option Int)(n:Nat):(qP lo hi none n).1=((HT.bA n 0 lo:Nat):Int)/\(qP lo hi none n).2.1=((HT.bA n n hi:Nat):Int)/\(qP lo hi none n).2.2=1:=by
 refine⟨?_,?_,rfl⟩
 ·cases lo with
  | none=>simp[qP,HT.bA]
  | some i =>
   simp only[qP,HT.bA,uz,show(1:Int) > 0 by decide,if_true]
   by_cases h:i<0
   ·simp only[h,if_true]<;>lia
   ·simp only[h,if_false]<;>lia
 ·cases hi with
  | none=>simp[qP,HT.bA]
  | some i =>
   simp only[qP,HT.bA,uz,show(1:Int) > 0 by decide,if_true]
   by_cases h:i<0
   ·simp only[h,if_true]<;>lia
   ·simp only[h,if_false]<;>lia
theorem zql(its:.J)(lo hi:Option Int):slicePick its.toArray lo hi none=((its.drop (HT.bA its.length 0 lo)).take (HT.bA its.length its.length hi-HT.bA its.length 0 lo)).toArray:=by
 obtain⟨h1,h2,h3⟩:=zsz lo hi its.toArray.size;unfold slicePick;rw[h1,h2,h3];simp only[sliceRange_one,pick_run,wP]<;>rfl
def Tx(K:wa):V->Option Int->Option Int->Hp->VK->Prop:=λx lo hi H Q=>∃a xs,x=.ref a/\aE K H a xs /\ ∀p,H p=none->Q .aA (upd H p (.lst (lV xs lo hi)))
theorem zCR :mR X (Tx X.K):=by
 intro pins s σ H x v vl vu lo hi sl Q I rx hs pl pu h;obtain⟨a,xs,rfl,hx,q⟩:=h;cases rx;obtain⟨its,r,ht,hz⟩:=I.list hx;have hlen:=r.length;refine⟨"list",_,slot_list_getitem.lookup,ht.isList.typeIs,?_⟩;refine wpAny_getItem_list_slice ht.isList hs pl pu .none .u ?_ (by rw[wP]<;>lia);rw[zql,<- hlen];refine⟨.ref s.heap.objs.size,_,I.laid (t':=s.toks) (o:=.lst (lV xs lo hi)) (λb ob q=>wn _ q) .Y ?_,rfl,q _ (I.aO.fresh .Y)⟩;exact⟨Wb (Y_ xs lo hi) hz,_,0,(r.drop (HT.bA xs.length 0 lo)).take (HT.bA xs.length xs.length hi-HT.bA xs.length 0 lo),wS _ rfl⟩
def ku:V->Bool
 | .bE=>true
 | .bl _=>true
 | .int _=>true
 | .str _=>true
 | _=>false
def mL:V->V->Bool
 | .bE,.bE=>true
 | .bl a,.bl b=>a == b
 | .bl a,.int b=>(if a then 1 else 0) == b
 | .int a,.bl b=>a == (if b then 1 else 0)
 | .int a,.int b=>a == b
 | .str a,.str b=>a == b
 | _,_=>false
theorem zFp{A:vg}{s:wm}{y:V}{u v:wf}(ry:bK y u)(rx:bK x v)(fy:ku y=true)(fx:ku x=true):SeqAt.EqAt A s u v (mL y x):=by
 cases y with
 | bE =>
  cases ry;cases x with
  | bE=>cases rx;exact SeqAt.EqAt.same _
  | bl b=>cases rx;exact SeqAt.EqAt.none_bool b
  | int b=>obtain⟨t,rfl⟩:=rx;exact SeqAt.EqAt.none_int b t
  | str b=>obtain⟨t,rfl⟩:=rx;exact SeqAt.EqAt.none_str b t
  | _=>exact absurd (show false=true from fx) vJ
 | bl a =>
  cases ry;cases x with
  | bE=>cases rx;exact SeqAt.EqAt.bool_none a
  | bl b=>cases rx;exact SeqAt.EqAt.bool_bool a b
  | int b=>obtain⟨t,rfl⟩:=rx;exact SeqAt.EqAt.bool_int a b t
  | str b=>obtain⟨t,rfl⟩:=rx;exact SeqAt.EqAt.bool_str a b t
  | _=>exact absurd (show false=true from fx) vJ
 | int a =>
  obtain⟨t',rfl⟩:=ry;cases x with
  | bE=>cases rx;exact SeqAt.EqAt.int_none a t'
  | bl b=>cases rx;exact SeqAt.EqAt.int_bool a t' b
  | int b=>obtain⟨t,rfl⟩:=rx;exact SeqAt.EqAt.int_int a t' b t
  | str b=>obtain⟨t,rfl⟩:=rx;exact XH a t' b t
  | _=>exact absurd (show false=true from fx) vJ
 | str a =>
  obtain⟨t',rfl⟩:=ry;cases x with
  | bE=>cases rx;exact SeqAt.EqAt.str_none a t'
  | bl b=>cases rx;exact SeqAt.EqAt.str_bool a t' b
  | int b=>obtain⟨t,rfl⟩:=rx;exact XI a t' b t
  | str b=>obtain⟨t,rfl⟩:=rx;exact SeqAt.EqAt.str_str a t' b t
  | _=>exact absurd (show false=true from fx) vJ
 | _=>exact absurd (show false=true from fy) vJ
def gz(x:V)(u:wf):Bool:=match u with
 | .none=>mL .bE x
 | .bool b=>mL (.bl b) x
 | .int i _=>mL (.int i) x
 | .str z _=>mL (.str z) x
 | _=>false
theorem zzY{y:V}{u:wf}(r:bK y u)(f:ku y=true):gz x u=mL y x:=by
 cases y with
 | bE=>cases r;rfl
 | bl b=>cases r;rfl
 | int i=>obtain⟨t,rfl⟩:=r;rfl
 | str z=>obtain⟨t,rfl⟩:=r;rfl
 | _=>exact absurd (show false=true from f) vJ
theorem yw{x:V} : ∀{xs:.x}{us:.J},aU xs us->xs.all ku=true->us.any (gz x)=xs.any λy=>mL y x
 | _,_,.nil,_=>rfl
 | y::xs,u::us,.cons r t,f=>by
  rw[Xw,w8]at f;rw[QC,QC,zzY r f.1,yw t f.2]
theorem t_{A:vg}{s:wm}{x:V}{v:wf}(rx:bK x v)(fx:ku x=true):∀{xs:.x}{us:.J},aU xs us->xs.all ku=true->∀u∈us,SeqAt.EqAt A s u v (gz x u)
 | _,_,.nil,_=>λu hu=>by cases hu
 | y::xs,u::us,.cons r t,f=>λu' hu=>by
  rw[Xw,w8]at f;rcases wG.mp hu with rfl | hu
  ·rw[zzY r f.1];exact zFp r rx f.1 fx
  ·exact t_ rx fx t f.2 u' hu
def pM(x:V)(xs:.x):Bool:=xs.any λy=>mL y x
def gu(K:wa)(neg:Bool):R2:=λx y H Q=>∃p xs,y=.ref p/\(aE K H p xs\/aV K H p xs)/\ku x=true/\xs.all ku=true/\Q (.bl (if neg then !pM x xs else pM x xs)) H
theorem zy0 :bL X (vG .In) (gu X.K false):=by
 intro pins s σ H x y v u Q I rx ry h;obtain⟨p,xs,rfl,hq,fx,fs,q⟩:=h;cases ry;rcases hq with hq | hq
 ·obtain⟨its,r,pl,hz⟩:=I.list hq
  refine SeqAt.in_listAt (gz x) pl.isList (λw hw=>t_ rx fx r fs w (by simpa using hw)) ⟨.bl _,H,I,rfl,?_⟩;rw[show its.toArray.any (gz x)=its.any (gz x) by simp,yw r fs];exact q
 ·obtain⟨its,r,pl,hz⟩:=I.tuple hq
  refine SeqAt.in_tupleAt (gz x) pl (λw hw=>t_ rx fx r fs w (by simpa using hw)) ⟨.bl _,H,I,rfl,?_⟩;rw[show its.toArray.any (gz x)=its.any (gz x) by simp,yw r fs];exact q
theorem zsI :bL X (vG .NotIn) (gu X.K true):=by
 intro pins s σ H x y v u Q I rx ry h;obtain⟨p,xs,rfl,hq,fx,fs,q⟩:=h;cases ry;rcases hq with hq | hq
 ·obtain⟨its,r,pl,hz⟩:=I.list hq
  refine SeqAt.notIn_listAt (gz x) pl.isList (λw hw=>t_ rx fx r fs w (by simpa using hw)) ⟨.bl _,H,I,rfl,?_⟩;rw[show its.toArray.any (gz x)=its.any (gz x) by simp,yw r fs];exact q
 ·obtain⟨its,r,pl,hz⟩:=I.tuple hq
  refine SeqAt.notIn_tupleAt (gz x) pl (λw hw=>t_ rx fx r fs w (by simpa using hw)) ⟨.bl _,H,I,rfl,?_⟩;rw[show its.toArray.any (gz x)=its.any (gz x) by simp,yw r fs];exact q
theorem zsq :bM X (.builtin "len") (λxs H Q=>∃p ys,xs=[.ref p]/\(aE X.K H p ys\/aV X.K H p ys)/\Q (.int ys.length) H):=by
 intro pins s σ H xs us Q I r h;obtain⟨p,ys,rfl,hq,q⟩:=h;obtain⟨u,rfl,rx⟩:=iD r;cases rx;have hn:=pb;rcases hq with hq | hq
 ·obtain⟨its,r',pl,hz⟩:=I.list hq
  have hlen:=r'.length;exact Calls.call_len_list pl.isList (by simp only[wP]<;>lia) ⟨.int ys.length,H,I.tok _,⟨s.toks+1,by rw[wP,hlen]⟩,q⟩
 ·obtain⟨its,r',pl,hz⟩:=I.tuple hq
  have hlen:=r'.length;exact len_tuple pl (by simp only[wP]<;>lia) ⟨.int ys.length,H,I.tok _,⟨s.toks+1,by rw[wP,hlen]⟩,q⟩
theorem zs8 :bM X (.type "list") (λxs H Q=>∃p ys,xs=[.ref p]/\(aE X.K H p ys\/aV X.K H p ys) /\ ∀l,H l=none->Q .al (upd H l (.lst ys))):=by
 intro pins s σ H xs us Q I r h;obtain⟨p,ys,rfl,hq,q⟩:=h;obtain⟨u,rfl,rx⟩:=iD r;cases rx
 have fin:∀(its:.J),aU ys its->ys.length<=vd->∀(h':wJ)(c':Nat),(∀b o',s.heap.get? b=some o'->h'.get? b=some o') ->
     h'.get? s.heap.objs.size=some {cls:=.type "list",dict:=none,data:=.seq its.toArray c',slots:=#[]}->EP X pins σ Q .aa {s with heap:=h'}:=λits r' hz h' c' kp e =>
   ⟨.ref s.heap.objs.size,_,I.laid (t':=s.toks) kp .Y (show d8 X.prog X.w _ h' _ (.lst ys)from⟨hz,its,c',r',e⟩),rfl,q _ (I.aO.fresh .Y)⟩
 rcases hq with hq | hq
 . obtain⟨its,r',pl,hz⟩:=I.list hq
   have hlen:=r'.length;obtain⟨o,ho,hc,n,hd⟩:=pl.isList;exact call_list_seq p .aZ ho hc hd (λh' c' kp e=>fin its r' hz h' c' kp e) (by simp only[wP]<;>lia)
 . obtain⟨its,r',pl,hz⟩:=I.tuple hq
   have hlen:=r'.length;obtain⟨o,ho,hc,n,hd⟩:=pl;exact call_list_seq p (.inr rfl) ho hc hd (λh' c' kp e=>fin its r' hz h' c' kp e) (by simp only[wP]<;>lia)
theorem zqB :bM X (.type "tuple") (λxs H Q=>∃p ys,xs=[.ref p]/\((aE X.K H p ys /\ ∀l,H l=none->Q .al (upd H l (.tup ys)))\/(aV X.K H p ys/\Q .aA H))):=by
 intro pins s σ H xs us Q I r h;obtain⟨p,ys,rfl,h⟩:=h;obtain⟨u,rfl,rx⟩:=iD r;cases rx;rcases h with⟨hq,q⟩ | ⟨hq,q⟩
 ·obtain⟨its,r',pl,hz⟩:=I.list hq
  have hlen:=r'.length;refine call_tuple_list pl.isList (λh' kp=>?_) (by simp only[wP]<;>lia);have I1:Inv X pins σ H {s with heap:=h'}:=I.kept (t':=s.toks) kp
  have I2:Inv X pins σ (upd H h'.objs.size (.tup ys)) {s with heap:=h'.push {cls:=.type "tuple",data:=.seq its.toArray}} :=
   I1.laid (t':=s.toks) (λb o e=>wn _ e) .Y (show d8 X.prog X.w _ _ _ (.tup ys)from⟨hz,its,r',QI _ _⟩)
  exact⟨.ref h'.objs.size,_,I2,rfl,q _ (I1.aO.fresh .Y)⟩
 ·obtain⟨its,r',pl,hz⟩:=I.tuple hq
  exact call_tuple_same pl ⟨.ref p,H,I,rfl,q⟩
def Ck(K:wa)(T:.ar)(x:V)(H:Hp):Prop:=match x with
 | .str _=>T="str"
 | .int _=>T="int"
 | .ref p=>(T="list" /\ ∃xs,aE K H p xs)\/(T="tuple" /\ ∃o,K.lookup p=some o/\o.cls=.type "tuple"/\o.dict=none) \/
     (T="dict"/\((∃kvs,H p=some (.dK kvs)) \/ ∃kvs,H p=some (.dT kvs)))\/(T="set" /\ ∃S n,H p=some (.set S n))
 | _=>False
theorem zFh{pins:.l}{s:wm}{T:.ar}{v:wf}(I:.n)(r:bK x v)(ty:Ck X.K T x H) :
  s.TypeIs v T /\ ∀a,v=.ref a->∃ob,s.heap.get? a=some ob/\ob.dict=none:=by
 cases x with
 | str z =>
  obtain⟨t,rfl⟩:=r;cases (show T="str" from ty);exact⟨typeIs_str s z t,λ_ e=>nomatch e⟩
 | int i =>
  obtain⟨t,rfl⟩:=r;cases (show T="int" from ty);exact⟨typeIs_int s i t,λ_ e=>nomatch e⟩
 | ref p =>
  cases r;rcases ty with⟨rfl,xs,hq⟩ | ⟨rfl,o,hk,hc,hd⟩ | ⟨rfl,hk⟩ | ⟨rfl,S,n,hk⟩
  ·obtain⟨its,_,pl,_⟩:=I.list hq
   refine⟨pl.isList.typeIs,λa e=>?_⟩;cases e;obtain⟨o,n,e,c,hd,_⟩:=pl;exact⟨o,e,hd⟩
  ·refine⟨⟨o,I.eF p o hk,hc⟩,λa e=>?_⟩
   cases e;exact⟨o,I.eF _ o hk,hd⟩
  ·have z:∃o,s.heap.get? p=some o/\o.ExactDict:=by
    rcases hk with⟨kvs,hk⟩ | ⟨kvs,hk⟩
    ·obtain⟨_,_,_,_,o,_,_,e,ex,_⟩:=I.aO p _ hk
     exact⟨o,e,ex⟩
    ·obtain⟨_,_,_,_,o,_,_,e,ex,_⟩:=I.aO p _ hk
     exact⟨o,e,ex⟩
   obtain⟨o,e,ex⟩:=z;refine⟨⟨o,e,ex.1⟩,λa e2=>?_⟩;cases e2;exact⟨o,e,ex.2.1⟩
  ·obtain⟨o,_,_,_,e,ex,_⟩:=I.aO p _ hk
   refine⟨⟨o,e,ex.1⟩,λa e2=>?_⟩;cases e2;exact⟨o,e,ex.2.1⟩
 | _=>exact Vc ty
def OM(K:wa)(T:.ar)(r:V->List V->Hp->VK->Prop)(to:TE)(t:TA):TE:=λσ H Q=>to σ H λx H1=>Ck K T x H1/\t σ H1 λxs H2=>r x xs H2 Q
variable{o e:Expr}{es:.ak}{to:TE}{t:TA}{name:Str}{apos cpos:Pos}{T id:.ar}{r:V->List V->Hp->VK->Prop}
theorem i_(pa:PlainAttrs T)(slot:Slot T name id)(hty:typeOf (.builtin id)=pure (.type "method_descriptor"))(hm:S0 X id r)(ho:PE X o to)(ha:PA X (e::es) t)
  (hbase:attributeBase o name X.env (eval o X.env)=eval o X.env:=by rfl)
  (hfew:((V1 cpos (wY (e::es) X.env)).all (λx=>!x.1)&&(backToKw cpos (keywordEach [] X.env)).all (λx=>x.1.isSome)
   && decide ((e::es).length+([]:List Keyword).length+(if([]:List Keyword).isEmpty then 0 else 1)<30))=true:=by rfl)
  (hline:(apos.endLine == cpos.line)=true:=by rfl) (hs:wY (e::es) X.env=(false,eval e X.env)::wY es X.env:=by rfl) (hplain:(V1 cpos (wY es X.env)).any (·.1)=false:=by rfl) :
  PE X (.Call (.Attribute o name apos) (e::es) [] cpos) (OM X.K T r to t):=by
 intro pins s σ H Q I h;refine wpAny_Call_method_late hbase hfew hline rfl (aQ (ho pins s σ H _ I h) λv s1 ⟨x,H1,I1,r1,ty,q1⟩=>?_);obtain⟨h1,h2⟩:=zFh I1 r1 ty;refine⟨T,id,pa,slot,hty,h1,h2,?_⟩;have hA:=ha cpos pins s1 σ H1 _ I1 q1;rw[hs]at hA ⊢;refine Calls.callWith_builtin (by show(false || (V1 cpos (wY es X.env)).any (·.1))=false;rw[hplain]<;>rfl) (Xm ?_);exact aQ hA λus s2 ⟨vs,H2,I2,r2,q2⟩=>hm pins s2 σ H2 x vs v us Q I2 r1 r2 q2
end
def HG(X:Cx)(id:.ar)(r:V->List V->Hp->VK->Prop):Prop :=
 ∀(pins:.l)(s:wm)(σ : St)(H:Hp)(x:V)(xs:.x)(v:wf)(us:.J)(Q:VK),Inv X pins σ H s->bK x v->aU xs us->r x xs H Q ->
  wx .o X.A (call (.builtin id) (v::us)) (EP X pins σ Q) X.xe s
theorem aU.one:∀{x:V}{us:.J},aU [x] us->∃u,us=[u]/\bK x u
 | _,_,.cons r .nil=>⟨_,rfl,r⟩
theorem aU.rep{xs:.x}{us:.J}(h:aU xs us):∀k:Nat,aU (vj k xs).flatten (vj k us).flatten
 | 0=>.nil
 | k+1=>by
  rw[qk,qk,VW,VW];exact aU.append h (aU.rep h k)
theorem OY(its:.J):∀(k:Nat)(acc:.J),
  uN (λx1 x2=>x1++x2) acc.toArray (vj k its.toArray)=(acc++(vj k its).flatten).toArray
 | 0,acc=>by simp
 | k+1,acc=>by
  have e:acc.toArray++its.toArray=(acc++its).toArray:=by simp
  have e2:(acc++its)++(vj k its).flatten=acc++(vj (k+1) its).flatten:=by
   rw[qk,VW,Vo]
  rw[<- e2,<- OY its k (acc++its),<- e,qk,List.foldl_cons]
section
variable{X:Cx}{pins:.l}{σ : St}{H:Hp}{s:wm}{l b:we}{xs ys zs:.x}
theorem Inv.aaN{its its':.J}{n:Nat}{f:Array wf->Array wf}{t':Nat}(I:.n)(hH:H l=some (.lst xs))
  (e:s.heap.get? l=some {cls:=.type "list",data:=.seq its.toArray n}) (hf:f its.toArray=its'.toArray) (hv:aU ys its') (hz:ys.length<=vd) :
  Inv X pins σ (upd H l (.lst ys)) {s with heap:=s.heap.update l (xr f),toks:=t'}:=by
 have q:=PySem.IsL.update e f;rw[hf]at q;refine I.write (x:=l) (e:=l) (by rw[hH];exact trivial) .aZ (λb' u hb hu=>(Qv s.heap (xr f) (WI hb)).trans hu) ⟨_,q⟩ ?_;exact⟨hz,its',_,hv,q⟩
theorem Inv.C6{its:.J}{t':Nat}(I:.n)(hv:aU ys its)(hz:ys.length<=vd) :
  Inv X pins σ (upd H s.heap.objs.size (.lst ys)) {s with heap:=s.heap.push {cls:=.type "list",data:=.seq its.toArray},toks:=t'} :=
 I.laid (λ_ _ q=>wn _ q) .Y ⟨hz,its,0,hv,wS _ rfl⟩
theorem Inv.fresh(I:.n):H s.heap.objs.size=none:=I.aO.fresh .Y
theorem Inv.rQ(I:.n)(hH:H l=some (.lst xs)):xs.length<=vd /\ ∃(its:.J)(n:Nat),aU xs its/\xs.length=its.length/\s.heap.get? l=some {cls:=.type "list",data:=.seq its.toArray n}:=by
 obtain⟨z,its,n,r,e⟩:=I.aO l _ hH;exact⟨z,its,n,r,r.length,e⟩
theorem zzV{n:Nat}(h:n<=vd):qZ n=false:=by
 unfold qZ;exact decide_eq_false .a
end
section
variable{X:Cx}
def Sk:V->List V->Hp->VK->Prop:=λx vs H Q=>∃l xs y,x=.ref l/\vs=[y]/\H l=some (.lst xs)/\xs.length<vd/\Q .bE (upd H l (.lst (xs++[y])))
theorem jh:HG X "list.append" Sk:=by
 intro pins s σ H x vs v us Q I rx rv h;obtain⟨l,xs,y,rfl,rfl,hH,hz,q⟩:=h;cases rx;obtain⟨u,rfl,ru⟩:=rv.one;obtain⟨z,its,n,r,hl,e⟩:=I.rQ hH;refine call_meets F.slot_list_append ⟨_,e,rfl⟩ F.entry_list_append (F.args_list_append_2 _ _) (PySem.list_append l its.toArray n u (by rw[wP];lia)) ⟨e,?_⟩;refine⟨.bE,_,I.aaN (its':=its++[u]) hH e .u (r.append (.cons ru .nil)) ?_,rfl,q⟩;rw[wL,vX]
 lia
def GP:R2:=λx y H Q=>∃l b xs zs,x=.ref l/\y=.ref b/\H l=some (.lst xs)/\H b=some (.lst zs)/\xs.length+zs.length<=vd /\ ∀p,H p=none->Q .aA (upd H p (.lst (xs++zs)))
theorem zFd:bL X (WQ .Add) GP:=by
 intro pins s σ H x y v u Q I rx ry h;obtain⟨l,b,xs,zs,rfl,rfl,hH,hB,hz,q⟩:=h;cases rx;cases ry;obtain⟨z,its,n,r,hl,e⟩:=I.rQ hH;obtain⟨z2,its2,n2,r2,hl2,e2⟩:=I.rQ hB;refine PySem.P.add_list e e2 ?_ (by rw[wP,wP];lia);have ea:its.toArray++its2.toArray=(its++its2).toArray:=by simp
 rw[ea];exact⟨.ref _,_,I.C6 (t':=s.toks) (r.append r2) (by rw[wL];lia),rfl,q _ I.fresh⟩
def rA:R2:=λx y H Q=>∃l k xs,x=.ref l/\y=.int k/\H l=some (.lst xs) /\ -(2^63)<=k/\k<2^63/\xs.length*k.toNat<=vd /\
 ∀p,H p=none->Q .aA (upd H p (.lst (vj k.toNat xs).flatten))
theorem zDh{α : Type}(xs:.aY)(k:Nat):(vj k xs).flatten.length=k*xs.length:=by
 induction k with
 | zero=>simp
 | succ k ih=>rw[qk,VW,wL,ih,qD,XQ]
theorem Hw:bL X (WQ .Mult) rA:=by
 intro pins s σ H x y v u Q I rx ry h;obtain⟨l,k,xs,rfl,rfl,hH,h1,h2,hz,q⟩:=h;cases rx;obtain⟨t,rfl⟩:=ry;obtain⟨z,its,n,r,hl,e⟩:=I.rQ hH;have hlen:its.toArray.size*k.toNat<=vd:=by rw[wP,<- hl];exact hz
 have hcap:¬ its.toArray.size*k.toNat > (2^63-1) / 8:=by
  have:(vd:Nat)<=(2^63-1) / 8:=by decide
  lia
 have hfit:¬ (!Builtin.List.listFitsIndex k)=true:=by
  rw[fitsIndex_both h1 h2];exact vJ
 have hlong:¬ qZ (its.toArray.size*k.toNat)=true:=by
  rw[zzV hlen];exact vJ
 have hnew:uN (λx1 x2=>x1++x2) #[] (vj (if its.toArray.isEmpty=true then 0 else k.toNat) its.toArray)=(vj k.toNat its).flatten.toArray:=by
  have f0:∀m:Nat,uN (λx1 x2=>x1++x2) #[] (vj m its.toArray)=(vj m its).flatten.toArray:=λm=>by
   have:=OY its m [];rw[qT]at this;exact this
  rw[f0];cases its with
  | nil=>simp
  | cons a r'=>rw[if_neg .u]
 refine wpAny_binaryOp_repeat_ref (T:="list") (U:="int") .M ⟨_,e,rfl⟩ (λs'=>typeIs_int s' k t) noFill_list_mul F.fills_int_mul uO repeat_list F.slot_int_index.lookup
  (call_meets uO (typeIs_int s k t) F.entry_int_rmul (F.args_int_rmul_2 _ _) (int___rmul___int_list k t l its.toArray n)
   ⟨e,rfl,⟨_,e,rfl⟩,call_meets F.slot_list_mul ⟨_,e,rfl⟩ F.entry_list_mul (F.args_list_mul_2 _ _) (AutoListH.list___mul___list_int_3 l its.toArray n k t hfit hcap hlong) ⟨e,?_⟩⟩)
 rw[hnew];exact⟨.ref _,_,I.C6 (t':=s.toks) (r.rep k.toNat) (by rw[zDh,xz];exact hz),rfl,q _ I.fresh⟩
end
section
variable{prog:wK}{w:wO}{A:vg}{E:.m}{s:wm}
end
section
variable{X:Cx}
end
end L2
namespace Att
open PySem PySem.W PySem.Calls PyProof.Rows
theorem zob{P:Params}{h:wJ} : ∀(ns:.p)(vs:.J),WellAll P h vs (ns.map WData.int)->IntsAre vs ns:=by
 intro ns
 induction ns with
 | nil =>
  intro vs w;rw[xy]at w;cases w;exact .nil
 | cons n ns ih =>
  intro vs w;rw[ve]at w;cases w with
  | cons a b =>
   cases a;exact .cons _ _ (ih _ b)
theorem zyT{l:OpenLaw}{n:Nat}(hn:l.most=some n){P:Params}{h:wJ}{args:List WData}{vals:.J}
  (hpre:l.row.toRowW.claim.pre args=true) (hwl:WellAll P h vals args) :
  ∃a vs ns,vals=[Value.ref a]/\args=[WData.list (ns.map WData.int)]/\h.get? a=some {cls:=.type "list",data:=.seq vs.toArray}/\IntsAre vs ns/\ns.length<=n:=by
 have hsh:WShape.hasAll [] args [.list .int]=true:=(pre_splitW hpre).1;have hc:l.pre.holds [] {args:=args}=true:=(pre_splitW hpre).2;obtain⟨d,r,rfl,h1,h2⟩:=hasAllW_cons hsh;obtain rfl:=hasAllW_nil h2;obtain⟨xs,rfl,h3⟩:=hasW_list h1;obtain⟨ns,rfl⟩:=items_int h3
 have hlen:ns.length<=n:=by
  unfold OpenLaw.pre at hc
  have h4:(WTm.not (.lt (.lit (.int (n:Int))) (.len (.arg 0)))).holds [] {args:=[.list (ns.map .int)]}=true:=by
   have h4:=(holds_andW hc).1;rw[hn]at h4;exact h4
  have h5:=condW_of h4 (w_not (w_lt w_lit (w_len_list (w_arg rfl))));rw[wl]at h5;refine Nat.le_of_not_lt λq=>?_
  have q':(n:Int)<((ns.length:Nat):Int):=by lia
  first
   | (rw[decide_eq_true q']at h5;exact absurd h5 .M)
   | (simp at h5;lia)
 cases hwl with
 | cons w1 w2 =>
  cases w2;cases w1 with
  | list ho hall=>exact⟨_,_,ns,rfl,rfl,ho,zob ns _ hall,hlen⟩
theorem zzo(l:OpenLaw)(args:List WData):l.row.toRowW.claim.post args (.bool true) args=true :=
 postW_of (r:=l.row.toRowW) (X:=(true == true))
  (show WShape.has [] (.bool true) .bool=true by first | rfl | decide | simp[WShape.has,WShape.arms,WShape.armsAll])
  (show(WTm.eq .res (.lit (.bool true))).value [] {args:=args,res:=some (.bool true),after:=args}=some (.bool (true == true))from w_eq_bool (w_res rfl) w_lit) rfl
theorem aaj{l:OpenLaw}{n:Nat}{q:wK}{loose:.Q}{XP:(Str->Option wf)->wJ->Prop}{YP:wO->wJ->Prop}{d:DefRec}
  (hn:l.most=some n) (hdf:d.params.defaults=[])
  (call:∀(w:wO)(s₀ s₁ : wm)(mg mb:.I)(fa:we)(o:Obj)(pm cd doc:wf)(a:we)(vs:.J)(ns:.p),
   Ground q loose [] XP w s₀ mg mb s₁.heap->YP w s₁.heap ->
   s₁.heap.get? fa=some o->o.data=.func (docDef d.name d.params d.body d.scope pm cd doc)->s₁.heap.CodeRec cd d.name->mg d.name=some (.ref fa) ->
   s₁.heap.get? a=some {cls:=.type "list",data:=.seq vs.toArray}->IntsAre vs ns->ns.length<=n->s₁.gens = #[] ->
   codeAny (model l.prog w) callerA (.call (.ref fa) ⟨[.ref a],[]⟩) (λr s'=>r=.ok (.ret (.bool true))/\OldK s₁.heap s'.heap/\s'.os=s₁.os/\AllBare s'.gens) s₁) :
  WalkO q loose XP YP l.row.toRowW d [] (λf vs=>uP f vs):=by
 intro w s₀ s₁ mg mb G Y fa o pm cd doc dV kV ho hd hcd hD hmg hg args vals as hpre hlay hrd hwl hlo;obtain rfl:dV=.none:=Dflts.none hD hdf;obtain rfl:kV=.none:=Dflts.noKw hD;obtain⟨a,vs,ns,rfl,rfl,hobj,hints,hlen⟩:=zyT hn hpre hwl;refine enter_call (codeAny_mono (call w s₀ s₁ mg mb fa o pm cd doc a vs ns G Y ho (fd_plain hd) hcd hmg hobj hints hlen hg) λr s' hq=>?_);obtain⟨rfl,h2,h3,h4⟩:=hq;exact⟨.inl ⟨.bool true,.bool true,[],rfl,λ_=>rfl,.bool true,zzo l _,λ_=>⟨Xx.nil,λ_ hm=>(nomatch hm)⟩⟩,h2,h3,h4⟩
section
variable{prog:wK}{w:wO}{A:vg}{E:.m}{s:wm}{K:Frag}
def zHp(h:wJ)(L d:we):List (we × Obj):=(wp h.objs.size).filterMap λa=>if a=L\/a=d then none else(h.get? a).map λo=>(a,o)
end
end Att
namespace L2
open PySem PySem.Spec PyProof.Rows
theorem Yi:∀{vs:.J}{ns:.p},IntsAre vs ns->aU .aq vs
 | _,_,.nil=>.nil
 | _,_,.cons n t h=>.cons ⟨t,rfl⟩ (Yi h)
def B1(H:Hp):Prop:=∀b,H b=none \/ ∃o xs,H b=some (.gT o (.lst xs))
theorem zBb{P:wK}{w:wO}{K:wa}{mg mb:.I}{CX:gx}{k:Nat}{fa a:we}{fd:wA}{x:Str}{sp:Sp}{s₁ : wm}{vs:.J}{ns:.p}
   (KX:K.In s₁.heap) (hns:s₁.heap.Ns wU mg) (hb:s₁.heap.Ns builtinsNs mb) (hbb:∀x:Str,x≠"__name__" -> mb x=vL x) (hlim:s₁.heap.NoLimit) (hg:s₁.gens = #[])
   (ha:s₁.heap.get? a=some {cls:=.type "list",data:=.seq vs.toArray}) (hi:IntsAre vs ns) (hl:ns.length<=vd) (hr:eT k callerA)
   (F:∀base:wJ,K.In base->base.Ns wU mg->aG P w K mg base CX k fa fd [x] sp) (hbind:∀(s:wm)(u:wf),BindsTo s fd ⟨[u],[]⟩ [(x,u)])
   (hsp:∀H:Hp,B1 H->aE K H a .aq->sp [.ref a] H (λv _=>v=.bl true) λ_ _ _=>False)
   (hCX:∀H e s',CX [] H s₁ (λ_ _ _=>False) e s'->False) :
   codeAny (model P w) callerA (.call (.ref fa) ⟨[.ref a],[]⟩) (λr s'=>r=.ok (.ret (.bool true))/\OldK s₁.heap s'.heap/\s'.os=s₁.os/\AllBare s'.gens) s₁:=by
 have rv:=Yi hi;have lenV:=hi.length
 have core:∀H:Hp,B1 H->aE K H a .aq->dR P w H s₁.heap->(∀b,H b≠none->b=a)->(H a≠none->K.lookup a=none) ->
     codeAny (model P w) callerA (.call (.ref fa) ⟨[.ref a],[]⟩) (λr s'=>r=.ok (.ret (.bool true))/\OldK s₁.heap s'.heap/\s'.os=s₁.os/\AllBare s'.gens) s₁:=by
   intro H hO hS aO hA hK;have base_of:∀{b:we}{o:Obj},s₁.heap.get? b=some o->H b=none->(lB s₁.heap H).get? b=some o:=λe n=>zAB e n
   have noA:∀{b:we}{o:Obj}{es:Array DictEntry}{ep:Nat},s₁.heap.get? b=some o->o.data=.dict es ep->H b=none:=λ{b o es ep} e d=>by
     cases q:H b with
     | none=>rfl
     | some u =>
       have e':b=a:=hA b (by rw[q];simp);subst e';rw[ha]at e;cases e;have d':Data.seq vs.toArray _=Data.dict es ep:=d;cases d'
   have nsK:∀{b:we}{m:.I},s₁.heap.Ns b m->(lB s₁.heap H).Ns b m:=λ{b m} ⟨o,es,ep,e,d,r⟩=>⟨o,es,ep,base_of e (noA e d),d,r⟩
   have hKb:K.In (lB s₁.heap H):=λb o e=>base_of (KX b o e) (by
     cases q:H b with
     | none=>rfl
     | some u =>
       have e':b=a:=hA b (by rw[q];simp);subst e';rw[hK (by rw[q];simp)]at e;cases e)
   have hM:Mod K mg (lB s₁.heap H):=⟨hKb,nsK hns,⟨mb,nsK hb,hbb⟩,let ⟨mc,h1,h2⟩:=hlim;⟨mc,nsK h1,h2⟩⟩;have e0:A2 P w K mg (lB s₁.heap H) callerA [] s₁ H:=⟨rfl,hM,λb o e=>zDo e,Nat.le_of_eq (zy8 _ _),trivial,λb hb=>absurd (show b∈([]:List we)from hb) .u,aO,.of_eq hg⟩;refine codeAny_mono ((F _ hKb (nsK hns)).run callerA [] s₁ H ⟨[.ref a],[]⟩ [.ref a] [.ref a] _ _ hr e0 (hbind s₁ .bq) (.cons rfl .nil) (hsp H hO hS)) λr s' h=>?_
   cases r with
   | error e=>exact(hCX H e s' h).elim
   | ok fl =>
     cases fl with
     | next=>exact Vc h
     | brk=>exact Vc h
     | cont=>exact Vc h
     | ret u =>
       obtain⟨v,H',os,bare,un,hok',r',q⟩:=h;have q':v=.bl true:=q;subst q';obtain rfl:u=Value.bool true:=r';refine⟨rfl,OldK.of_keep λb o e=>?_,os,bare⟩;cases q:H b with
       | none=>exact un.keep b o e q (by intro z;exact absurd (show b∈([]:List we)from z) .u) .u
       | some u =>
         rcases hO b with z | ⟨ob,xs,z⟩
         . rw[q]at z;cases z
         . have z2:=un.iV b ob _ z
           obtain⟨e1,_⟩:=aO b _ z;obtain⟨e2,_⟩:=hok' b _ z2;rw[e]at e1;cases e1;exact e2
 cases hk:K.lookup a with
 | some o =>
   have e:=KX a o hk;rw[ha]at e;cases e;refine core (λ_=>none) (λ_=>.inl rfl) (.inr ⟨_,vs.toArray,_,hk,rfl,rfl,rfl,by rw[wP,lenV];exact hl,by simpa using rv⟩) (λb u z=>by have z':(none:Option HO)=some u:=z;cases z') (λb z=>absurd rfl z) λz=>absurd rfl z
 | none =>
   refine core (λb=>if b=a then some (.gT {cls:=.type "list",data:=.seq vs.toArray} (.lst .aq))else none) (λb=>?_) (.inl (.inr ⟨{cls:=.type "list",data:=.seq vs.toArray},if_pos rfl⟩)) (λb u z=>?_) (λb z=>?_) λ_=>hk
   . by_cases hb:b=a
     . exact .inr ⟨_,_,if_pos hb⟩
     . exact .inl (if_neg hb)
   . by_cases hb:b=a
     . have z':=(if_pos hb).symm.trans z
       cases z';subst hb;exact⟨ha,by rw[wl];exact hl,vs,_,rv,ha⟩
     . have z':=(if_neg hb).symm.trans z
       cases z'
   . by_cases hb:b=a
     . exact hb
     . exact absurd (if_neg hb) z
abbrev KOf{K:wa}{h:wJ}(_:K.In h):wa:=K
theorem aaw{l:xL}{n k:Nat}{q:wK}{loose:.Q}{XP:(Str->Option wf)->wJ->Prop}{YP:wO->wJ->Prop}{d:DefRec}{K:Params->wa}{CX:wO->gx}{sp:wO->Sp}{x:Str}
  (hn:l.most=some n) (hn2:n<=vd) (hdf:d.params.defaults=[]) (hr:eT k callerA)
  (hY:∀(w:wO)(h:wJ),YP w h->(K w.params).In h)
  (F:∀(w:wO)(mg:.I)(fa:we)(h:wJ),(K w.params).In h->h.Ns wU mg->mg d.name=some (.ref fa) ->
   ∃fd:wA,(∀(s:wm)(u:wf),BindsTo s fd ⟨[u],[]⟩ [(x,u)]) /\
    ∀base:wJ,(K w.params).In base->base.Ns wU mg->aG l.prog w (K w.params) mg base (CX w) k fa fd [x] (sp w))
  (hsp:∀(w:wO)(H:Hp)(a:we)(ns:.p),ns.length<=n->B1 H->aE (K w.params) H a .aq->sp w [.ref a] H (λv _=>v=.bl true) λ_ _ _=>False)
  (hCX:∀(w:wO)(H:Hp)(s:wm)(e:wf)(s':wm),CX w [] H s (λ_ _ _=>False) e s'->False) :
  Uo q loose XP YP l.row.toRowW d [] (λf vs=>uP f vs):=by
 refine Att.aaj hn hdf λw s₀ s₁ mg mb fa o pm cd doc a vs ns G Y ho hd hcd hmg hobj hints hlen hg=>?_
 have KX:=hY w _ Y;obtain⟨fd,hb,hF⟩:=F w mg fa _ KX G.T.g hmg;exact zBb KX G.T.g G.T.b G.T.builtins G.T.nolimit hg hobj hints (Wb hlen hn2) hr hF hb (λH hO hS=>hsp w H a ns hlen hO hS) λH e s'=>hCX w H s₁ e s'
def oW(s:w6):Arguments:=match s with
 | .FunctionDef _ a _ _ _ _ _ _ _ _=>a
 | _=>{posonlyargs:=[],args:=[],vararg:=none,kwonlyargs:=[],kw_defaults:=[],kwarg:=none,defaults:=[]}
def mP(s:w6):List w6:=match s with
 | .FunctionDef _ _ b _ _ _ _ _ _ _=>b
 | _=>[]
def aH(s:w6):Scope:=match s with
 | .FunctionDef _ _ _ _ _ _ sc _ _ _=>sc
 | _=>{kind:=.function,names:=[],isGenerator:=false,isCoroutine:=false}
abbrev aN:gx:=λ_ _ _ _ _ _=>False
abbrev E0:XK:=λ_ _ _=>False
theorem zHa{X:Cx} : oO aN X E0:=λ_ _ _ _ _ _ _ h=>h.elim
structure m6(K:wa)(x qual:Str)(st:w6)(f:we)(fd:wA):Prop where
 ex:∃(oc:wf)(od:Option we)(kV doc pm:wf)(an:Option we)(cdv ct:wf)(osl:.bG),
   fd=V9 x qual (oW st) (mP st) (aH st) .none kV doc pm an cdv ct/\K.lookup f=some ⟨oc,od,.func fd,osl⟩/\QZ K cdv qual=true
 kp:Qh K (.ref f)=true
section
variable{P:wK}{w:wO}{K:wa}{mg:.I}{base:wJ}
variable{qual x:Str}{st:w6}{f:we}
theorem m6.ok{fd:wA}{N ps:.Q}{k:Nat}{sp:Sp}(F:m6 K x qual st f fd)(S:aJ N ps (aH st))(len:∀vs H Q E,sp vs H Q E->vs.length=ps.length)
  (hbody:N.Nodup->∀(cdv:wf)(A:vg)(outer:.bj)(s:wm)(H:Hp)(vs:.x)(Q:VK)(E:XK),eT k (A.deeper (envOfC qual (aH st) s.heap.objs.size f cdv))->sp vs H Q E ->
   ∃t,fZ (jD aN P w K mg base N qual (aH st) f cdv A outer s H E).z8 (mP st) t/\t {nx:=λ_ H'=>Q .bE H',rt:=Q} (start N vs) H):aG P w K mg base aN (k+1) f fd ps sp:=by
 obtain⟨oc,od,kV,doc,pm,an,cdv,ct,osl,rfl,lk,hcd⟩:=F.ex;refine zD5 lk hcd S len λA outer s H vs Q E hr hsp=>?_
 obtain⟨t,h,q⟩:=hbody S.nd cdv A outer s H vs Q E hr hsp;exact⟨t,h.z8,q⟩
def S1(g:V->Hp->VK->XK->Prop):Sp:=λvs H Q E=>match vs with|[u]=>g u H Q E|_=>False
theorem S1.i{g:V->Hp->VK->XK->Prop}{H:Hp}{Q:VK}{E:XK}{u:V}(h:g u H Q E):S1 g [u] H Q E:=h
theorem m6.c1{fd:wA}{N ps:.Q}{k:Nat}{g:V->Hp->VK->XK->Prop}(F:m6 K x qual st f fd)(S:aJ N ps (aH st))(hp:ps.length=1)(hbody:N.Nodup->∀(cdv:wf)(A:vg)(outer:.bj)(s:wm)(H:Hp)(u:V)(Q:VK)(E:XK),eT k (A.deeper (envOfC qual (aH st) s.heap.objs.size f cdv))->g u H Q E ->
   ∃t,fZ (jD aN P w K mg base N qual (aH st) f cdv A outer s H E).z8 (mP st) t/\t {nx:=λ_ H'=>Q .bE H',rt:=Q} (start N [u]) H):aG P w K mg base aN (k+1) f fd ps (S1 g):=F.ok S (λvs H Q E h=>by unfold S1 at h;split at h;exact hp.symm;cases h) λ_ cdv A o s H vs Q E hr h=>by unfold S1 at h;split at h;exact hbody S.nd cdv A o s H _ Q E hr h;cases h
def S2(g:V->V->Hp->VK->XK->Prop):Sp:=λvs H Q E=>match vs with|[u,v]=>g u v H Q E|_=>False
theorem S2.i{g:V->V->Hp->VK->XK->Prop}{H:Hp}{Q:VK}{E:XK}{u v:V}(h:g u v H Q E):S2 g [u,v] H Q E:=h
theorem m6.c2{fd:wA}{N ps:.Q}{k:Nat}{g:V->V->Hp->VK->XK->Prop}(F:m6 K x qual st f fd)(S:aJ N ps (aH st))(hp:ps.length=2)(hbody:N.Nodup->∀(cdv:wf)(A:vg)(outer:.bj)(s:wm)(H:Hp)(u v:V)(Q:VK)(E:XK),eT k (A.deeper (envOfC qual (aH st) s.heap.objs.size f cdv))->g u v H Q E ->
   ∃t,fZ (jD aN P w K mg base N qual (aH st) f cdv A outer s H E).z8 (mP st) t/\t {nx:=λ_ H'=>Q .bE H',rt:=Q} (start N [u,v]) H):aG P w K mg base aN (k+1) f fd ps (S2 g):=F.ok S (λvs H Q E h=>by unfold S2 at h;split at h;exact hp.symm;cases h) λ_ cdv A o s H vs Q E hr h=>by unfold S2 at h;split at h;exact hbody S.nd cdv A o s H _ _ Q E hr h;cases h
def S3(g:V->V->V->Hp->VK->XK->Prop):Sp:=λvs H Q E=>match vs with|[u,v,y]=>g u v y H Q E|_=>False
theorem S3.i{g:V->V->V->Hp->VK->XK->Prop}{H:Hp}{Q:VK}{E:XK}{u v y:V}(h:g u v y H Q E):S3 g [u,v,y] H Q E:=h
theorem m6.c3{fd:wA}{N ps:.Q}{k:Nat}{g:V->V->V->Hp->VK->XK->Prop}(F:m6 K x qual st f fd)(S:aJ N ps (aH st))(hp:ps.length=3)(hbody:N.Nodup->∀(cdv:wf)(A:vg)(outer:.bj)(s:wm)(H:Hp)(u v y:V)(Q:VK)(E:XK),eT k (A.deeper (envOfC qual (aH st) s.heap.objs.size f cdv))->g u v y H Q E ->
   ∃t,fZ (jD aN P w K mg base N qual (aH st) f cdv A outer s H E).z8 (mP st) t/\t {nx:=λ_ H'=>Q .bE H',rt:=Q} (start N [u,v,y]) H):aG P w K mg base aN (k+1) f fd ps (S3 g):=F.ok S (λvs H Q E h=>by unfold S3 at h;split at h;exact hp.symm;cases h) λ_ cdv A o s H vs Q E hr h=>by unfold S3 at h;split at h;exact hbody S.nd cdv A o s H _ _ _ Q E hr h;cases h
def S4(g:V->V->V->V->Hp->VK->XK->Prop):Sp:=λvs H Q E=>match vs with|[u,v,y,z]=>g u v y z H Q E|_=>False
theorem S4.i{g:V->V->V->V->Hp->VK->XK->Prop}{H:Hp}{Q:VK}{E:XK}{u v y z:V}(h:g u v y z H Q E):S4 g [u,v,y,z] H Q E:=h
theorem m6.c4{fd:wA}{N ps:.Q}{k:Nat}{g:V->V->V->V->Hp->VK->XK->Prop}(F:m6 K x qual st f fd)(S:aJ N ps (aH st))(hp:ps.length=4)(hbody:N.Nodup->∀(cdv:wf)(A:vg)(outer:.bj)(s:wm)(H:Hp)(u v y z:V)(Q:VK)(E:XK),eT k (A.deeper (envOfC qual (aH st) s.heap.objs.size f cdv))->g u v y z H Q E ->
   ∃t,fZ (jD aN P w K mg base N qual (aH st) f cdv A outer s H E).z8 (mP st) t/\t {nx:=λ_ H'=>Q .bE H',rt:=Q} (start N [u,v,y,z]) H):aG P w K mg base aN (k+1) f fd ps (S4 g):=F.ok S (λvs H Q E h=>by unfold S4 at h;split at h;exact hp.symm;cases h) λ_ cdv A o s H vs Q E hr h=>by unfold S4 at h;split at h;exact hbody S.nd cdv A o s H _ _ _ _ Q E hr h;cases h
def S5(g:V->V->V->V->V->Hp->VK->XK->Prop):Sp:=λvs H Q E=>match vs with|[u,v,y,z,j]=>g u v y z j H Q E|_=>False
theorem S5.i{g:V->V->V->V->V->Hp->VK->XK->Prop}{H:Hp}{Q:VK}{E:XK}{u v y z j:V}(h:g u v y z j H Q E):S5 g [u,v,y,z,j] H Q E:=h
theorem m6.c5{fd:wA}{N ps:.Q}{k:Nat}{g:V->V->V->V->V->Hp->VK->XK->Prop}(F:m6 K x qual st f fd)(S:aJ N ps (aH st))(hp:ps.length=5)(hbody:N.Nodup->∀(cdv:wf)(A:vg)(outer:.bj)(s:wm)(H:Hp)(u v y z j:V)(Q:VK)(E:XK),eT k (A.deeper (envOfC qual (aH st) s.heap.objs.size f cdv))->g u v y z j H Q E ->
   ∃t,fZ (jD aN P w K mg base N qual (aH st) f cdv A outer s H E).z8 (mP st) t/\t {nx:=λ_ H'=>Q .bE H',rt:=Q} (start N [u,v,y,z,j]) H):aG P w K mg base aN (k+1) f fd ps (S5 g):=F.ok S (λvs H Q E h=>by unfold S5 at h;split at h;exact hp.symm;cases h) λ_ cdv A o s H vs Q E hr h=>by unfold S5 at h;split at h;exact hbody S.nd cdv A o s H _ _ _ _ _ Q E hr h;cases h
theorem m6.binds{fd:wA}{ps:.Q}(F:m6 K x qual st f fd)
  (h:∀(kV doc pm:wf)(an:Option we)(cdv ct:wf)(us:.J),us.length=ps.length->bindArgs (V9 x qual (oW st) (mP st) (aH st) .none kV doc pm an cdv ct) ⟨us,[]⟩=pure (ps.zip us)):nA K fd ps []:=by
 obtain⟨oc,od,kV,doc,pm,an,cdv,ct,osl,rfl,lk,hcd⟩:=F.ex;exact .all (h kV doc pm an cdv ct)
theorem zBg{oc:wf}{od an:Option we}{osl:.bG}{kV doc pm cdv ct:wf}(l:K.lookup f=some ⟨oc,od,.func (V9 x qual (oW st) (mP st) (aH st) .none kV doc pm an cdv ct),osl⟩)
  (c:QZ K cdv qual=true) (k:Qh K (.ref f)=true):m6 K x qual st f (V9 x qual (oW st) (mP st) (aH st) .none kV doc pm an cdv ct):=⟨⟨oc,od,kV,doc,pm,an,cdv,ct,osl,rfl,l,c⟩,k⟩
end
theorem gW{n:Nat}(h:n<=1000):n<vd:=Vg h .M
section
variable{X:Cx}
theorem pv(i:Nat){x:Str}{pos:Pos}(hN:X.N[i]? = some x:=by rfl)(hv:tQ X.env.scope x:=by first | exact Or.inl rfl | exact Or.inr .y | exact Or.inr (Or.inr rfl))(hd:.ay=false:=by decide)
  (hcd:(x == ("__classdict__" : Str))=false:=by decide):PE X (.Name x pos) (jd i):=OP hN hv hd hcd
end
theorem o_{A B:Prop}(h:B):if false=true then A else B:=by
 rw[if_neg vJ];exact h
theorem pD{A B:Prop}(h:A):if true=true then A else B:=by
 rw[if_pos rfl];exact h
def ar(H H':Hp):Prop:=∀b o,H b=some o->H' b=some o
theorem ar.refl(H:Hp):ar H H:=λ_ _ h=>h
theorem ar.trans{H H1 H2:Hp}(a:ar H H1)(b:ar H1 H2):ar H H2:=λc o h=>b c o (a c o h)
theorem ar.seq{K:wa}{H H':Hp}{a:we}{xs:.x}(e:ar H H')(h:aE K H a xs):aE K H' a xs:=by
 rcases h with(h | ⟨o,h⟩) | h
 ·exact .inl (.inl (e _ _ h))
 ·exact .inl (.inr ⟨o,e _ _ h⟩)
 ·exact .inr h
end L2
namespace GM
variable{B t u:Int}{a b h x y:Rat}{c i j k m n w:Nat}{l ps xs ys:.c}{ns:.p}{left:List Nat}{fl:Nat->Nat}
def dv(t b:Int):Int:=if b<0 then -((vI t b:Nat):Int)else((vI t b:Nat):Int)
theorem Fq{b:Int}(hb:b≠0):0<vI t b:=qE t hb
theorem SS{b:Int}(hb:b≠0):dv t b≠0:=by
 have:=Fq (t:=t) hb;unfold dv
 split<;>lia
theorem fY{a d:Int}(h:d ∣ a)(hd:d≠0):a.fdiv d=a / d:=by
 obtain⟨k,rfl⟩:=h;rw[Int.mul_fdiv_cancel_left _ hd,qb _ hd]
theorem W_{b:Int}(hb:b≠0):t.fdiv (dv t b)=(wB t b).num:=by
 have hg:=Fq (t:=t) hb;have h1:((vI t b:Nat):Int) ∣ t:=qK ..;rw[Rat.num_divInt,XR b t];unfold dv
 by_cases h:b<0
 ·rw[if_pos h,xl h,fY (ui.mpr h1) .a,Int.ediv_neg]
  obtain⟨k,hk⟩:=h1;have:(-1:Int)*t=((vI t b:Nat):Int)*(-k):=by rw[uQ,uj,<- hk]
  rw[this,qb _ .a];have e:t / ((vI t b:Nat):Int)=k:=xf .a hk;rw[e]
 ·rw[if_neg h,xU .a,Q8,fY h1 .a]
theorem zFf{b:Int}(hb:b≠0):b.fdiv (dv t b)=((wB t b).den:Int):=by
 have hg:=Fq (t:=t) hb;have h1:((vI t b:Nat):Int) ∣ b:=Qn ..;rw[Ud,if_neg hb,XR b t];unfold dv
 by_cases h:b<0
 ·rw[if_pos h,fY (ui.mpr h1) .a,Int.ediv_neg,qc]
  obtain⟨k,hk⟩:=h1;have:(b.natAbs:Int)=((vI t b:Nat):Int)*(-k):=by rw[uj,<- hk];lia
  rw[this,qb _ .a];have e:b / ((vI t b:Nat):Int)=k:=xf .a hk;rw[e]
 ·rw[if_neg h,fY h1 .a,qc]
  have:(b.natAbs:Int)=b:=by lia
  rw[this]
def iO(p q:Int):Bool:=decide (1<=q)&&decide (vI p q=1)
theorem zrF(r:Rat):iO r.num r.den=true:=by
 have h:=r.reduced;have hd:=r.den_pos;simp only[iO,w8,decide_eq_true_eq];refine⟨by lia,?_⟩;have:Nat.gcd r.num.natAbs r.den=1:=h
 simpa [vI] using this
theorem zsB{p q:Int}(h:iO p q=true):∃r:Rat,p=r.num/\q=(r.den:Int):=by
 simp only[iO,w8,decide_eq_true_eq]at h;obtain⟨h1,h2⟩:=h;refine⟨⟨p,q.toNat,by lia,?_⟩,rfl,by show q=((q.toNat:Nat):Int);lia⟩;have e:q.toNat=q.natAbs:=by lia
 rw[e];exact h2
theorem NI{a b:Int}(hb:0<b)(ha:0<=a):vI b (a % b)=vI a b:=by
 rw[XR a b];have e:a=a % b+b*(a / b):=(Int.emod_add_mul_ediv a b).symm
 conv=>rhs;rw[e]
 rw[Int.gcd_add_mul_left_right]
structure Bd(n:Nat)(x:Int):Prop where
 lt:x.natAbs<2^n
theorem Bd.mono{x:Int}(h:Bd m x)(e:m<=n):Bd n x:=⟨wW h.lt (Xn .M e)⟩
theorem Bd.mul{x y:Int}(h:Bd m x)(k:Bd n y):Bd (m+n) (x*y):=by
 refine⟨?_⟩;rw[Xc,xV];exact Nat.mul_lt_mul'' h.lt k.lt
theorem Bd.add{x y:Int}(h:Bd m x)(k:Bd n y):Bd (max m n+1) (x+y):=by
 have h1:=(h.mono (uR m n)).lt;have h2:=(k.mono (uA m n)).lt;refine⟨?_⟩;rw[VD]
 lia
theorem Bd.sub{x y:Int}(h:Bd m x)(k:Bd n y):Bd (max m n+1) (x-y):=by
 have h1:=(h.mono (uR m n)).lt;have h2:=(k.mono (uA m n)).lt;refine⟨?_⟩;rw[VD]
 lia
theorem Bd.neg{x:Int}(h:Bd n x):Bd n (-x):=⟨by rw[Int.natAbs_neg];exact h.lt⟩
theorem Bd.le{x y:Int}(h:Bd n x)(e:y.natAbs<=x.natAbs):Bd n y:=⟨Vg e h.lt⟩
theorem Bd.log{x:Int}(h:Bd n x)(hn:0<n):x.natAbs.log2<n:=by
 by_cases e:x.natAbs=0
 ·rw[e];exact hn
 ·exact(Nat.log2_lt e).mpr h.lt
theorem zFJ(t b:Int)(hb:b≠0):(wB t b).num.natAbs<=t.natAbs:=by
 rw[<- W_ hb]
 have h1:dv t b ∣ t:=by
  have:((vI t b:Nat):Int) ∣ t:=qK ..;unfold dv;split
  ·exact ui.mpr this
  ·exact this
 rw[fY h1 (SS hb)];exact xt t _
theorem Ga(t b:Int)(hb:b≠0):(wB t b).den<=b.natAbs:=by
 rw[Ud,if_neg hb];exact Nat.div_le_self _ _
structure af(n:Nat)(x:Rat):Prop where
 t:Bd n x.num
 b:Bd n .S
theorem af.mono(h:af m x)(e:m<=n):af n x:=⟨h.t.mono e,h.b.mono e⟩
theorem af.divInt{b:Int}(hb:b≠0)(h1:Bd n t)(h2:Bd n b):af n (wB t b) :=
 ⟨h1.le (zFJ t b hb),h2.le (by have:=Ga t b hb;simpa using this)⟩
theorem Bd.ma{m:Int}(h1 : -100000000000000000000000000000000000000<=m)(h2:m<=100000000000000000000000000000000000000):Bd 128 m:=⟨by
 have e:(2:Nat)^128=340282366920938463463374607431768211456:=by decide
 rw[e]
 lia⟩
theorem gG(x:Rat):.S≠0:=by have:=x.den_pos;lia
theorem den_pos(x:Rat):(0:Int)<.S:=by have:=x.den_pos;lia
theorem FW(x y:Rat):.S*.bv≠0:=QK (gG x) (gG y)
theorem zGd(x y:Rat):wB (x.num*.bv+y.num*.S) (.S*.bv)=x+y:=by
 rw[<- VM,xA,Rat.add_def']
theorem UY(x y:Rat):wB (x.num*.bv-y.num*.S) (.S*.bv)=x-y:=by
 rw[<- VM,xA,Rat.sub_def']
theorem NR(x y:Rat):wB (x.num*y.num) (.S*.bv)=x*y:=by
 rw[<- VM,xA,Rat.mul_def']
theorem Ew(x y:Rat):wB (x.num*.bv) (.S*y.num)=x / y:=by
 rw[Qw,Rat.inv_def,<- Xd,VE]
theorem OZ(x y:Rat):decide (x.num*.bv<y.num*.S)=decide (x<y):=by
 rw[vA,decide_eq_true_eq,decide_eq_true_eq,uS]
theorem x_(h:y≠0):y.num≠0:=λe=>h (Rat.num_eq_zero.mp e)
theorem af.add(h:af m x)(k:af n y):af (m+n+1) (x+y):=by
 rw[<- zGd];refine af.divInt (FW x y) ?_ ((h.b.mul k.b).mono .a);exact((h.t.mul k.b).add (k.t.mul h.b)).mono .a
theorem af.sub(h:af m x)(k:af n y):af (m+n+1) (x-y):=by
 rw[<- UY];refine af.divInt (FW x y) ?_ ((h.b.mul k.b).mono .a);exact((h.t.mul k.b).sub (k.t.mul h.b)).mono .a
theorem af.mul(h:af m x)(k:af n y):af (m+n) (x*y):=by
 rw[<- NR];exact af.divInt (FW x y) (h.t.mul k.t) (h.b.mul k.b)
theorem af.div(h:af m x)(k:af n y)(hy:y≠0):af (m+n) (x / y):=by
 rw[<- Ew];exact af.divInt (QK (gG x) (x_ hy)) (h.t.mul k.b) (h.b.mul k.t)
theorem af.zero :af 1 0:=⟨⟨by decide⟩,⟨by decide⟩⟩
theorem af.one :af 1 1:=⟨⟨by decide⟩,⟨by decide⟩⟩
def az(a b:Rat):Nat->Rat
 | 0=>0
 | n+1=>a*az a b n+b
def push(a b:Rat):Nat->Rat->Rat
 | 0,x=>x
 | n+1,x=>a*push a b n x+b
theorem h9(a b:Rat)(n:Nat)(x:Rat):push a b n x=a^n*x+az a b n:=by
 induction n with
 | zero=>simp[push,az,Rat.add_zero,VF]
 | succ n ih=>rw[push,ih,az,WS];grind
theorem zAy(a b:Rat)(m n:Nat)(x:Rat):push a b (m+n) x=push a b n (push a b m x):=by
 induction n with
 | zero=>rfl
 | succ n ih=>rw[<- Vq,push,push,ih]
theorem af.pow(h:af k a)(n:Nat):af (k*n+1) (a^n):=by
 induction n with
 | zero=>rw[VF];exact af.one.mono .a
 | succ n ih=>rw[WS];exact(ih.mul h).mono (by rw[Qa];lia)
theorem af.az(h:af k a)(hb:af k b)(n:Nat):af ((2*k+1)*n+1) (az a b n):=by
 induction n with
 | zero=>exact af.zero.mono .a
 | succ n ih=>exact((h.mul ih).add hb).mono (by rw[Qa];lia)
theorem dB(t:Int)(hu:u≠0):(wB t u)*(u:Rat)=(t:Rat):=by
 rw[Rat.divInt_eq_div];exact WA λz=>hu (Vt.mp z)
theorem ki(x:Rat):x*(.S:Rat)=(x.num:Rat):=by
 have:=dB x.num (gG x)
 rwa[VE]at this
theorem fT(hu:u≠0)(h:x*(u:Rat)=(t:Rat)):wB t u=x:=by
 have h1:=dB t hu;have h2:(wB t u-x)*(u:Rat)=0:=by grind
 have h3:(u:Rat)≠0:=by
  intro z;exact hu (Vt.mp z)
 have:=QL.mp h2
 grind
theorem zzj(a b:Rat)(t u:Int)(hu:u≠0):wB (a.num*b.den*t+b.num*a.den*u) (u*a.den*b.den)=a*wB t u+b:=by
 refine fT (QK (QK hu (gG a)) (gG b)) ?_;have h1:=dB t hu;have h2:=ki a;have h3:=ki b;simp only[vW,qp]
 grind
theorem ZN(a b:Rat)(n:Nat)(x y:Rat):push a b n y-push a b n x=a^n*(y-x):=by
 rw[h9,h9];grind
theorem ox(h:0<a)(n:Nat):0<a^n:=Rat.pow_pos h
theorem zvz(h:1<a)(n:Nat):1<a^(n+1):=by
 induction n with
 | zero=>simpa using h
 | succ n ih =>
  rw[WS];have:=VB (show 0<a^(n+1)-1 by grind) (show 0<a-1 by grind)
  grind
theorem Oq(h0:0<a)(h:a<1)(n:Nat):a^(n+1)<1:=by
 induction n with
 | zero=>simpa using h
 | succ n ih =>
  rw[WS];have:=VB (show 0<1-a^(n+1) by grind) h0
  grind
theorem one_pow'(n:Nat):(1:Rat)^n=1:=by
 induction n with
 | zero=>rfl
 | succ n ih=>rw[WS,ih,Qx]
theorem nQ(h:0<u):(0:Rat)<(u:Rat):=uT.mpr h
theorem zvw(hu:0<u)(ht:0<t):0<wB t u:=by
 have e:=dB t (show u≠0 by lia);have:=nQ ht;rw[<- e]at this;exact(Rat.mul_pos_iff_of_pos_right (nQ hu)).mp this
theorem OF{c:Int}(hu:0<u)(h:t<=c*u):wB t u<=(c:Rat):=by
 have e:=dB t (show u≠0 by lia);refine Rat.le_of_mul_le_mul_right (c:=(u:Rat)) ?_ (nQ hu);rw[e,<- vW];exact VC.mpr h
theorem zwJ{c:Int}(hu:0<u)(h:t<c*u):wB t u<(c:Rat):=by
 have e:=dB t (show u≠0 by lia);refine Rat.lt_of_mul_lt_mul_right (c:=(u:Rat)) ?_ (vY (nQ hu));rw[e,<- vW];exact xW.mpr h
theorem zxR(hu:0<u):((wB t u).den:Int)<=u:=by
 have:=Ga t u .a
 lia
theorem zzr{c:Int}(h:x<=(c:Rat)):x.num<=c*x.den:=by
 have:=(Xo x c).mp h
 simpa using this
theorem zEL(h:0<=x):0<=x.num:=Qi.mpr h
theorem af.small{d:Nat}(h0:0<=x)(hc:x<=((c:Int):Rat))(hd:x.den<=d)(z:c*d<1024)(hd2:d<1024):af 10 x:=by
 have h1:=zzr hc;have h2:=zEL h0;have h3:(c:Int)*.S<=(c:Int)*(d:Int):=Int.mul_le_mul_of_nonneg_left .a .a;have h4:(c:Int)*(d:Int)<1024:=by rw[<- VM];lia
 refine⟨⟨?_⟩,⟨?_⟩⟩
 ·show _<1024
  lia
 ·show _<1024
  lia
theorem Tr{z:Int}(e:x=wB z u)(h1:1<=u)(h2:u<=8)(h3:1<=z)(h4:z<=4*u):0<x/\x<=4/\x.den<=8:=by
 subst e;refine⟨zvw .a .a,OF (c:=4) .a h4,?_⟩;have:=zxR (t:=z) (show 0<u by lia)
 lia
theorem FC{r:Int}(e:y=wB r u)(h1:1<=u)(h2:u<=12)(h3:0<=r)(h4:r<=u):0<=y/\y<=1/\y.den<=12:=by
 subst e;refine⟨X3 h3 .a,OF (c:=1) .a .a,?_⟩;have:=zxR (t:=r) (show 0<u by lia)
 lia
theorem af.four :af 3 4:=⟨⟨by decide +kernel⟩,⟨by decide +kernel⟩⟩
theorem pJ{f:Rat->Rat}(h:i<xs.length):(xs.map f).getD i 0=f .ai:=by
 rw[wb,wb,wu,wc h]
 rfl
theorem zCZ(ha:0<a)(n:Nat)(x y:Rat):push a b n x<push a b n y ↔ x<y:=by
 have e:=ZN a b n x y;have p:=ox ha n
 constructor
 ·intro h
  have:0<a^n*(y-x):=by rw[<- e];grind
  have h2:=(Rat.mul_pos_iff_of_pos_left p).mp this
  grind
 ·intro h
  have:0<a^n*(y-x):=VB p .aB
  grind
def d7(a b:Rat)(n:Nat)(xs:.c)(i:Nat):List Rat:=(xs.map λx=>push a b n (x+(1-xs.getD i 0))).set i 0
def aP(a b:Rat)(ns:.p)(xs:.c):Nat->List Rat
 | 0=>xs
 | k+1=>d7 a b (ns.getD k 0).toNat (aP a b ns xs k) k
theorem iZ(a b:Rat)(n:Nat)(xs:.c)(i:Nat):(d7 a b n xs i).length=xs.length:=by simp[d7]
theorem dy(a b:Rat)(ns:.p)(xs:.c):∀k,(aP a b ns xs k).length=xs.length
 | 0=>rfl
 | k+1=>by rw[aP,iZ,dy a b ns xs k]
theorem gM(a b:Rat)(n:Nat)(xs:.c)(i j:Nat)(hj:j<xs.length):(d7 a b n xs i).getD j 0=if j=i then 0 else push a b n (xs.getD j 0+(1-xs.getD i 0)):=by
 unfold d7;rw[wb,W9]
 by_cases h:i=j
 ·subst h
  simp[hj]
 ·rw[if_neg h,if_neg (WI h),wu,wc hj]
  simp[wb,hj]
def Cm(m:Nat)(xs:.c):Prop:=∃B:Int,0<B/\Bd m B /\ ∀x∈xs,∃t:Int,x=wB t B/\Bd m t
theorem Cm.mono(h:.bB)(e:m<=n):Cm n xs:=by
 obtain⟨B,h0,h1,h2⟩:=h;exact⟨B,h0,h1.mono e,λx hx=>let ⟨t,e1,e2⟩:=h2 x hx;⟨t,e1,e2.mono e⟩⟩
theorem Cm.d6(h:.bB)(hx:x∈xs):af m x:=by
 obtain⟨B,h0,h1,h2⟩:=h;obtain⟨t,rfl,ht⟩:=h2 x hx;exact af.divInt .a ht h1
theorem Cm.pos(h:.bB):1<=m:=by
 obtain⟨B,h0,h1,_⟩:=h;cases m with
 | zero=>have:=h1.lt;simp at this;lia
 | succ m=>lia
theorem Cm.get(h:.bB)(i:Nat):af m .ai:=by
 rcases wE i xs.length with z | z
 ·rw[wb,wc z]
  exact h.d6 (We z)
 ·rw[wb,wN z]
  exact af.zero.mono h.pos
theorem yi{a b:Rat}(ba:af 10 a)(bb:af 10 b){m:Nat}{t u:Int}(hu:0<u)(bt:Bd m t)(bu:Bd m u):∀n:Nat,0<u*(.D*.aU)^n/\Bd (m+21*n) (u*(.D*.aU)^n) /\
  ∃T:Int,push a b n (wB t u)=wB T (u*(.D*.aU)^n)/\Bd (m+21*n) T
 | 0=>⟨by simpa using hu,by simpa using bu,t,by simp[push],by simpa using bt⟩
 | n+1=>by
  obtain⟨h1,h2,T,e,hT⟩:=yi ba bb hu bt bu n;have eb:u*(.D*.aU)^(n+1)=u*(.D*.aU)^n*.D*.aU:=by rw[qd,<- qm,qm (u*_)]
  rw[eb];refine⟨Wa (Wa h1 (den_pos a)) (den_pos b),((h2.mul ba.b).mul bb.b).mono .a,a.num*.aU*T+b.num*.D*(u*(.D*.aU)^n),?_,(((ba.t.mul bb.b).mul hT).add ((bb.t.mul ba.b).mul h2)).mono .a⟩;rw[push,e];exact(zzj a b T _ .a).symm
theorem Cm.oK(h:.bB)(ba:af 10 a)(bb:af 10 b)(n i:Nat):Cm (m+2+21*n) (d7 a b n xs i):=by
 obtain⟨B,h0,h1,h2⟩:=h
 have hz:∃z:Int,xs.getD i 0=wB z B/\Bd m z:=by
  rcases wE i xs.length with q | q
  ·rw[wb,wc q]
   exact h2 _ (We q)
  ·rw[wb,wN q]
   exact⟨0,by simp,⟨by simp;exact Ws m⟩⟩
 obtain⟨z,ez,hz⟩:=hz;have key:=λ(t:Int)(ht:Bd m t)=>yi ba bb h0 (show Bd (m+2) (t+B-z)from((ht.add h1).sub hz).mono .a) (h1.mono .a) n
 obtain⟨p1,p2,_⟩:=key 0 ⟨by simp;exact Ws m⟩;refine⟨_,p1,p2,λx hx=>?_⟩
 have hx':x=0 \/ ∃y∈xs,x=push a b n (y+(1-xs.getD i 0)):=by
  unfold d7 at hx;rcases xu hx with q | q
  ·obtain⟨y,hy,rfl⟩:=wQ.mp q
   exact .inr ⟨y,hy,rfl⟩
  ·exact .inl q
 rcases hx' with rfl | ⟨y,hy,rfl⟩
 ·exact⟨0,by simp,⟨by simp;exact Ws _⟩⟩
 ·obtain⟨t,rfl,ht⟩:=h2 y hy
  obtain⟨_,_,T,e,hT⟩:=key t ht
  have e2:wB t B+(1-xs.getD i 0)=wB (t+B-z) B:=by
   rw[ez]
   symm
   refine fT .a ?_;have q1:=dB t (show B≠0 by lia);have q2:=dB z (show B≠0 by lia);have q3:((t+B-z:Int):Rat)=(t:Rat)+(B:Rat)-(z:Rat):=by push_cast;rfl
   rw[q3,<- q1,<- q2]
   grind
  rw[e2];exact⟨T,e,hT⟩
theorem Cm.snoc(h:.bB):Cm m .bi:=by
 obtain⟨B,h0,h1,h2⟩:=h;refine⟨B,h0,h1,λx hx=>?_⟩;rcases Wc.mp hx with q | q
 ·exact h2 x q
 ·rw[vc.mp q]
  exact⟨0,by simp,⟨by simp;exact Ws m⟩⟩
def upTo(ns:.p)(k:Nat):Nat:=((ns.take k).map xM).sum
theorem pf(h:k<ns.length):upTo ns (k+1)=upTo ns k+(ns.getD k 0).toNat:=by
 unfold upTo;rw[Qo,wc h,wb,wc h,w5,List.sum_append]
 show _+([ns[k].toNat]:List Nat).sum=_
 rw[List.sum_singleton]
 rfl
theorem Cm.rows{m:Nat}{xs:.c}{a b:Rat}{ns:.p}(h:.bB)(ba:af 10 a)(bb:af 10 b):∀k,k<=ns.length->Cm (m+2*k+21*upTo ns k) (aP a b ns xs k)
 | 0,_=>h.mono .a
 | k+1,hk=>by
  have:=(Cm.rows h ba bb (ns:=ns) k .a).oK ba bb (ns.getD k 0).toNat k;rw[aP];refine this.mono ?_;rw[pf .a]
  lia
theorem SE(a:Rat)(m:Nat):∀n:Nat,a^(m+n)=a^m*a^n
 | 0=>by rw[xB,VF,Rat.mul_one]
 | n+1=>by rw[<- Vq,WS,SE a m n,WS,Up]
theorem zyF(a b:Rat)(n:Nat)(xs ys:.c)(i j:Nat)(hx:.Z)(hj:j<xs.length) :
  (d7 a b n xs i).getD j 0-(d7 a b n ys i).getD j 0=a^n*((xs.getD j 0-ys.getD j 0)-(xs.getD i 0-ys.getD i 0)):=by
 rw[gM a b n xs i j hj,gM a b n ys i j .a]
 by_cases h:j=i
 ·subst h
  rw[if_pos rfl,if_pos rfl]
  grind
 ·rw[if_neg h,if_neg h,ZN]
  grind
theorem GL(a b:Rat)(ns:.p)(xs ys:.c)(hx:.Z)(hn:ns.length=xs.length)(l:Nat)(hl:l+1=xs.length)(h0:xs.getD l 0=ys.getD l 0) :
  ∀k,k<=ns.length->∀j,j<xs.length->(aP a b ns xs k).getD j 0-(aP a b ns ys k).getD j 0=a^upTo ns k*((xs.getD j 0-ys.getD j 0)-(if k=0 then 0 else xs.getD (k-1) 0-ys.getD (k-1) 0))
 | 0,_,j,hj=>by simp[aP,upTo];grind
 | k+1,hk,j,hj=>by
  rw[aP,aP,zyF _ _ _ _ _ _ _ (by rw[dy,dy,hx]) (by rw[dy];exact hj),GL a b ns xs ys hx hn l hl h0 k .a j hj,GL a b ns xs ys hx hn l hl h0 k .a k .a,pf .a,SE];simp only[Qb];rw[if_neg (show ¬ k+1=0 by lia)]
  grind
def om(a b:Rat)(n:Nat)(xs:.c):List Rat:=(xs.tail.map λy=>push a b n (y+(1-xs.headD 0)))++[0]
def turned(a b:Rat)(ns:.p)(xs:.c):Nat->List Rat
 | 0=>xs
 | k+1=>om a b (ns.getD k 0).toNat (turned a b ns xs k)
theorem oR(a b:Rat)(ns:.p)(xs:.c):∀k,k<=xs.length->turned a b ns xs k=(aP a b ns xs k).drop k++(aP a b ns xs k).take k
 | 0,_=>by simp[turned,aP]
 | k+1,hk=>by
  have hl:(aP a b ns xs k).length=xs.length:=dy a b ns xs k;have hk':k<(aP a b ns xs k).length:=by lia
  rw[turned,oR a b ns xs k .a,aP];generalize aP a b ns xs k=r at *;generalize (ns.getD k 0).toNat=n;have e1:r.drop k=r[k]::r.drop (k+1):=V5 hk';have e2:r.getD k 0=r[k]:=by rw[wb,wc hk'];rfl
  unfold om d7;rw[e1,e2,uB,Ue,List.headD_cons,List.drop_set_of_lt .a,w5,Xy,Vo]
  congr 1
  have hm:k<(r.map λx=>push a b n (x+(1-r[k]))).length:=by rw[wl];exact hk'
  rw[Uq];generalize (r.map λx=>push a b n (x+(1-r[k])))=s at hm ⊢;rw[List.take_set,Qo,wc hm]
  show _=(s.take k++[s[k]]).set k 0
  have hlk:(s.take k).length=k:=by rw[Wi];lia
  rw[List.set_append_right _ _ .a,hlk,Vm]
  rfl
theorem zw1(a b:Rat)(ns:.p)(xs:.c)(h:ns.length=xs.length):turned a b ns xs ns.length=aP a b ns xs ns.length:=by
 rw[oR a b ns xs _ .a];have hl:(aP a b ns xs ns.length).length=xs.length:=dy a b ns xs _;rw[xX .a,WU .a,qT]
def rk(xs:.c):Nat->Int
 | 0=>1
 | k+1=>rk xs k*((xs.getD k 0).den:Int)
theorem NO(xs:.c):∀k,0<rk xs k
 | 0=>by show(0:Int)<1;decide
 | k+1=>Wa (NO xs k) (den_pos _)
theorem Z9(xs:.c):∀k j,j<k->((xs.getD j 0).den:Int) ∣ rk xs k
 | 0,j,h=>by lia
 | k+1,j,h=>by
  rcases wE j k with z | z
  ·exact qN (Z9 xs k j z) (VX ..)
  ·have:j=k:=by lia
   subst this;exact uC ..
theorem Ol{xs:.c}{m:Nat}(h:∀i,af m .ai):∀k,Bd (m*k+1) (rk xs k)
 | 0=>⟨by show(1:Int).natAbs<_;simp⟩
 | k+1=>by
  rw[rk];refine((Ol h k).mul (h k).b).mono ?_;rw[Q9];lia
theorem zwb(hB:0<B)(h:.S ∣ B):wB (x.num*B.fdiv x.den) B=x:=by
 obtain⟨c,rfl⟩:=h;rw[fY (VX ..) (gG x),qb _ (gG x)];refine fT .a ?_;have:=ki x;rw[vW,vW,<- this]
 grind
theorem zDb{d:Int}(hd:0<d)(hB:0<B)(h:Bd m B):Bd m (B.fdiv d):=by
 refine h.le ?_;rw[Wy _ .a];have h1:0<=B / d:=Int.ediv_nonneg .a .a;have h2:B / d<=B:=uD _ .a
 lia
theorem Et(a b:Rat)(ns:.p)(xs:.c)(hk:k<xs.length):(turned a b ns xs k).headD 0=(aP a b ns xs k).getD k 0:=by
 have hl:=dy a b ns xs k;rw[oR a b ns xs k .a,V5 .a,wb,wc .a]
 rfl
theorem Dm(a b:Rat)(ns:.p)(xs:.c)(hx:0<xs.length):∀k,(turned a b ns xs k).length=xs.length
 | 0=>rfl
 | k+1=>by
  have:=Dm a b ns xs hx k;rw[turned,om,wL,wl,QE,this];simp;lia
theorem PU(x y:Rat):((x*y).num=x.num / (x.num.natAbs.gcd y.den:Nat)*(y.num / (y.num.natAbs.gcd x.den:Nat)))/\((x*y).den=x.den / (y.num.natAbs.gcd x.den)*(y.den / (x.num.natAbs.gcd y.den))):=by
 show(Rat.mul x y).num=_/\(Rat.mul x y).den=_
 unfold Rat.mul;simp only[Int.divExact_eq_ediv,Nat.divExact_eq_div]
 constructor<;>trivial
theorem US(x y:Rat):((x+y).num=(x.num*((y.den / x.den.gcd y.den:Nat):Int)+y.num*((x.den / x.den.gcd y.den:Nat):Int)) / (((x.num*((y.den / x.den.gcd y.den:Nat):Int)+y.num*((x.den / x.den.gcd y.den:Nat):Int)).natAbs.gcd (x.den.gcd y.den):Nat):Int))/\((x+y).den=x.den / (x.den.gcd y.den)*(y.den / ((x.num*((y.den / x.den.gcd y.den:Nat):Int)+y.num*((x.den / x.den.gcd y.den:Nat):Int)).natAbs.gcd (x.den.gcd y.den)))):=by
 show(Rat.add x y).num=_/\(Rat.add x y).den=_
 unfold Rat.add
 by_cases hg:x.den.gcd y.den=1
 ·simp[hg]
 ·simp only[hg,dite_false,Rat.maybeNormalize_eq]
  refine⟨by simp,?_⟩;simp;have:(x.num*((y.den / x.den.gcd y.den:Nat):Int)+y.num*((x.den / x.den.gcd y.den:Nat):Int)).natAbs.gcd (x.den.gcd y.den) ∣ y.den:=Nat.dvd_trans (X4 _ _) (X4 _ _);simp at this;rw[Nat.mul_div_assoc _ this]
def fP(x y:Rat):Int:=((vI .S .bv:Nat):Int)
def mm(x y:Rat):Int:=x.num*(y.den:Int).fdiv (fP x y)+y.num*(x.den:Int).fdiv (fP x y)
def kb(x y:Rat):Int:=((vI (mm x y) (fP x y):Nat):Int)
theorem A8(x y:Rat):0<fP x y:=by
 have:0<vI .S .bv:=Int.gcd_pos_of_ne_zero_left _ (by have:=x.den_pos;lia);unfold fP;lia
theorem Gy(x y:Rat):0<kb x y:=by
 have:0<vI (mm x y) (fP x y):=qE _ (by have:=A8 x y;lia);unfold kb;lia
theorem EI(x y:Rat):fP x y=((x.den.gcd y.den:Nat):Int):=by simp[fP,vI]
theorem rW(x y:Rat):fP x y ∣ .S:=qK ..
theorem z9(x y:Rat):fP x y ∣ .bv:=Qn ..
theorem zFi(x y:Rat):kb x y ∣ mm x y:=qK ..
theorem DI(x y:Rat):kb x y ∣ fP x y:=Qn ..
theorem To(x y:Rat):mm x y=x.num*((y.den / x.den.gcd y.den:Nat):Int)+y.num*((x.den / x.den.gcd y.den:Nat):Int):=by
 have h:=A8 x y;rw[mm,fY (z9 x y) .a,fY (rW x y) .a,EI,qc,qc]
theorem U4(x y:Rat):kb x y=(((x.num*((y.den / x.den.gcd y.den:Nat):Int)+y.num*((x.den / x.den.gcd y.den:Nat):Int)).natAbs.gcd (x.den.gcd y.den):Nat):Int):=by
 rw[kb,To,EI];simp[vI]
theorem zCu(x y:Rat):(mm x y).fdiv (kb x y)=(x+y).num:=by
 have h:=Gy x y;rw[fY (zFi x y) .a,(US x y).1,U4,To]
theorem zDZ(x y:Rat):(x.den:Int).fdiv (fP x y)*(y.den:Int).fdiv (kb x y)=((x+y).den:Int):=by
 have h:=Gy x y;have h2:=A8 x y;rw[fY (qN (DI x y) (z9 x y)) .a,fY (rW x y) .a,(US x y).2,U4,EI];simp only[VM,qc]
def hW(x y:Rat):Int:=((vI x.num .bv:Nat):Int)
theorem pB(x y:Rat):0<hW x y:=by
 have:0<vI x.num .bv:=qE _ (by have:=y.den_pos;lia);unfold hW;lia
theorem zZ(x y:Rat):hW x y ∣ x.num:=qK ..
theorem p6(x y:Rat):hW x y ∣ .bv:=Qn ..
theorem BR(x y:Rat):hW x y=((x.num.natAbs.gcd y.den:Nat):Int):=by simp[hW,vI]
theorem zDj(x y:Rat):x.num.fdiv (hW x y)*y.num.fdiv (hW y x)=(x*y).num:=by
 have h:=pB x y;have h2:=pB y x;rw[fY (zZ x y) .a,fY (zZ y x) .a,(PU x y).1,BR,BR]
theorem zCY(x y:Rat):(x.den:Int).fdiv (hW y x)*(y.den:Int).fdiv (hW x y)=((x*y).den:Int):=by
 have h:=pB x y;have h2:=pB y x;rw[fY (p6 x y) .a,fY (p6 y x) .a,(PU x y).2,BR,BR];simp only[VM,qc]
theorem nE{a d:Int}(h:Bd n a)(hd:d ∣ a)(hp:0<d):Bd n (a.fdiv d):=by
 rw[fY hd .a];exact h.le (xt a d)
theorem yq{a d:Int}(h:Bd n a)(hd:d ∣ a)(ha:0<a):Bd n d :=
 h.le (Ur .a (Int.natAbs_dvd_natAbs.mpr hd))
theorem An(t b:Int):vI (if t<0 then -t else t) b=vI t b:=by split<;>simp
theorem zCr(h:af n y):af n (-y):=⟨by simpa using h.t.neg,by simpa using h.b⟩
theorem zv1(x y:Rat):x + -y=x-y:=(Rat.sub_eq_add_neg x y).symm
theorem AO(h:0<y.num):(y⁻¹).num=.bv/\((y⁻¹).den:Int)=y.num:=by
 have:¬ y.num<0:=by lia
 constructor
 ·rw[Rat.num_inv,xU h,Q8]
 ·rw[Rat.den_inv];split<;>lia
theorem By(h:y.num<0):(y⁻¹).num = -.bv/\((y⁻¹).den:Int) = -y.num:=by
 constructor
 ·rw[Rat.num_inv,xl h,uQ]
 ·rw[Rat.den_inv];split<;>lia
theorem zxo(h:af n y)(hy:y≠0):af n y⁻¹:=by
 have:=x_ hy
 by_cases p:0<y.num
 ·exact⟨by rw[(AO p).1];exact h.b,by rw[(AO p).2];exact h.t⟩
 ·have p:y.num<0:=by lia
  exact⟨by rw[(By p).1];exact h.b.neg,by rw[(By p).2];exact h.t.neg⟩
theorem N7(x y:Rat):0<.S*.bv:=Wa (den_pos x) (den_pos y)
theorem getD_mem{α : Type}{xs:.aY}{d : α}(h:i<xs.length):xs.getD i d∈xs:=by
 rw[wb,wc h];exact We h
def kY(x:Rat):Bool:=(!decide (x<0))&&(decide (x<1)&&decide (.S<=60))
structure fB(x:Rat):Prop where
 nn:0<=x
 lt:x<1
 den:x.den<=60
theorem fB.is(h:fB x):kY x=true:=by
 have h1:=h.nn;have h2:=h.lt;have h3:=h.den;have h4:¬ x<0:=W6.mpr h1;have h5:.S<=60:=by lia
 simp[kY,h4,h2,h5]
theorem fB.d6(h:fB x):af 6 x:=by
 have h1:=h.nn;have h2:=h.lt;have h3:=h.den;have n0:0<=x.num:=Qi.mpr h1
 have n1:x.num<x.den:=by
   have:=uS x 1 |>.mp h2
   simpa using this
 exact ⟨⟨by have : (2 : Nat) ^ 6 = 64 := by decide
            omega⟩, ⟨by have : (2 : Nat) ^ 6 = 64 := by decide
                        omega⟩⟩
def mx(m:Rat)(l:.c):Rat:=l.foldl (λm x=>if m<x then x else m) m
theorem Oz:∀(l:.c)(m:Rat),m<=mx m l /\ ∀y∈l,y<=mx m l
 | [],m=>⟨WV,λy h=>by cases h⟩
 | x::l,m=>by
  have h:=Oz l (if m<x then x else m);have e:mx m (x::l)=mx (if m<x then x else m) l:=rfl;rw[e]
  have h1:m<=(if m<x then x else m)/\x<=(if m<x then x else m):=by
   split
   ·rename_i z;exact⟨vY z,WV⟩
   ·rename_i z;exact⟨WV,W6.mp z⟩
  refine⟨QM h1.1 h.1,λy hy=>?_⟩;rcases wG.mp hy with rfl | hy
  ·exact QM h1.2 h.1
  ·exact h.2 y hy
theorem Jg:∀(l:.c)(m:Rat),mx m l=m\/mx m l∈l
 | [],m=>.inl rfl
 | x::l,m=>by
  have e:mx m (x::l)=mx (if m<x then x else m) l:=rfl;rw[e];rcases Jg l (if m<x then x else m)with h | h
  ·rw[h]
   split
   ·exact .inr .bn
   ·exact .inl rfl
  ·exact .inr (wt _ h)
theorem mU(m x:Rat)(l:.c):mx m (l++[x])=if mx m l<x then x else mx m l:=by
 unfold mx;rw[X5];rfl
def a_(xs:.c):Rat:=mx (xs.getD 0 0) xs
theorem G_ : ∀y∈xs,y<=a_ xs:=(Oz xs _).2
theorem f_(h:.aj):a_ xs∈xs:=by
 rcases Jg xs (xs.getD 0 0)with e | e
 ·unfold a_
  rw[e,wb,wc .a];exact We _
 ·exact e
theorem gv(h:i<xs.length):xs.take (i+1)=xs.take i++[xs.getD i 0]:=by
 rw[Qo,wb,wc h];rfl
theorem zg(b:∀i,af n .ai)(h1:.aj)(i:Nat):af n (mx (xs.getD 0 0) (xs.take i)):=by
 rcases Jg (xs.take i) (xs.getD 0 0)with e | e
 ·rw[e];exact b 0
 ·have e:=uE _ _ e
  obtain⟨j,hj,ej⟩:=wX e;rw[<- ej];have:=b j;rw[wb,wc hj]at this;exact this
theorem YY{r:Int}(h0:0<=r)(h1:r<u)(h2:u<=60):fB (wB r u):=by
 refine⟨X3 h0 .a,zwJ (c:=1) .a .a,?_⟩;have:=Ga r u .a
 lia
def aC(ps:.c)(left:List Nat):List Nat:=left.filter λw=>!decide (ps.getD w 0<1)
def bV(left wave:List Nat):List Nat:=left.filter λw=>!decide (w∈wave)
def cT(f g:Rat)(ps:.c)(l:.aR):List Rat:=l.foldl (λps w=>ps.set w (f*ps.getD w 0+g)) ps
def de(a b:Rat):Nat->List Rat->List Nat->List (List Nat) × (List Nat × List Rat)
 | 0,ps,left=>([],left,ps)
 | n+1,ps,left=>match aC ps left with
  | []=>([],left,ps)
  | w::ws=>((w::ws)::(de a b n (cT (a^(w::ws).length) (az a b (w::ws).length) ps (bV left (w::ws))) (bV left (w::ws))).1,(de a b n (cT (a^(w::ws).length) (az a b (w::ws).length) ps (bV left (w::ws))) (bV left (w::ws))).2)
def zev(left:List Nat)(ps:.c):List Rat:=(wp ps.length).map λi=>if i∈left then ps.getD i 0 else 0
def bN(xs:.c):List Rat:=xs.map (· + (1-a_ xs))
def ee(a b:Rat)(xs:.c):List (List Nat) × (List Nat × List Rat):=de a b xs.length (bN xs) .B
def cK(a b:Rat)(xs:.c):List (List Nat):=(ee a b xs).1
def dh(a b:Rat)(xs:.c):List Rat:=zev (ee a b xs).2.1 (ee a b xs).2.2
theorem ou(h:aC ps left=[]):de a b n ps left=([],left,ps):=by
 cases n with
 | zero=>rfl
 | succ n=>rw[de,h]
theorem jP(h:aC ps left≠[]):de a b (n+1) ps left=(aC ps left::(de a b n (cT (a^(aC ps left).length) (az a b (aC ps left).length) ps (bV left .aD)) (bV left .aD)).1,(de a b n (cT (a^(aC ps left).length) (az a b (aC ps left).length) ps (bV left .aD)) (bV left .aD)).2):=by
 rw[de];cases e:aC ps left with
 | nil=>exact absurd e h
 | cons w ws=>rfl
theorem OG(f g:Rat)(ps:.c)(l:.aR)(w:Nat):cT f g ps (l++[w])=(cT f g ps l).set w (f*(cT f g ps l).getD w 0+g):=by
 unfold cT;rw[X5];rfl
theorem iB(f g:Rat):∀(l:.aR)(ps:.c),(cT f g ps l).length=ps.length
 | [],ps=>rfl
 | w::l,ps=>by
  show(cT f g (ps.set w _) l).length=_
  rw[iB f g l,Wz]
theorem tW(h:w≠j):(ps.set w y).getD j 0=ps.getD j 0:=by
 rw[wb,W9,if_neg h,wb]
theorem sv(h:w<ps.length):(ps.set w y).getD w 0=y:=by
 rw[wb,W9,if_pos rfl,if_pos h];rfl
theorem jF(f g:Rat):∀(l:.aR)(ps:.c),l.Nodup->(∀w∈l,w<ps.length)->∀j,(cT f g ps l).getD j 0=if j∈l then f*ps.getD j 0+g else ps.getD j 0
 | [],ps,_,_,j=>by simp[cT]
 | w::l,ps,nd,hl,j=>by
  have nd':=Vb.mp nd
  show(cT f g (ps.set w _) l).getD j 0=_
  rw[jF f g l _ nd'.2 (λv hv=>by rw[Wz];exact hl v (wt _ hv)) j]
  by_cases hj:j=w
  ·subst hj
   rw[if_neg nd'.1,if_pos .bn,sv (hl j .bn)]
  ·rw[tW (WI hj)]
   by_cases hm:j∈l
   ·rw[if_pos hm,if_pos (wt _ hm)]
   ·rw[if_neg hm,if_neg (λz=>by rcases wG.mp z with z | z;(exact hj z);exact hm z)]
theorem zvM(ps:.c)(left:List Nat):bV left .aD=left.filter λw=>decide (ps.getD w 0<1):=by
 unfold bV;refine vD λw hw=>?_
 have e:(w∈aC ps left)=(¬ ps.getD w 0<1):=by
  unfold aC;rw[wZ];simp[hw]
 simp only[e];simp
theorem Bp(ps:.c)(left:List Nat):(aC ps left).length+(bV left .aD).length=left.length:=by
 rw[zvM];unfold aC
 induction left with
 | nil=>rfl
 | cons w l ih=>by_cases h:ps.getD w 0<1<;>simp only[Ww,h,decide_true,decide_false,WG,Q0,if_true,if_false,vf,vK]<;>lia
theorem rC{wave:.aR}(h:left.Nodup):(bV left wave).Nodup:=h.filter _
theorem pN{wave:.aR}(h:∀w∈left,w<n):∀w∈bV left wave,w<n:=λw hw=>h w (wZ.mp hw).1
theorem IC(left:List Nat)(ps:.c):(zev left ps).length=ps.length:=by simp[zev]
theorem mT(h:j<ps.length):(zev left ps).getD j 0=if j∈left then ps.getD j 0 else 0:=by
 unfold zev;rw[wb,wu,vM h]
 rfl
theorem fo(xs:.c):(bN xs).length=xs.length:=by simp[bN]
theorem sA{a b:Rat} : ∀(n:Nat)(ps:.c)(left:List Nat),(de a b n ps left).2.2.length=ps.length
 | 0,ps,left=>rfl
 | n+1,ps,left=>by
  by_cases h:aC ps left=[]
  ·rw[ou h]
  ·rw[jP h]
   show(de a b n _ _).2.2.length=_
   rw[sA n,iB]
theorem kM(a b:Rat)(xs:.c):(dh a b xs).length=xs.length:=by
 unfold dh ee;rw[IC,sA,fo]
theorem Cm.Nf(h0:0<B)(h1:Bd m B)(h:∀j,j<ps.length->∃t:Int,ps.getD j 0=wB t B/\Bd m t):∀x∈ps,∃t:Int,x=wB t B/\Bd m t:=λx hx=>by
 obtain⟨j,hj,e⟩:=wX hx;have:=h j hj;rw[wb,wc hj]at this;rw[<- e];exact this
theorem Ag{a b:Rat}(ba:af 10 a)(bb:af 10 b){m:Nat}{t:Int}(h:Bd m t):∀n:Nat,Bd (m+21*n) (t*(.D*.aU)^n)
 | 0=>by simpa using h
 | n+1=>by
  rw[qd,<- qm];exact((Ag ba bb h n).mul (ba.b.mul bb.b)).mono .a
theorem sO{d:Int}(h0:0<B)(hd:0<d):wB t B=wB (t*d) (B*d):=by
 symm
 refine fT (by have:=Wa h0 hd;lia) ?_;have q1:=dB t (show B≠0 by lia);rw[vW,vW,<- Up,q1]
theorem Cm.wave(c:Cm m (h::ps))(ba:af 10 a)(bb:af 10 b)(n:Nat){l:.aR}(nd:l.Nodup)(hl:∀w∈l,w<ps.length):Cm (m+21*n) (h::cT (a^n) (az a b n) ps l):=by
 obtain⟨B,h0,h1,h2⟩:=c;have hz:Bd m (0:Int):=⟨by simp;exact Ws m⟩;obtain⟨p1,p2,_⟩:=yi ba bb h0 hz h1 n;have hd:0<(.D*.aU)^n:=uk (Wa (den_pos a) (den_pos b));refine⟨_,p1,p2,λx hx=>?_⟩;rcases wG.mp hx with rfl | hx
 ·obtain⟨t,rfl,ht⟩:=h2 x .bn
  exact⟨_,sO h0 hd,Ag ba bb ht n⟩
 ·refine Cm.Nf p1 p2 (λj hj=>?_) x hx
  rw[iB]at hj;obtain⟨t,e,ht⟩:=h2 (ps.getD j 0) (wt _ (getD_mem hj));rw[jF _ _ _ _ nd hl]
  split
  ·obtain⟨_,_,T,e2,hT⟩:=yi ba bb h0 ht h1 n
   exact⟨T,by rw[<- h9,e,e2],hT⟩
  ·exact⟨_,by rw[e];exact sO h0 hd,Ag ba bb ht n⟩
theorem Cm.rise{M:Rat}(c:Cm m (h::xs))(hM:M∈xs):Cm (m+2) ((h+(1-M))::xs.map (· + (1-M))):=by
 obtain⟨B,h0,h1,h2⟩:=c;obtain⟨z,ez,hz⟩:=h2 M (wt _ hM)
 have key:∀t:Int,Bd m t->wB t B+(1-M)=wB (t+B-z) B/\Bd (m+2) (t+B-z):=λt ht=>by
  refine⟨?_,((ht.add h1).sub hz).mono .a⟩;rw[ez]
  symm
  refine fT .a ?_;have q1:=dB t (show B≠0 by lia);have q2:=dB z (show B≠0 by lia);have q3:((t+B-z:Int):Rat)=(t:Rat)+(B:Rat)-(z:Rat):=by push_cast;rfl
  rw[q3,<- q1,<- q2]
  grind
 refine⟨B,h0,h1.mono .a,λx hx=>?_⟩;rcases wG.mp hx with rfl | hx
 ·obtain⟨t,e,ht⟩:=h2 h .bn
  rw[e];exact⟨_,(key t ht).1,(key t ht).2⟩
 ·obtain⟨y,hy,rfl⟩:=wQ.mp hx
  obtain⟨t,e,ht⟩:=h2 y (wt _ hy)
  show ∃t:Int,y+(1-M)=_/\_
  rw[e];exact⟨_,(key t ht).1,(key t ht).2⟩
theorem Cm.gI(c:.bB)(h:∀y∈ys,y∈xs\/y=0):Cm m ys:=by
 obtain⟨B,h0,h1,h2⟩:=c;refine⟨B,h0,h1,λy hy=>?_⟩;rcases h y hy with z | rfl
 ·exact h2 y z
 ·exact⟨0,by simp,⟨by simp;exact Ws m⟩⟩
theorem zBG : ∀y∈zev left ps,y∈ps\/y=0:=λy hy=>by
 unfold zev at hy;obtain⟨i,hi,e⟩:=wQ.mp hy;rw[<- e]
 split
 ·exact .inl (getD_mem (wH.mp hi))
 ·exact .inr rfl
theorem Cm.aaz(h:∀i,af k .ai):Cm (k*xs.length+1+k) xs:=by
 have h0:=NO xs xs.length;have h1:=Ol h xs.length;refine⟨rk xs xs.length,h0,h1.mono .a,Cm.Nf h0 (h1.mono .a) λj hj=>?_⟩;exact⟨_,(zwb h0 (Z9 xs _ j hj)).symm,((h j).t.mul (zDb (den_pos _) h0 h1)).mono .a⟩
def ag(a b:Rat)(xs:.c):Nat->List Rat
 | 0=>xs
 | k+1=>dh a b (ag a b xs k)
def aF(a b:Rat)(xs:.c):Nat->Rat
 | 0=>0
 | k+1=>aF a b xs k+(1-a_ (ag a b xs k))
theorem aW(a b:Rat)(xs:.c):∀k,(ag a b xs k).length=xs.length
 | 0=>rfl
 | k+1=>by rw[ag,kM,aW a b xs k]
def Rg(n:Nat)(left:List Nat):Prop:=left=(wp n).filter λw=>decide (w∈left)
theorem Rg.range(n:Nat):Rg n (wp n):=by
 unfold Rg;rw[XA.mpr];intro w hw;exact decide_eq_true hw
theorem Rg.filter(h:Rg n left)(p:Nat->Bool):Rg n (left.filter p):=by
 have e:((wp n).filter λw=>decide (w∈left.filter p))=((wp n).filter λw=>decide (w∈left)).filter p:=by
  rw[VG];refine vD λw _=>?_
  by_cases h1:w∈left<;>cases h2:p w<;>simp[h1,h2]
 unfold Rg;rw[e];exact congrArg (List.filter p) h
theorem Rg.bV(h:Rg n left)(wave:.aR):Rg n (bV left wave):=h.filter _
theorem Rg.lt(h:Rg n left):∀w∈left,w<n:=λw hw=>by
 rw[h]at hw;exact wH.mp (wZ.mp hw).1
theorem Rg.nodup(h:Rg n left):left.Nodup:=by
 rw[h];exact W3.filter _
theorem Rg.ends(h:Rg n left)(ps:.c):aC ps left=(wp n).filter λw=>decide (w∈left) && !decide (ps.getD w 0<1):=by
 have e:aC ps left=((wp n).filter λw=>decide (w∈left)).filter λw=>!decide (ps.getD w 0<1):=congrArg (List.filter λw=>!decide (ps.getD w 0<1)) h
 rw[e,VG];refine vD λw _=>?_
 rw[Bool.and_comm]
theorem Cq{f:Rat->Rat}(h:w<xs.length):(xs.map f).getD w 0=f (xs.getD w 0):=by
 rw[wb,wu,wc h,wb,wc h];rfl
def jj(d:Int)(m:Nat)(xs:.c):Prop:=∃B:Int,0<B/\d ∣ B/\Bd m B /\ ∀x∈xs,∃t:Int,x=wB t B/\Bd m t
theorem jj.of{d:Int}(h:.bB)(hd:0<d)(b:Bd 4 d):jj d (m+4) xs:=by
 obtain⟨B,h0,h1,h2⟩:=h;refine⟨B*d,Wa h0 hd,uC ..,(h1.mul b),λx hx=>?_⟩;obtain⟨t,e,ht⟩:=h2 x hx;exact⟨t*d,by rw[e];exact sO h0 hd,ht.mul b⟩
theorem zpK{a b:Rat}(ta:Bd 6 a.num)(da:Bd 4 .D)(tb:Bd 4 b.num){m:Nat}{t u:Int}(hu:0<u)(hd:.aU ∣ u)(bt:Bd m t)(bu:Bd m u):∀n:Nat,0<u*.D^n/\.aU ∣ u*.D^n/\Bd (m+9*n) (u*.D^n) /\
  ∃T:Int,push a b n (wB t u)=wB T (u*.D^n)/\Bd (m+9*n) T
 | 0=>⟨by simpa using hu,by simpa using hd,by simpa using bu,t,by simp[push],by simpa using bt⟩
 | n+1=>by
  obtain⟨h1,hdv,h2,T,e,hT⟩:=zpK ta da tb hu hd bt bu n;have eb:u*.D^(n+1)=u*.D^n*.D:=by rw[qd,<- qm]
  rw[eb];generalize u*.D^n=U at *;obtain⟨c,rfl⟩:=hdv
  have hc:0<c:=by
   have hb:=den_pos b;rcases Int.lt_or_le 0 c with z | z
   ·exact z
   ·have:=Int.mul_nonpos_of_nonneg_of_nonpos (Int.le_of_lt hb) z
    lia
  have bc:Bd (m+9*n) c:=h2.le (by
   rw[Xc];exact Nat.le_mul_of_pos_left _ (by have:=den_pos b;lia))
  refine⟨Wa h1 (den_pos a),qN (VX ..) (VX ..),(h2.mul da).mono .a,a.num*T+b.num*.D*c,?_,((ta.mul hT).add ((tb.mul da).mul bc)).mono .a⟩;rw[push,e]
  symm
  have hU:(.aU*c)*.D≠0:=by have:=Wa h1 (den_pos a);lia
  refine fT hU ?_;have q1:=dB T (show(b.den:Int)*c≠0 by lia);have q2:=ki a;have q3:=ki b;have q4:((a.num*T+b.num*.D*c:Int):Rat)=(a.num:Rat)*(T:Rat)+(b.num:Rat)*(.D:Rat)*(c:Rat):=by push_cast;rfl
  have q5:((.aU*c*.D:Int):Rat)=(.aU:Rat)*(c:Rat)*(.D:Rat):=by push_cast;rfl
  have q6:((.aU*c:Int):Rat)=(.aU:Rat)*(c:Rat):=by push_cast;rfl
  rw[q6]at q1;rw[q4,q5,<- q1,<- q2,<- q3]
  grind
theorem dH(a b:Rat)(xs:.c)(m:Nat):∀k,ag a b (ag a b xs m) k=ag a b xs (m+k)
 | 0=>rfl
 | k+1=>by rw[ag,dH a b xs m k];rfl
theorem kT(a b:Rat)(xs:.c)(m:Nat):∀k,aF a b xs m+aF a b (ag a b xs m) k=aF a b xs (m+k)
 | 0=>by show aF a b xs m+0=aF a b xs m;grind
 | k+1=>by
  have:=kT a b xs m k
  show aF a b xs m+(aF a b (ag a b xs m) k+(1-a_ (ag a b (ag a b xs m) k)))=aF a b xs (m+k)+(1-a_ (ag a b xs (m+k)))
  rw[dH,<- this]
  grind
theorem YV{a b:Rat}(a0:0<a)(b0:0<=b){x:Rat}(h:0<x):∀n:Nat,0<push a b n x
 | 0=>h
 | n+1=>by
  have h1:=YV a0 b0 h n;have h2:=VB a0 h1
  show 0<a*push a b n x+b
  grind
structure jg(l:.c):Prop where
 pw:l.Pairwise (· > ·)
 nn:∀y∈l,0<=y
theorem jg.step(a0:0<a)(b0:0<=b)(h:jg (x::l))(x1:x<1):jg (om a b n (x::l)):=by
 have hp:=Vh.mp h.pw;have pos:∀y∈l,0<push a b n (y+(1-x)):=λy hy=>YV a0 b0 (by have:=h.nn y (wt _ hy);grind) n
 unfold om;refine⟨qL.mpr ⟨?_,xG _ _,?_⟩,λy hy=>?_⟩
 ·show(l.map λy=>push a b n (y+(1-x))).Pairwise (· > ·)
  rw[Qp];refine hp.2.imp λ{y z} hyz=>?_
  show push a b n (z+(1-x))<push a b n (y+(1-x))
  have hyz:z<y:=hyz;exact(zCZ a0 n _ _).mpr .aB
 ·intro y hy z hz
  obtain⟨w,hw,rfl⟩:=wQ.mp hy;rw[vc.mp hz];exact pos w hw
 ·rcases Wc.mp hy with hy | hy
  ·obtain⟨w,hw,rfl⟩:=wQ.mp hy
   exact vY (pos w hw)
  ·rw[vc.mp hy];exact WV
structure iR(xs row:.c)(fl:Nat->Nat):Prop where
 at':∀w,w<xs.length->xs.getD w 0=row.getD (fl w) 0
 lt:∀w,w<xs.length->fl w<row.length
def bW(n:Nat)(fl:Nat->Nat)(c:Nat):List Nat:=(wp n).filter λw=>decide (fl w=c)
theorem tH{row:.c}(h:iR xs row fl)(some:∃w,w<xs.length/\fl w=c)(top:∀j,j<row.length->j≠c->row.getD j 0<row.getD c 0):a_ xs=row.getD c 0:=by
 obtain⟨w,hw,rfl⟩:=some;have h1:1<=xs.length:=by lia
 refine Rat.le_antisymm ?_ ?_
 ·obtain⟨j,hj,e⟩:=wX (f_ h1)
  have ea:=h.at' j hj;rw[wb,wc hj]at ea;have ea:xs[j]=row.getD (fl j) 0:=ea;rw[<- e,ea]
  by_cases z:fl j=fl w
  ·rw[z];exact WV
  ·exact vY (top _ (h.lt j hj) z)
 ·rw[<- h.at' w hw]
  exact G_ _ (getD_mem hw)
theorem Fu{row:.c}(h:iR xs row fl)(some:∃w,w<xs.length/\fl w=c)(top:∀j,j<row.length->j≠c->row.getD j 0<row.getD c 0):aC (bN xs) .B=bW xs.length fl c:=by
 unfold aC bW;refine vD λw hw=>?_
 have hw:=wH.mp hw;have hm:=tH h some top
 have e:(bN xs).getD w 0=row.getD (fl w) 0+(1-row.getD c 0):=by
  unfold bN;rw[wb,wu,wc hw,hm];have ea:=h.at' w hw;rw[wb,wc hw]at ea;have ea:xs[w]=row.getD (fl w) 0:=ea
  show xs[w]+(1-row.getD c 0)=_
  rw[ea]
 rw[e]
 by_cases z:fl w=c
 ·rw[z,decide_eq_true rfl,decide_eq_false .aB];rfl
 ·have:=top _ (h.lt w hw) z
  rw[decide_eq_false z,decide_eq_true .aB];rfl
theorem Tj{row:.c}(h:iR xs row fl)(hm:a_ xs=row.getD c 0)(hw:w<xs.length):(bN xs).getD w 0=row.getD (fl w) 0+(1-row.getD c 0):=by
 unfold bN;rw[wb,wu,wc hw,hm];have ea:=h.at' w hw;rw[wb,wc hw]at ea;have ea:xs[w]=row.getD (fl w) 0:=ea
 show xs[w]+(1-row.getD c 0)=_
 rw[ea]
theorem zvl{row:.c}(h:iR xs row fl)(some:∃w,w<xs.length/\fl w=c)(top:∀j,j<row.length->j≠c->row.getD j 0<row.getD c 0)
  (low:∀j,j<row.length->j≠c->(∃w,w<xs.length/\fl w=j)->push a b (bW xs.length fl c).length (row.getD j 0+(1-row.getD c 0))<1) :
  cK a b xs=[bW xs.length fl c]/\iR (dh a b xs) (d7 a b (bW xs.length fl c).length row c) fl:=by
 have hm:=tH h some top;have he:=Fu h some top;obtain⟨w0,hw0,hf0⟩:=some
 have hne:bW xs.length fl c≠[]:=λe=>by
  have:w0∈bW xs.length fl c:=wZ.mpr ⟨wH.mpr hw0,decide_eq_true hf0⟩;rw[e]at this;cases this
 have hlen:xs.length=(xs.length-1)+1:=by lia
 have hcl:c<row.length:=by rw[<- hf0];exact h.lt w0 hw0
 have nd:=W3 (n:=xs.length)
 have hmemL:∀w,w∈bV .B (bW xs.length fl c) ↔ w<xs.length/\fl w≠c:=λw=>by
  unfold bV bW;rw[wZ,wH]
  constructor
  ·rintro ⟨h1,h2⟩
   refine⟨h1,λz=>?_⟩;have:w∈(wp xs.length).filter λw=>decide (fl w=c):=wZ.mpr ⟨wH.mpr h1,decide_eq_true z⟩
   simp[this]at h2
  ·rintro ⟨h1,h2⟩
   exact⟨h1,by simp[h2]⟩
 have hps:∀w,w<xs.length->fl w≠c->(cT (a^(bW xs.length fl c).length) (az a b (bW xs.length fl c).length) (bN xs) (bV .B (bW xs.length fl c))).getD w 0=push a b (bW xs.length fl c).length (row.getD (fl w) 0+(1-row.getD c 0)):=λw hw hf=>by
  rw[jF _ _ _ _ (rC nd) (λv hv=>by rw[fo];exact((hmemL v).mp hv).1),if_pos ((hmemL w).mpr ⟨hw,hf⟩),Tj h hm hw,h9]
 have hend:aC (cT (a^(bW xs.length fl c).length) (az a b (bW xs.length fl c).length) (bN xs) (bV .B (bW xs.length fl c))) (bV .B (bW xs.length fl c))=[]:=by
  unfold aC;rw[xY];intro w hw;have hw':=(hmemL w).mp hw;rw[hps w hw'.1 hw'.2];have:=low (fl w) (h.lt w hw'.1) hw'.2 ⟨w,hw'.1,rfl⟩;rw[decide_eq_true this]
  decide
 have hR:ee a b xs=([bW xs.length fl c],bV .B (bW xs.length fl c),cT (a^(bW xs.length fl c).length) (az a b (bW xs.length fl c).length) (bN xs) (bV .B (bW xs.length fl c))):=by
  unfold ee;generalize hN:de a b xs.length (bN xs) .B=r;rw[show de a b xs.length (bN xs) .B=de a b ((xs.length-1)+1) (bN xs) .B by rw[<- hlen],jP (by rw[he];exact hne),he,ou hend]at hN;exact hN.symm
 refine⟨by unfold cK;rw[hR],λw hw=>?_,λw hw=>by rw[iZ];exact h.lt w (by rw[kM]at hw;exact hw)⟩;rw[kM]at hw;have hfw:=h.lt w hw;unfold dh;rw[hR,mT (by rw[iB,fo];exact hw),gM _ _ _ _ _ _ hfw]
 by_cases z:fl w=c
 ·rw[if_neg (λy=>((hmemL w).mp y).2 z),if_pos z]
 ·rw[if_pos ((hmemL w).mpr ⟨hw,z⟩),if_neg z,hps w hw z]
theorem zu0{row:.c}(h:iR xs row fl)(some:∃w,w<xs.length/\fl w=c)(top:∀j,j<row.length->j≠c->row.getD j 0<row.getD c 0)
  {w1:Nat} (hw1:w1<xs.length) (hf1:fl w1≠c) (up:¬ push a b (bW xs.length fl c).length (row.getD (fl w1) 0+(1-row.getD c 0))<1):1<(cK a b xs).length:=by
 have hm:=tH h some top;have he:=Fu h some top;obtain⟨w0,hw0,hf0⟩:=some
 have hne:bW xs.length fl c≠[]:=λe=>by
  have:w0∈bW xs.length fl c:=wZ.mpr ⟨wH.mpr hw0,decide_eq_true hf0⟩;rw[e]at this;cases this
 have hw01:w0≠w1:=λe=>hf1 (by rw[<- e];exact hf0)
 have hlen:xs.length=(xs.length-2)+1+1:=by lia
 have nd:=W3 (n:=xs.length)
 have hmem:w1∈bV .B (bW xs.length fl c):=by
  unfold bV bW;rw[wZ,wH];exact⟨hw1,by simp[hf1]⟩
 have hend:aC (cT (a^(bW xs.length fl c).length) (az a b (bW xs.length fl c).length) (bN xs) (bV .B (bW xs.length fl c))) (bV .B (bW xs.length fl c))≠[]:=λe=>by
  have:w1∈aC (cT (a^(bW xs.length fl c).length) (az a b (bW xs.length fl c).length) (bN xs) (bV .B (bW xs.length fl c))) (bV .B (bW xs.length fl c)):=by
   unfold aC;refine wZ.mpr ⟨hmem,?_⟩;rw[jF _ _ _ _ (rC nd) (λv hv=>by rw[fo];exact wH.mp (wZ.mp hv).1),if_pos hmem,Tj h hm hw1,<- h9,decide_eq_false up]
   rfl
  rw[e]at this;cases this
 unfold cK ee;rw[show de a b xs.length (bN xs) .B=de a b ((xs.length-2)+1+1) (bN xs) .B by rw[<- hlen],jP (by rw[he];exact hne),he,jP hend]
 show 1<(_::_::_:List (List Nat)).length
 simp
theorem Sb{row:.c}(hi:i<=row.length)(hj:j<row.length):(aP a b ns row i).getD j 0∈turned a b ns row i:=by
 have hl:=dy a b ns row i;rw[oR a b ns row i hi];have hm:(aP a b ns row i).getD j 0∈aP a b ns row i:=getD_mem .a;generalize (aP a b ns row i).getD j 0=y at hm;have hm2:y∈(aP a b ns row i).take i++(aP a b ns row i).drop i:=by rw[Xe];exact hm
 rcases Wc.mp hm2 with z | z
 ·exact Wc.mpr (.inr z)
 ·exact Wc.mpr (.inl z)
theorem ID{row:.c}(h:jg (turned a b ns row i))(hi:i<row.length)(hj:j<row.length)(hne:j≠i):(aP a b ns row i).getD j 0<(aP a b ns row i).getD i 0:=by
 have hl:=dy a b ns row i;have hpw:=h.pw;rw[oR a b ns row i .a,V5 .a,uB]at hpw;have hp:=(Vh.mp hpw).1;have e:(aP a b ns row i).getD i 0=(aP a b ns row i)[i]'(by lia):=by rw[wb,wc .a];rfl
 rw[e];refine hp _ ?_;rw[Wc];have ej:(aP a b ns row i).getD j 0=(aP a b ns row i)[j]'(by lia):=by rw[wb,wc .a];rfl
 rw[ej];rcases wE j i with z | z
 ·refine .inr (Xp.mpr ⟨j,by rw[Wi];lia,?_⟩)
  rw[X6]
 ·refine .inl (Xp.mpr ⟨j-(i+1),by rw[Wd];lia,?_⟩)
  rw[X7]
  congr 1
  lia
def eZ(a b:Rat)(ns:.p)(row:.c)(i:Nat):Rat:=(aP a b ns row (i+1)).getD ((i+1) % row.length) 0
structure gf(xs row:.c)(fl:Nat->Nat)(ns:.p):Prop where
 pl:iR xs row fl
 oN:jg row
 one:row.getD 0 0<1
 len:ns.length=row.length
 some:∀c,c<row.length->∃w,w<xs.length/\fl w=c
 size:∀c,c<row.length->(ns.getD c 0).toNat=(bW xs.length fl c).length
theorem Cr{a b:Rat}(a0:0<a)(b0:0<=b){xs row:.c}{fl:Nat->Nat}{ns:.p}(h:gf xs row fl ns):∀i,i<=row.length->(∀t,t<i->eZ a b ns row t<1)->iR .ab (aP a b ns row i) fl/\jg (turned a b ns row i)/\(i<row.length->(aP a b ns row i).getD i 0<1) /\ ∀t,t<i->cK a b (ag a b xs t)=[bW xs.length fl t]
 | 0,_,_=>⟨h.pl,h.oN,λ_=>h.one,λt ht=>by lia⟩
 | i+1,hi,ht=>by
  obtain⟨P,F,o,W⟩:=Cr a0 b0 h i .a (λt ht'=>ht t .a);have hl:=dy a b ns row i;have hpl:=aW a b xs i;have hi':i<row.length:=by lia
  have oi:=o hi';have ti:=ht i .a
  have hne:turned a b ns row i≠[]:=λe=>by
   have:=Dm a b ns row .a i;rw[e]at this;simp at this;lia
  obtain⟨x,l,ex⟩:∃x l,turned a b ns row i=x::l:=by
   cases e:turned a b ns row i with
   | nil=>exact absurd e hne
   | cons x l=>exact⟨x,l,rfl⟩
  have hx:x=(aP a b ns row i).getD i 0:=by
   have:=Et a b ns row hi';rw[ex]at this;exact this
  have F1:jg (turned a b ns row (i+1)):=by
   show jg (om a b (ns.getD i 0).toNat (turned a b ns row i))
   rw[ex]at F ⊢;exact F.step a0 b0 (by rw[hx];exact oi)
  have hsz:(ns.getD i 0).toNat=(bW (ag a b xs i).length fl i).length:=by rw[hpl];exact h.size i hi'
  have hrow:aP a b ns row (i+1)=d7 a b (bW (ag a b xs i).length fl i).length (aP a b ns row i) i:=by rw[<- hsz];rfl
  have headTop:(turned a b ns row (i+1)).headD 0=eZ a b ns row i:=by
   unfold eZ;rcases wE (i+1) row.length with z | z
   ·rw[Et a b ns row z,xC z]
   ·have e:i+1=row.length:=by lia
    rw[e,Nat.mod_self,oR a b ns row _ .Y];have hl1:=dy a b ns row row.length;rw[xX .a,WU .a,qT];cases e2:aP a b ns row row.length with
    | nil=>rw[e2]at hl1;simp at hl1;lia
    | cons y m=>rfl
  have below:∀y∈turned a b ns row (i+1),y<1:=λy hy=>by
   have hpw:=F1.pw;cases e2:turned a b ns row (i+1)with
   | nil=>rw[e2]at hy;cases hy
   | cons z m =>
    rw[e2]at hy hpw headTop
    have hz:z<1:=by
     have:z=eZ a b ns row i:=headTop;rw[this];exact ti
    rcases wG.mp hy with rfl | hy
    ·exact hz
    ·have:=(Vh.mp hpw).1 y hy
     have:y<z:=this
     grind
  have G:=zvl (a:=a) (b:=b) (c:=i) P (by obtain⟨w,h1,h2⟩:=h.some i hi';exact⟨w,by lia,h2⟩) (λj hj hji=>ID F hi' .a hji) (λj hj hji _=>by
   have hm:=Sb (a:=a) (b:=b) (ns:=ns) (row:=row) (i:=i+1) (j:=j) hi .a;have:=below _ hm;rw[hrow,gM _ _ _ _ _ _ hj,if_neg hji]at this;exact this)
  refine⟨by rw[hrow];exact G.2,F1,λhlt=>?_,λt ht'=>?_⟩
  ·have:=below _ (Sb (a:=a) (b:=b) (ns:=ns) (row:=row) (i:=i+1) (j:=i+1) hi hlt)
   exact this
  ·rcases wE t i with z | z
   ·exact W t z
   ·have:t=i:=by lia
    subst this;have:=G.1;rw[hpl]at this;exact this
def fc(xs:.c)(v:Rat):List Nat:=(wp xs.length).filter λw=>decide (xs.getD w 0=v)
def gA:Nat->List Rat->List Rat
 | 0,_=>[]
 | _+1,[]=>[]
 | n+1,x::l=>a_ (x::l)::gA n ((x::l).filter λy=>!decide (y=a_ (x::l)))
def aj(xs:.c):List Rat:=gA xs.length xs
theorem yj(n:Nat):gA n []=[]:=by cases n<;>rfl
theorem mO(h:l≠[]):gA (n+1) l=a_ l::gA n (l.filter λy=>!decide (y=a_ l)):=by
 cases l with
 | nil=>exact absurd rfl h
 | cons x l=>rfl
theorem zt(h:l≠[]):(l.filter λy=>!decide (y=a_ l)).length<l.length:=by
 have hm:a_ l∈l:=f_ (WE.mpr h);rcases wE (l.filter λy=>!decide (y=a_ l)).length l.length with z | z
 ·exact z
 ·have:=List.length_filter_eq_length_iff.mp (uU (vZ _ _) z) (a_ l) hm
  simp at this
theorem DE:∀(n:Nat)(l:.c),∀y∈gA n l,y∈l
 | 0,l,y,h=>by cases h
 | n+1,[],y,h=>by cases h
 | n+1,x::l,y,h=>by
  rw[mO .u]at h;rcases wG.mp h with rfl | h
  ·exact f_ .u
  ·exact(wZ.mp (DE n _ y h)).1
theorem kN:∀(n:Nat)(l:.c),(gA n l).Pairwise (· > ·)
 | 0,l=>Xx.nil
 | n+1,[]=>Xx.nil
 | n+1,x::l=>by
  rw[mO .u];refine Vh.mpr ⟨λy hy=>?_,kN n _⟩;have hf:=wZ.mp (DE n _ y hy);have h1:=G_ y hf.1;have h2:¬ y=a_ (x::l):=by simpa using hf.2
  show y<a_ (x::l)
  exact qq h1 h2
theorem Tw:∀(n:Nat)(l:.c),l.length<=n->∀y∈l,y∈gA n l
 | 0,l,h,y,hy=>by
  have:l=[]:=Qk.mp .a;rw[this]at hy;cases hy
 | n+1,[],h,y,hy=>by cases hy
 | n+1,x::l,h,y,hy=>by
  rw[mO .u]
  by_cases z:y=a_ (x::l)
  ·rw[z];exact wz ..
  ·have hl:=zt (l:=x::l) .u
   refine wt _ (Tw n _ .a y (wZ.mpr ⟨hy,by simp[z]⟩))
def aI(xs:.c)(w:Nat):Nat:=(aj xs).idxOf (xs.getD w 0)
theorem tF(h:y∈xs):y∈aj xs:=Tw _ _ .Y y h
theorem lD(h:y∈aj xs):y∈xs:=DE _ _ y h
theorem lS(xs:.c):iR xs (aj xs) (aI xs):=by
 have key:∀w,w<xs.length->aI xs w<(aj xs).length:=λw hw=>List.idxOf_lt_length_of_mem (tF (getD_mem hw))
 refine⟨λw hw=>?_,key⟩;rw[wb (l:=aj xs),wc (key w hw)];exact(List.getElem_idxOf (key w hw)).symm
theorem y7(hw:w<xs.length)(hc:c<(aj xs).length):aI xs w=c ↔ xs.getD w 0=(aj xs).getD c 0:=by
 have P:=lS xs;have e:=P.at' w hw;have hl:=P.lt w hw
 constructor
 ·rintro rfl;exact e
 ·intro h
  rw[e]at h;rcases Va (aI xs w) c with z | z | z
  ·have:=(WD.mp (kN xs.length xs)) (aI xs w) c hl hc z
   rw[wb,wc hl,wb,wc hc]at h;have h:(aj xs)[aI xs w]=(aj xs)[c]:=h;have this:(aj xs)[c]<(aj xs)[aI xs w]:=this;rw[h]at this;exact absurd this .aB
  ·exact z
  ·have:=(WD.mp (kN xs.length xs)) c (aI xs w) hc hl z
   rw[wb,wc hl,wb,wc hc]at h;have h:(aj xs)[aI xs w]=(aj xs)[c]:=h;have this:(aj xs)[aI xs w]<(aj xs)[c]:=this;rw[h]at this;exact absurd this .aB
theorem zyx(hc:c<(aj xs).length):bW xs.length (aI xs) c=fc xs ((aj xs).getD c 0):=by
 unfold bW fc;refine vD λw hw=>?_
 exact decide_eq_decide.mpr (y7 (wH.mp hw) hc)
def aR(xs:.c):List Int:=(aj xs).map λv=>((fc xs v).length:Int)
theorem O0(nn:∀x∈xs,0<=x)(lt:∀x∈xs,x<1):gf xs (aj xs) (aI xs) .aI where
 pl:=lS xs
 oN:=⟨kN _ _,λy hy=>nn y (lD hy)⟩
 one:=by
  rcases wE 0 (aj xs).length with z | z
  ·exact lt _ (lD (getD_mem z))
  ·rw[wb,wN z];decide
 len:=by unfold aR;rw[wl]
 some:=λc hc=>by
  obtain⟨w,hw,e⟩:=wX (lD (getD_mem (d:=0) hc));refine⟨w,hw,(y7 hw hc).mpr ?_⟩;rw[wb,wc hw];exact e
 size:=λc hc=>by
  rw[zyx hc];unfold aR;rw[wb,wu,wc hc,wb,wc hc]
  rfl
theorem Sv:∀{l m:.c},l.Pairwise (· > ·)->m.Pairwise (· > ·)->(∀y,y∈l ↔ y∈m)->l=m
 | [],[],_,_,_=>rfl
 | [],y::m,_,_,h=>by have:=(h y).mpr .bn;cases this
 | x::l,[],_,_,h=>by have:=(h x).mp .bn;cases this
 | x::l,y::m,hl,hm,h=>by
  have pl:=Vh.mp hl;have pm:=Vh.mp hm
  have e:x=y:=by
   rcases wG.mp ((h x).mp .bn)with z | z
   ·exact z
   ·rcases wG.mp ((h y).mpr .bn)with z2 | z2
    ·exact z2.symm
    ·have a1:x<y:=pm.1 x z
     have a2:y<x:=pl.1 y z2
     grind
  subst e;rw[Sv pl.2 pm.2 λz=>⟨λhz=>?_,λhz=>?_⟩]
  ·rcases wG.mp ((h z).mp (wt _ hz))with e | e
   ·have:z<x:=pl.1 z hz
    rw[e]at this;exact absurd this .aB
   ·exact e
  ·rcases wG.mp ((h z).mpr (wt _ hz))with e | e
   ·have:z<x:=pm.1 z hz
    rw[e]at this;exact absurd this .aB
   ·exact e
theorem Bo{row:.c}(P:iR ys row fl)(F:row.Pairwise (· > ·))(some:∀c,c<row.length->∃w,w<ys.length/\fl w=c):aj ys=row:=by
 refine Sv (kN _ _) F λy=>⟨λh=>?_,λh=>?_⟩
 ·obtain⟨w,hw,e⟩:=wX (lD h)
  have ea:=P.at' w hw;rw[wb,wc hw]at ea;have ea:ys[w]=row.getD (fl w) 0:=ea;rw[<- e,ea];exact getD_mem (P.lt w hw)
 ·obtain⟨c,hc,e⟩:=wX h
  obtain⟨w,hw,hf⟩:=some c hc;have ea:=P.at' w hw;rw[hf,wb (l:=row),wc hc]at ea;have ea:ys.getD w 0=row[c]:=ea;rw[<- e,<- ea];exact tF (getD_mem hw)
def dW(a b:Rat)(ns:.p)(row:.c):Nat->Rat
 | 0=>0
 | k+1=>dW a b ns row k+(1-(aP a b ns row k).getD k 0)
theorem Pz{a b:Rat}(a0:0<a)(b0:0<=b){xs row:.c}{fl:Nat->Nat}{ns:.p}(h:gf xs row fl ns):∀i,i<=row.length->(∀t,t<i->eZ a b ns row t<1)->aF a b xs i=dW a b ns row i
 | 0,_,_=>rfl
 | i+1,hi,ht=>by
  have ht':∀t,t<i->eZ a b ns row t<1:=λt z=>ht t .a
  obtain⟨P,F,_,_⟩:=Cr a0 b0 h i .a ht';have hpl:=aW a b xs i;have hl:=dy a b ns row i;have hm:=tH (c:=i) P (by obtain⟨w,h1,h2⟩:=h.some i .a;exact⟨w,by lia,h2⟩) (λj hj hji=>ID F .a .a hji);rw[aF,dW,Pz a0 b0 h i .a ht',hm]
theorem zy4(a0:0<a)(b0:0<=b){row:.c}(h:gf xs row fl ns){t:Nat}(ht:t<row.length)(free:∀s,s<t->eZ a b ns row s<1)(up:¬ eZ a b ns row t<1):1<(cK a b (ag a b xs t)).length:=by
 obtain⟨P,F,o,_⟩:=Cr a0 b0 h t .a free;have hpl:=aW a b xs t;have hl:=dy a b ns row t;have hsz:(ns.getD t 0).toNat=(bW (ag a b xs t).length fl t).length:=by rw[hpl];exact h.size t ht
 have hrow:aP a b ns row (t+1)=d7 a b (bW (ag a b xs t).length fl t).length (aP a b ns row t) t:=by rw[<- hsz];rfl
 have hj:(t+1) % row.length<row.length:=qr _ .a
 have hne:(t+1) % row.length≠t:=λe=>by
  apply up
  unfold eZ;rw[hrow,e,gM _ _ _ _ _ _ .a,if_pos rfl]
  decide
 obtain⟨w1,hw1,hf1⟩:=h.some _ hj;refine zu0 (c:=t) P (by obtain⟨w,h1,h2⟩:=h.some t ht;exact⟨w,by lia,h2⟩) (λj hj hji=>ID F ht .a hji) (w1:=w1) .a (by rw[hf1];exact hne) ?_;intro z
 apply up
 unfold eZ;rw[hrow,gM _ _ _ _ _ _ .a,if_neg hne,<- hf1];exact z
theorem nW{a b:Rat}(a0:0<a)(b0:0<=b):∀n:Nat,0<=az a b n
 | 0=>WV
 | n+1=>by
  have h1:=nW a0 b0 n;have h2:=qF (vY a0) h1
  show 0<=a*az a b n+b
  grind
theorem HH{a b:Rat}(a0:0<a)(b0:0<=b):∀(n:Nat)(ps:.c)(left:List Nat),left.length<=n->left.Nodup->(∀w∈left,w<ps.length)->(∀w∈left,0<=ps.getD w 0) ->
  ∀w∈(de a b n ps left).2.1,w∈left/\0<=(de a b n ps left).2.2.getD w 0/\(de a b n ps left).2.2.getD w 0<1
 | 0,ps,left,hn,_,_,_=>by
  have:left=[]:=Qk.mp .a;subst this;intro w hw;cases (show w∈([]:List Nat)from hw)
 | n+1,ps,left,hn,nd,hlt,nn=>by
  by_cases e:aC ps left=[]
  ·rw[ou e]
   intro w hw;have hw:w∈left:=hw;refine⟨hw,nn w hw,?_⟩;have:¬ w∈aC ps left:=by rw[e];simp
   unfold aC at this;rw[wZ]at this
   show ps.getD w 0<1
   by_cases z:ps.getD w 0<1
   ·exact z
   ·exact absurd ⟨hw,by simp only[z,decide_false,Q0]⟩ this
  ·rw[jP e]
   have hl:=Bp ps left;have hp:=WE.mpr e;have nd':(bV left .aD).Nodup:=rC nd;have lt':∀w∈bV left .aD,w<(cT (a^(aC ps left).length) (az a b (aC ps left).length) ps (bV left .aD)).length:=λw hw=>by rw[iB];exact pN hlt w hw
   have ih:=HH a0 b0 n (cT (a^(aC ps left).length) (az a b (aC ps left).length) ps (bV left .aD)) (bV left .aD) .a nd' lt' (λw hw=>by
    rw[jF _ _ _ _ nd' (pN hlt),if_pos hw];have h1:=nn w (wZ.mp hw).1;have h2:=qF (vY (ox a0 (aC ps left).length)) h1;have h3:=nW a0 b0 (aC ps left).length
    grind)
   intro w hw;have:=ih w hw;exact⟨(wZ.mp this.1).1,this.2⟩
theorem zuo(nn:∀x∈xs,0<=x)(lt:∀x∈xs,x<1)(hw:w<xs.length):0<=(bN xs).getD w 0:=by
 have h1:=f_ (xs:=xs) .a;have h2:=lt _ h1;have h3:=nn _ (getD_mem (d:=0) hw);unfold bN;rw[Cq hw]
 grind
theorem U9(a0:0<a)(b0:0<=b)(nn:∀x∈xs,0<=x)(lt:∀x∈xs,x<1):∀y∈dh a b xs,0<=y/\y<1:=λy hy=>by
 obtain⟨j,hj,e⟩:=wX hy;have hlen:=kM a b xs;have hjx:j<xs.length:=by lia
 have hpl:(ee a b xs).2.2.length=xs.length:=by
  unfold ee;rw[sA,fo]
 have e2:(dh a b xs).getD j 0=y:=by rw[wb,wc hj];exact e
 unfold dh at e2;rw[mT .a]at e2
 split at e2
 ·rename_i hm
  have:=HH a0 b0 xs.length (bN xs) .B .u W3 (λw hw=>by rw[fo];exact wH.mp hw) (λw hw=>zuo nn lt (wH.mp hw)) j hm;rw[<- e2];exact this.2
 ·rw[<- e2];exact⟨WV,by decide⟩
theorem zuW(a0:0<a)(b0:0<=b)(h1:.aj)(nn:∀x∈xs,0<=x)(lt:∀x∈xs,x<1):0∈dh a b xs:=by
 obtain⟨j,hj,e⟩:=wX (f_ h1)
 have hr:(bN xs).getD j 0=1:=by
  unfold bN;rw[Cq hj,wb,wc hj]
  show xs[j]+(1-a_ xs)=1
  rw[e];grind
 have hend:j∈aC (bN xs) .B:=by
  unfold aC;rw[wZ];refine⟨wH.mpr hj,?_⟩;rw[hr];decide
 have hne:aC (bN xs) .B≠[]:=λz=>by rw[z]at hend;cases hend
 have hpl:(ee a b xs).2.2.length=xs.length:=by
  unfold ee;rw[sA,fo]
 have hnot:¬ j∈(ee a b xs).2.1:=λz=>by
  unfold ee at z;obtain⟨n,hn⟩:∃n,xs.length=n+1:=⟨xs.length-1,by lia⟩;have hl:=Bp (bN xs) .B;rw[vi]at hl;have hp:=WE.mpr hne;have z':j∈(de a b (n+1) (bN xs) .B).2.1:=by rw[<- hn];exact z
  rw[jP hne]at z';have nd':(bV .B (aC (bN xs) .B)).Nodup:=rC W3;have ltr:∀w∈wp xs.length,w<(bN xs).length:=λw hw=>by rw[fo];exact wH.mp hw
  have:=HH a0 b0 n _ _ .a nd' (λw hw=>by rw[iB];exact pN ltr w hw) (λw hw=>by
   rw[jF _ _ _ _ nd' (pN ltr),if_pos hw];have h1:=zuo nn lt (wH.mp (wZ.mp hw).1);have h2:=qF (vY (ox a0 (aC (bN xs) .B).length)) h1;have h3:=nW a0 b0 (aC (bN xs) .B).length
   grind) j z'
  have:=(wZ.mp this.1).2;simp only[hend,decide_true,WG]at this;cases this
 have hlen:=kM a b xs
 have hg:(dh a b xs).getD j 0=0:=by
  unfold dh;rw[mT .a,if_neg hnot]
 rw[<- hg];exact getD_mem .a
structure cu(xs:.c):Prop where
 nn:∀x∈xs,0<=x
 lt:∀x∈xs,x<1
theorem cu.oK(a0:0<a)(b0:0<=b)(h:cu xs):cu (dh a b xs):=⟨λy hy=>(U9 a0 b0 h.nn h.lt y hy).1,λy hy=>(U9 a0 b0 h.nn h.lt y hy).2⟩
theorem cu.at{a b:Rat}(a0:0<a)(b0:0<=b){xs:.c}(h:cu xs):∀k,cu (ag a b xs k)
 | 0=>h
 | k+1=>(cu.at a0 b0 h k).oK a0 b0
theorem cu.zero(a0:0<a)(b0:0<=b)(h:cu xs)(h1:.aj)(hk:1<=k):0∈ag a b xs k:=by
 obtain⟨j,rfl⟩:∃j,k=j+1:=⟨k-1,by lia⟩;have:=h.at a0 b0 j;exact zuW a0 b0 (by rw[aW];exact h1) this.nn this.lt
theorem Bq(h:cu xs)(h0:0∈xs):(aj xs).dropLast++[0]=aj xs:=by
 have hm:=tF h0;have hne:aj xs≠[]:=λe=>by rw[e]at hm;cases hm
 have hpw:(aj xs).Pairwise (· > ·):=kN _ _
 have hl:(aj xs).getLast hne=0:=by
  have h1:=h.nn _ (lD (List.getLast_mem hne))
  have h2:(aj xs).getLast hne<=0:=by
   have e:=Q1 hne;rw[<- e]at hm hpw;rcases Wc.mp hm with z | z
   ·have:=(qL.mp hpw).2.2 0 z _ (vc.mpr rfl)
    exact vY this
   ·rw[<- vc.mp z];exact WV
  grind
 have:=Q1 hne;rw[hl]at this;exact this
theorem mB(h1:.aj):1<=(aj xs).length:=by
 have:=tF (getD_mem (d:=0) (show 0<xs.length by lia));exact qx this
theorem pZ(xs:.c):(aR xs).length=(aj xs).length:=by unfold aR;rw[wl]
theorem kD(xs:.c):∀n∈aR xs,0<=n:=λn hn=>by
 obtain⟨v,_,rfl⟩:=wQ.mp hn
 lia
theorem zus{α : Type}(g h : α -> Nat):∀l:List α,(l.map λv=>g v+h v).sum=(l.map g).sum+(l.map h).sum
 | []=>rfl
 | x::l=>by
  simp only[ve,Vr,zus g h l]
  lia
theorem zBt(x:Rat):∀vs:List Rat,vs.Nodup->(vs.map λv=>if x=v then 1 else 0).sum<=1
 | [],_=>by simp
 | v::vs,nd=>by
  have⟨h1,h2⟩:=Vb.mp nd;rw[ve,Vr]
  by_cases e:x=v
  ·have z:(vs.map λv=>if x=v then 1 else 0).sum=0:=by
    have:∀ws:List Rat,(∀y∈ws,x≠y)->(ws.map λv=>if x=v then 1 else 0).sum=0:=by
     intro ws
     induction ws with
     | nil=>intro _;rfl
     | cons y ws ih =>
      intro hy;rw[ve,Vr,if_neg (hy y .bn),ih λz hz=>hy z (wt _ hz)]
    exact this vs λy hy z=>h1 (by rw[<- e,z];exact hy)
   rw[z,if_pos e]
   lia
  ·have:=zBt x vs h2
   rw[if_neg e];lia
theorem OR(f:Nat->Rat)(vs:.c)(nd:vs.Nodup):∀l:List Nat,(vs.map λv=>(l.filter λw=>decide (f w=v)).length).sum<=l.length
 | []=>by
  have:∀ws:List Rat,(ws.map λv=>(([]:List Nat).filter λw=>decide (f w=v)).length).sum=0:=by
   intro ws
   induction ws with
   | nil=>rfl
   | cons y ws ih=>rw[ve,Vr,ih];rfl
  rw[this];exact wo _
 | w::l=>by
  have ih:=OR f vs nd l
  have e:(vs.map λv=>((w::l).filter λw=>decide (f w=v)).length)=vs.map λv=>(if f w=v then 1 else 0)+(l.filter λw=>decide (f w=v)).length:=by
   refine Vv λv _=>?_
   rw[Ww]
   by_cases z:f w=v
   ·rw[if_pos (by simp[z]),if_pos z,vK];lia
   ·rw[if_neg (by simp[z]),if_neg z];lia
  rw[e,zus,vK];have:=zBt (f w) vs nd
  lia
theorem HM(xs:.c):(aj xs).Nodup:=(kN xs.length xs).imp λ{x y} h=>by
 have h:y<x:=h;intro e;rw[e]at h;exact absurd h .aB
theorem zrN(xs:.c):((aR xs).map xM).sum<=xs.length:=by
 have:=OR (λw=>xs.getD w 0) (aj xs) (HM xs) .B;rw[vi]at this
 have e:(aR xs).map xM=(aj xs).map λv=>((wp xs.length).filter λw=>decide (xs.getD w 0=v)).length:=by
  unfold aR;rw[VH];refine Vv λv _=>?_
  show((fc xs v).length:Int).toNat=_
  rw[wD];rfl
 rw[e];exact this
theorem Tn(xs:.c):upTo .aI (aR xs).length<=xs.length:=by
 unfold upTo;rw[Wj];exact zrN xs
theorem zwt(xs:.c):∀n∈aR xs,0<=n/\n<=xs.length:=λn hn=>by
 obtain⟨v,_,rfl⟩:=wQ.mp hn
 have:(fc xs v).length<=xs.length:=by
  have:=vZ (λw=>decide (xs.getD w 0=v)) .B;rw[vi]at this;exact this
 lia
theorem iQ(xs:.c):(aj xs).length<=xs.length:=by
 have h:∀(n:Nat)(l:.c),(gA n l).length<=n:=by
  intro n
  induction n with
  | zero=>intro l;exact wo _
  | succ n ih =>
   intro l
   by_cases e:l=[]
   ·rw[e,yj];simp
   ·rw[mO e,vK]
    have:=ih (l.filter λy=>!decide (y=a_ l))
    lia
 exact h _ _
theorem iP(c:.bB)(h:∀y∈ys,y∈xs):Cm m ys:=c.gI λy hy=>.inl (h y hy)
theorem mi(c:.bB):Cm m (aj xs).dropLast:=iP c λy hy=>lD (by rw[Xf]at hy;exact List.mem_of_mem_take hy)
theorem zzG(xs:.c):(wp xs.length).map (λw=>xs.getD w 0)=xs:=by
 refine W4 .u λi h1 h2=>?_
 rw[Vx,List.getElem_range,wb,wc h2]
 rfl
theorem Rr(xs:.c)(v:Rat):(fc xs v).length=xs.countP λy=>decide (y=v):=by
 unfold fc;rw[<- Q2]
 conv=>rhs;rw[<- zzG xs,uV]
 rfl
def seg(n:Nat)(fl:Nat->Nat)(s t:Nat):List Nat:=(wp n).filter λw=>decide (s<=fl w)&&decide (fl w<t)
theorem ji{s t:Nat} : w∈seg n fl s t ↔ w<n/\s<=fl w/\fl w<t:=by
 unfold seg;rw[wZ,wH,w8,decide_eq_true_eq,decide_eq_true_eq]
theorem UR(n:Nat)(fl:Nat->Nat)(s t:Nat):(seg n fl s t).Nodup:=W3.filter _
theorem zyU{s t u:Nat}(h1:s<=t)(h2:t<=u):(seg n fl s t++seg n fl t u).Perm (seg n fl s u):=by
 have e1:(seg n fl s u).filter (λw=>decide (fl w<t))=seg n fl s t:=by
  unfold seg;rw[VG];refine vD λw _=>?_
  rw[vA];simp only[w8,decide_eq_true_eq]
  lia
 have e2:(seg n fl s u).filter (λw=>!decide (fl w<t))=seg n fl t u:=by
  unfold seg;rw[VG];refine vD λw _=>?_
  rw[vA];simp only[w8,WX,decide_eq_true_eq,decide_eq_false_iff_not]
  lia
 have:=List.filter_append_perm (λw=>decide (fl w<t)) (seg n fl s u);rw[e1,e2]at this;exact this
theorem TL(n:Nat)(fl:Nat->Nat)(s:Nat):seg n fl s s=[]:=by
 unfold seg;rw[xY];intro w _;simp only[w8,decide_eq_true_eq]
 lia
inductive kO(n:Nat)(fl:Nat->Nat):Nat->List (List Nat)->Nat->Prop
 | nil (t:Nat):kO n fl t [] t
 | cons {t u v:Nat} {ws:.aF} : t<u->kO n fl u ws v->kO n fl t (seg n fl t u::ws) v
theorem kO.le{t v:Nat}{ws:.aF}(h:kO n fl t ws v):t<=v:=by
 induction h with
 | nil t=>exact wo t
 | cons h _ ih=>lia
theorem kO.perm{t v:Nat}{ws:.aF}(h:kO n fl t ws v):ws.flatten.Perm (seg n fl t v):=by
 induction h with
 | nil t=>rw[TL];exact List.Perm.refl _
 | cons h k ih =>
  rw[VW];exact(List.Perm.append_left _ ih).trans (zyU .a k.le)
theorem zAv(p:Nat->Prop)[DecidablePred p](t:Nat):∀m:Nat,t<=m->(∀c d,t<=c->c<=d->d<m->p d->p c)->∃u,t<=u/\u<=m /\ ∀c,t<=c->c<m->(p c ↔ c<u)
 | 0,h,_=>⟨0,h,wo 0,λc _ hc=>absurd hc .a⟩
 | m+1,h,mono=>by
  rcases wE m t with z | z
  ·exact⟨m+1,h,wo _,λc h1 h2=>absurd h2 .a⟩
  ·by_cases q:p m
   ·exact⟨m+1,h,wo _,λc h1 h2=>⟨λ_=>h2,λ_=>mono c m h1 .a .a q⟩⟩
   ·obtain⟨u,u1,u2,hu⟩:=zAv p t m z (λc d h1 h2 h3=>mono c d h1 h2 .a)
    refine⟨u,u1,by lia,λc h1 h2=>?_⟩;rcases wE c m with y | y
    ·exact hu c h1 y
    ·have:c=m:=by lia
     subst this;exact⟨λk=>absurd k q,λk=>absurd k .a⟩
theorem A_{row:.c}(F:row.Pairwise (· > ·)){d:Nat}(h:c<d)(hd:d<row.length):row.getD d 0<row.getD c 0:=by
 have:=WD.mp F c d .a hd h;rw[wb,wc hd,wb,wc .a];exact this
theorem zCP{row:.c}(F:row.Pairwise (· > ·)){d:Nat}(h:c<=d)(hd:d<row.length):row.getD d 0<=row.getD c 0:=by
 rcases wE c d with z | z
 ·exact vY (A_ F z hd)
 ·rw[show c=d by lia];exact WV
theorem UO{a b:Rat}(a0:0<a)(b0:0<=b){row:.c}{fl:Nat->Nat}{N:Nat}(F:row.Pairwise (· > ·)):∀(n:Nat)(ps:.c)(t:Nat)(A B:Rat),t<=row.length->ps.length=N->0<A->(∀w∈seg N fl t row.length,ps.getD w 0=A*row.getD (fl w) 0+B/\0<ps.getD w 0) ->
  ∃(v:Nat)(A' B':Rat),v<=row.length/\0<A'/\kO N fl t (de a b n ps (seg N fl t row.length)).1 v/\(de a b n ps (seg N fl t row.length)).2.1=seg N fl v row.length /\
   ∀w∈seg N fl v row.length,(de a b n ps (seg N fl t row.length)).2.2.getD w 0=A'*row.getD (fl w) 0+B'/\0<A'*row.getD (fl w) 0+B'
 | 0,ps,t,A,B,ht,hl,hA,hw=>⟨t,A,B,ht,hA,.nil t,rfl,λw h=>⟨(hw w h).1,by rw[<- (hw w h).1];exact(hw w h).2⟩⟩
 | n+1,ps,t,A,B,ht,hl,hA,hw=>by
  by_cases e:aC ps (seg N fl t row.length)=[]
  ·rw[ou e]
   exact⟨t,A,B,ht,hA,.nil t,rfl,λw h=>⟨(hw w h).1,by rw[<- (hw w h).1];exact(hw w h).2⟩⟩
  ·obtain⟨u,u1,u2,hu⟩:=zAv (λc=>¬ A*row.getD c 0+B<1) t row.length ht (λc d h1 h2 h3 hp=>by
    have:=Rat.mul_le_mul_of_nonneg_left (zCP F h2 h3) (vY hA);have hp:¬ A*row.getD d 0+B<1:=hp
    show ¬ A*row.getD c 0+B<1
    grind)
   have eE:aC ps (seg N fl t row.length)=seg N fl t u:=by
    unfold aC
    have:(seg N fl t row.length).filter (λw=>!decide (ps.getD w 0<1))=(seg N fl t row.length).filter (λw=>decide (fl w<u)):=by
     refine vD λw h=>?_
     have h1:=hw w h;have h2:=ji.mp h;rw[vA,WX,decide_eq_false_iff_not,decide_eq_true_eq,h1.1];exact hu (fl w) h2.2.1 h2.2.2
    rw[this];unfold seg;rw[VG];refine vD λw _=>?_
    rw[vA];simp only[w8,decide_eq_true_eq]
    lia
   have eL:bV (seg N fl t row.length) (seg N fl t u)=seg N fl u row.length:=by
    unfold bV
    have:(seg N fl t row.length).filter (λw=>!decide (w∈seg N fl t u))=(seg N fl t row.length).filter (λw=>!decide (fl w<u)):=by
     refine vD λw h=>?_
     have h2:=ji.mp h;rw[vA,WX,WX,decide_eq_false_iff_not,decide_eq_false_iff_not,ji]
     constructor
     ·intro k y;exact k ⟨h2.1,h2.2.1,y⟩
     ·intro k y;exact k y.2.2
    rw[this];unfold seg;rw[VG];refine vD λw _=>?_
    rw[vA];simp only[w8,WX,decide_eq_true_eq,decide_eq_false_iff_not]
    lia
   have htu:t<u:=by
    rcases wE t u with z | z
    ·exact z
    ·have:u=t:=by lia
     rw[eE,this,TL]at e;exact absurd rfl e
   rw[jP e,eE,eL];have hf:=ox a0 (seg N fl t u).length;have hg:=nW a0 b0 (seg N fl t u).length;generalize a^(seg N fl t u).length=f at *;generalize az a b (seg N fl t u).length=g at *;have hA':0<f*A:=VB hf hA
   obtain⟨v,A',B',hv,hA2,hs,hl2,hw2⟩:=UO (fl:=fl) (N:=N) a0 b0 F n (cT f g ps (seg N fl u row.length)) u (f*A) (f*B+g) u2 (by rw[iB];exact hl) hA' (λw h=>by
    have hm:=ji.mp h;have h1:=hw w (ji.mpr ⟨hm.1,by lia,hm.2.2⟩);have h3:=VB hf h1.2;rw[jF _ _ _ _ (UR ..) (λw h=>by rw[hl];exact(ji.mp h).1),if_pos h];refine⟨by rw[h1.1];grind,by grind⟩)
   exact⟨v,A',B',hv,hA2,.cons htu hs,hl2,hw2⟩
structure nj(xs ys:.c)(waves:.aF)(v:Nat):Prop where
 v1:1<=v
 vm:v<=(aj xs).length
 first:∃ws,waves=seg xs.length (aI xs) 0 1::ws/\kO xs.length (aI xs) 1 ws v
 vals:∃(A B:Rat),0<A/\aj ys=((aj xs).drop v).map (λx=>A*x+B)++[0]/\(∀x∈(aj xs).drop v,0<A*x+B)
 at':iR ys (aj ys) (λw=>if aI xs w<v then(aj xs).length-v else aI xs w-v)
 len:ys.length=xs.length
theorem U3{v:Nat} : (l.drop v).getD c 0=l.getD (v+c) 0:=by
 rw[wb,xg,wb]
theorem pV(hc:c<(aj xs).length):∃w,w<xs.length/\aI xs w=c:=by
 have hm:(aj xs).getD c 0∈xs:=lD (getD_mem hc);obtain⟨w,hw,e⟩:=wX hm;refine⟨w,hw,(y7 hw hc).mpr ?_⟩;rw[wb,wc hw];exact e
theorem Cw(a0:0<a)(b0:0<=b)(h1:.aj)(nn:∀x∈xs,0<=x)(lt:∀x∈xs,x<1):∃v,nj xs (dh a b xs) (cK a b xs) v:=by
 have P:=lS xs;have F:(aj xs).Pairwise (· > ·):=kN xs.length xs;have m1:=mB h1;have top:∀j,j<(aj xs).length->j≠0->(aj xs).getD j 0<(aj xs).getD 0 0:=λj hj h0=>A_ F .a hj
 have he:=Fu P (pV m1) top;have hmax:=tH P (pV m1) top;have hmx1:a_ xs<1:=lt _ (f_ h1)
 have e01:bW xs.length (aI xs) 0=seg xs.length (aI xs) 0 1:=by
  unfold bW seg;refine vD λw _=>?_
  rw[vA];simp only[w8,decide_eq_true_eq]
  lia
 rw[e01]at he
 have hr:wp xs.length=seg xs.length (aI xs) 0 (aj xs).length:=by
  unfold seg
  symm
  rw[XA];intro w hw;have:=P.lt w (wH.mp hw);simp only[w8,decide_eq_true_eq]
  lia
 have hne:aC (bN xs) .B≠[]:=λe=>by
  obtain⟨w,hw,hf⟩:=pV m1;rw[he]at e;have:w∈seg xs.length (aI xs) 0 1:=ji.mpr ⟨hw,by lia,by lia⟩;rw[e]at this;cases this
 obtain⟨n,hn⟩:∃n,xs.length=n+1:=⟨xs.length-1,by lia⟩
 have eL:bV .B (seg xs.length (aI xs) 0 1)=seg xs.length (aI xs) 1 (aj xs).length:=by
  unfold bV seg;refine vD λw hw=>?_
  have h2:=P.lt w (wH.mp hw);rw[vA,WX,decide_eq_false_iff_not]
  have:w∈(wp xs.length).filter (λw=>decide (0<=aI xs w)&&decide (aI xs w<1)) ↔ aI xs w<1:=by
   rw[wZ,w8,decide_eq_true_eq,decide_eq_true_eq];exact⟨λh=>h.2.2,λh=>⟨hw,by lia,h⟩⟩
  rw[this];simp only[w8,decide_eq_true_eq]
  lia
 have hf:=ox a0 (seg xs.length (aI xs) 0 1).length;have hg:=nW a0 b0 (seg xs.length (aI xs) 0 1).length
 have eR:ee a b xs=(seg xs.length (aI xs) 0 1::(de a b n (cT (a^(seg xs.length (aI xs) 0 1).length) (az a b (seg xs.length (aI xs) 0 1).length) (bN xs) (seg xs.length (aI xs) 1 (aj xs).length)) (seg xs.length (aI xs) 1 (aj xs).length)).1,(de a b n (cT (a^(seg xs.length (aI xs) 0 1).length) (az a b (seg xs.length (aI xs) 0 1).length) (bN xs) (seg xs.length (aI xs) 1 (aj xs).length)) (seg xs.length (aI xs) 1 (aj xs).length)).2):=by
  unfold ee;have e:de a b xs.length (bN xs) .B=de a b (n+1) (bN xs) .B:=by rw[<- hn]
  rw[e,jP hne,he,eL]
 generalize a^(seg xs.length (aI xs) 0 1).length=f at *;generalize az a b (seg xs.length (aI xs) 0 1).length=g at *
 obtain⟨v,A,B,hv,hA,hs,hl2,hw2⟩:=UO (fl:=aI xs) (N:=xs.length) a0 b0 F n (cT f g (bN xs) (seg xs.length (aI xs) 1 (aj xs).length)) 1 f (f*(1-a_ xs)+g) m1 (by rw[iB,fo]) hf (λw h=>by
  have hm:=ji.mp h;rw[jF _ _ _ _ (UR ..) (λw h=>by rw[fo];exact(ji.mp h).1),if_pos h]
  have e:(bN xs).getD w 0=(aj xs).getD (aI xs w) 0+(1-a_ xs):=by
   unfold bN;rw[Cq hm.1,P.at' w hm.1]
  have hx:=nn _ (getD_mem (d:=0) hm.1);rw[P.at' w hm.1]at hx;have h3:=VB hf (show 0<(aj xs).getD (aI xs w) 0+(1-a_ xs) by grind);rw[e];exact⟨by grind,by grind⟩)
 have v1:=hs.le
 have ePh:∀w,w<xs.length->(dh a b xs).getD w 0=if aI xs w<v then 0 else A*(aj xs).getD (aI xs w) 0+B:=λw hw=>by
  have hpl:(ee a b xs).2.2.length=xs.length:=by unfold ee;rw[sA,fo]
  unfold dh;rw[mT .a,eR]
  show(if w∈(de a b n _ _).2.1 then _ else _)=_
  rw[hl2]
  by_cases z:aI xs w<v
  ·rw[if_neg (λh=>by have:=(ji.mp h).2.1;lia),if_pos z]
  ·have hmem:w∈seg xs.length (aI xs) v (aj xs).length:=ji.mpr ⟨hw,by lia,P.lt w hw⟩
   rw[if_pos hmem,if_neg z];exact(hw2 w hmem).1
 have posd:∀x∈(aj xs).drop v,0<A*x+B:=λx hx=>by
  obtain⟨c,hc,e⟩:=wX hx;rw[Wd]at hc;obtain⟨w,hw,hfw⟩:=pV (xs:=xs) (c:=v+c) .a;have:=(hw2 w (ji.mpr ⟨hw,by lia,P.lt w hw⟩)).2;rw[hfw,<- U3,wb,wc (by rw[Wd];lia)]at this;rw[<- e];exact this
 have rlen:(((aj xs).drop v).map (λx=>A*x+B)++[0]).length=(aj xs).length-v+1:=by simp
 have rget:∀c,c<(aj xs).length-v->(((aj xs).drop v).map (λx=>A*x+B)++[0]).getD c 0=A*(aj xs).getD (v+c) 0+B:=λc hc=>by
  rw[wb,vQ .aL,<- wb,Cq (by rw[Wd];lia),U3]
 have rlast:(((aj xs).drop v).map (λx=>A*x+B)++[0]).getD ((aj xs).length-v) 0=0:=by
  rw[wb,vC .u];simp
 have P2:iR (dh a b xs) (((aj xs).drop v).map (λx=>A*x+B)++[0]) (λw=>if aI xs w<v then(aj xs).length-v else aI xs w-v):=by
  refine⟨λw hw=>?_,λw hw=>?_⟩
  ·rw[kM]at hw
   rw[ePh w hw];have:=P.lt w hw
   by_cases z:aI xs w<v
   ·simp only[z,if_true]
    exact rlast.symm
   ·simp only[z,if_false]
    rw[rget _ .a,show v+(aI xs w-v)=aI xs w by lia]
  ·rw[kM]at hw
   have:=P.lt w hw;rw[rlen]
   show(if aI xs w<v then _ else _)<_
   split<;>lia
 have F2:(((aj xs).drop v).map (λx=>A*x+B)++[0]).Pairwise (· > ·):=by
  rw[qL];refine⟨?_,xG _ _,λx hx y hy=>?_⟩
  ·rw[Qp]
   refine(UD F).imp λ{x y} h=>?_
   have:=xm (show y<x from h) hA
   show A*y+B<A*x+B
   grind
  ·obtain⟨z,hz,rfl⟩:=wQ.mp hx
   rw[vc.mp hy];exact posd z hz
 have eV:aj (dh a b xs)=((aj xs).drop v).map (λx=>A*x+B)++[0]:=Bo P2 F2 λc hc=>by
  rw[rlen]at hc;rcases wE c ((aj xs).length-v)with z | z
  ·obtain⟨w,hw,hfw⟩:=pV (xs:=xs) (c:=v+c) .a
   refine⟨w,by rw[kM];exact hw,?_⟩
   show(if aI xs w<v then _ else _)=_
   rw[hfw,if_neg .a]
   lia
  ·obtain⟨w,hw,hfw⟩:=pV m1
   refine⟨w,by rw[kM];exact hw,?_⟩
   show(if aI xs w<v then _ else _)=_
   rw[hfw,if_pos .a]
   lia
 refine⟨v,v1,hv,⟨_,by unfold cK;rw[eR],hs⟩,⟨A,B,hA,eV,posd⟩,by rw[eV];exact P2,kM ..⟩
def m8(xs:.c):List (List Nat):=(aj xs).map (fc xs)
theorem jn(xs:.c):(m8 xs).length=(aj xs).length:=wl ..
theorem zlP{row:.c}(P:iR ys row fl)(F:row.Pairwise (· > ·))(hc:c<row.length):fc ys (row.getD c 0)=bW ys.length fl c:=by
 unfold fc bW;refine vD λw hw=>?_
 have hw:=wH.mp hw;rw[vA,decide_eq_true_eq,decide_eq_true_eq,P.at' w hw]
 constructor
 ·intro h
  rcases Va (fl w) c with z | z | z
  ·have:=A_ F z hc;rw[h]at this;exact absurd this .aB
  ·exact z
  ·have:=A_ F z (P.lt w hw);rw[h]at this;exact absurd this .aB
 ·rintro rfl;rfl
theorem ztM(hc:c<(aj xs).length):(m8 xs).getD c []=seg xs.length (aI xs) c (c+1):=by
 have h:=zlP (lS xs) (kN xs.length xs) hc;unfold m8;rw[wb,wu,wc hc]
 show fc xs (aj xs)[c]=_
 rw[wb,wc hc]at h;have h:fc xs (aj xs)[c]=_:=h;rw[h];unfold bW seg;refine vD λw _=>?_
 rw[vA];simp only[w8,decide_eq_true_eq]
 lia
theorem nj.new{waves:.aF}{v:Nat}(J:nj xs ys waves v):m8 ys=(m8 xs).drop v++[seg xs.length (aI xs) 0 v]:=by
 obtain⟨A,B,hA,eV,pos⟩:=J.vals;have F2:(aj ys).Pairwise (· > ·):=kN ys.length ys;have hlen:(aj ys).length=(aj xs).length-v+1:=by rw[eV];simp
 have v1:=J.v1;have vm:=J.vm;refine W4 (by rw[jn,hlen,wL,Wd,jn];rfl) λc h1 h2=>?_
 rw[jn,hlen]at h1
 have e1:(m8 ys)[c]'(by rw[jn];lia)=bW xs.length (λw=>if aI xs w<v then(aj xs).length-v else aI xs w-v) c:=by
  have:=zlP J.at' F2 (c:=c) .a;rw[J.len]at this;rw[<- this];unfold m8;rw[Vx,wb,wc .a]
  rfl
 rw[e1];rcases wE c ((aj xs).length-v)with z | z
 ·rw[List.getElem_append_left (by rw[Wd,jn];lia),X7]
  have hg:=ztM (xs:=xs) (c:=v+c) .a;rw[wb,wc (by rw[jn];lia)]at hg;have hg:(m8 xs)[v+c]'(by rw[jn];lia)=_:=hg;rw[hg];unfold bW seg;refine vD λw hw=>?_
  have:=(lS xs).lt w (wH.mp hw);rw[vA];simp only[w8,decide_eq_true_eq]
  split<;>lia
 ·rw[List.getElem_append_right (by rw[Wd,jn];lia)]
  have hc:c=(aj xs).length-v:=by lia
  simp only[List.getElem_singleton];unfold bW seg;refine vD λw hw=>?_
  have:=(lS xs).lt w (wH.mp hw);rw[vA];simp only[w8,decide_eq_true_eq]
  split<;>lia
theorem nj.perm{waves:.aF}{v:Nat}(J:nj xs ys waves v):waves.flatten.Perm (seg xs.length (aI xs) 0 v):=by
 obtain⟨ws,e,s⟩:=J.first;rw[e];exact(kO.cons .M s).perm
theorem nj.more{waves:.aF}{v:Nat}(J:nj xs ys waves v):1<waves.length ↔ 1<v:=by
 obtain⟨ws,e,s⟩:=J.first;rw[e];cases s with
 | nil=>simp
 | cons h k=>have:=k.le;simp;lia
theorem yb(F s:Rat):∀n:Nat,az F s n=az F 1 n*s
 | 0=>by show(0:Rat)=0*s;rw[Rat.zero_mul]
 | n+1=>by
  show F*az F s n+s=(F*az F 1 n+1)*s
  rw[yb F s n]
  grind
theorem Bf{k:Nat}{F:Rat}(h:af k F):∀i:Nat,∃T:Int,az F 1 i=wB T (.be^i)/\Bd ((k+1)*i+1) T/\Bd (k*i+1) (.be^i)
 | 0=>⟨0,by simp[az],⟨by simp⟩,⟨by simp⟩⟩
 | i+1=>by
  obtain⟨T,e,bT,bd⟩:=Bf h i;have hd:.be^i≠0:=qt (gG F);have hd1:.be^(i+1)≠0:=qt (gG F);have ed:.be^(i+1)=.be^i*.be:=qd ..
  have bd1:Bd (k*(i+1)+1) (.be^(i+1)):=by
   rw[ed];exact(bd.mul h.b).mono (by rw[Qa];lia)
  refine⟨F.num*T+.be^(i+1),?_,?_,bd1⟩
  ·symm
   refine fT hd1 ?_
   show(F*az F 1 i+1)*_=_
   rw[e];have k1:=dB T hd;have k2:=ki F
   have e1:((F.num*T+.be^(i+1):Int):Rat)=(F.num:Rat)*(T:Rat)+((.be^(i+1):Int):Rat):=by
    rw[qp,vW]
   rw[e1,<- k1,<- k2,ed,vW];generalize ((.be^i:Int):Rat)=D;generalize (.be:Rat)=d;generalize wB T (.be^i)=y
   grind
  ·have h1:(k+1)*(i+1)=(k+1)*i+(k+1):=Qa ..
   have h2:k*(i+1)<=(k+1)*i+k:=by rw[Qa];have:=Wf i (show k<=k+1 by lia);lia
   exact((h.t.mul bT).add bd1).mono .a
theorem Rh{F:Rat}(h:af k F)(i:Nat):af ((k+1)*i+1) (az F 1 i):=by
 obtain⟨T,e,bT,bd⟩:=Bf h i;rw[e];exact af.divInt (qt (gG F)) bT (bd.mono (by have:=Wf i (show k<=k+1 by lia);lia))
def fh(F s:Rat)(n:Nat)(x:Rat):Rat:=F^n*x+az F 1 n*s
theorem mr(F s:Rat)(n:Nat)(x:Rat):fh F s n x=push F s n x:=by
 unfold fh;rw[h9,<- yb]
theorem zBM(F s:Rat)(m n:Nat)(x:Rat):fh F s (m+n) x=fh F s n (fh F s m x):=by
 rw[mr,mr,mr,zAy]
theorem zy3(F s x:Rat):fh F s 0 x=x:=by rw[mr];rfl
theorem F6(F s x:Rat):fh F s 1 x=F*x+s:=by rw[mr];rfl
theorem Jh(n:Nat):az 1 1 n=.bm:=by
 induction n with
 | zero=>rfl
 | succ n ih =>
  have e:(((n+1:Nat):Int):Rat)=.bm+1:=by push_cast;rfl
  show 1*az 1 1 n+1=_
  rw[ih,e];grind
theorem zzp(s:Rat)(n:Nat)(x:Rat):fh 1 s n x=x+wB ((n:Int)*s.num) (s.den:Int):=by
 unfold fh;rw[one_pow',Jh]
 have:wB ((n:Int)*s.num) (s.den:Int)=.bm*s:=by
  refine fT (gG s) ?_;have:=ki s;rw[vW,<- this]
  grind
 rw[this];grind
theorem Jo{F s r:Rat}(h:r*(1-F)=s):∀k:Nat,az F s k=r-F^k*r
 | 0=>by rw[VF,Qx];show(0:Rat)=r-r;grind
 | k+1=>by
  show F*az F s k+s=_
  rw[Jo h k,WS]
  grind
theorem OI{F s r:Rat}(h:r*(1-F)=s)(n:Nat)(x:Rat):fh F s n x=r+F^n*(x-r):=by
 unfold fh;rw[<- yb,Jo h]
 grind
theorem Cm.Nl(c:Cm m (h::xs))(ba:af 10 a)(bb:af 10 b)(n i:Nat):Cm (m+2+21*n) ((h+(1-xs.getD i 0))::d7 a b n xs i):=by
 obtain⟨B,h0,h1,h2⟩:=c
 have hz:∃z:Int,xs.getD i 0=wB z B/\Bd m z:=by
  rcases wE i xs.length with q | q
  ·rw[wb,wc q]
   exact h2 _ (wt _ (We q))
  ·rw[wb,wN q]
   exact⟨0,by simp,⟨by simp;exact Ws m⟩⟩
 obtain⟨z,ez,hz⟩:=hz;have key:=λ(t:Int)(ht:Bd m t)=>yi ba bb h0 (show Bd (m+2) (t+B-z)from((ht.add h1).sub hz).mono .a) (h1.mono .a) n
 have e2:∀t:Int,wB t B+(1-xs.getD i 0)=wB (t+B-z) B:=λt=>by
  rw[ez]
  symm
  refine fT .a ?_;have q1:=dB t (show B≠0 by lia);have q2:=dB z (show B≠0 by lia);have q3:((t+B-z:Int):Rat)=(t:Rat)+(B:Rat)-(z:Rat):=by push_cast;rfl
  rw[q3,<- q1,<- q2]
  grind
 obtain⟨p1,p2,_⟩:=key 0 ⟨by simp;exact Ws m⟩;refine⟨_,p1,p2,λx hx=>?_⟩;rcases wG.mp hx with rfl | hx
 ·obtain⟨t,et,ht⟩:=h2 h .bn
  have hd:(0:Int)<(.D*.aU)^n:=uk (Wa (den_pos a) (den_pos b));refine⟨(t+B-z)*(.D*.aU)^n,?_,Ag ba bb (((ht.add h1).sub hz).mono .a) n⟩;rw[et,e2 t];exact sO h0 hd
 ·have hx':x=0 \/ ∃y∈xs,x=push a b n (y+(1-xs.getD i 0)):=by
   unfold d7 at hx;rcases xu hx with q | q
   ·obtain⟨y,hy,rfl⟩:=wQ.mp q
    exact .inr ⟨y,hy,rfl⟩
   ·exact .inl q
  rcases hx' with rfl | ⟨y,hy,rfl⟩
  ·exact⟨0,by simp,⟨by simp;exact Ws _⟩⟩
  ·obtain⟨t,rfl,ht⟩:=h2 y (wt _ hy)
   obtain⟨_,_,T,e,hT⟩:=key t ht;rw[e2 t];exact⟨T,e,hT⟩
theorem Cm.yM{m:Nat}{xs:.c}{a b:Rat}{ns:.p}(c:.bB)(ba:af 10 a)(bb:af 10 b):∀k,k<=ns.length->Cm (m+2*k+21*upTo ns k) (dW a b ns xs k::aP a b ns xs k)
 | 0,_=>(c.mono .a).gI λy hy=>by
  rcases wG.mp hy with rfl | hy
  ·exact .inr rfl
  ·exact .inl hy
 | k+1,hk=>by
  have:=(Cm.yM c ba bb (ns:=ns) k .a).Nl ba bb (ns.getD k 0).toNat k;rw[aP,dW];refine this.mono ?_;rw[pf .a]
  lia
def dX(c:Rat)(xs ys:.c):List Rat:=List.zipWith (λx y=>x+c*(y-x)) xs ys
theorem ly{c:Rat}(h:.Z):(dX c xs ys).length=xs.length:=by unfold dX;rw[XB];lia
theorem jf{c:Rat}(h:.Z)(hi:i<xs.length):(dX c xs ys).getD i 0=xs.getD i 0+c*(ys.getD i 0-xs.getD i 0):=by
 unfold dX;rw[wb,wc (by rw[XB];lia),List.getElem_zipWith,wb,wc hi,wb,wc .a]
 rfl
theorem hV(hl:.Z)(h:∀i,i<xs.length->xs.getD i 0=ys.getD i 0):xs=ys:=W4 hl λi h1 h2=>by
 have:=h i h1;rw[wb,wb,wc h1,wc h2]at this;exact this
theorem zBQ(a b:Rat)(n:Nat)(c:Rat)(h:.Z)(hi:i<xs.length):d7 a b n (dX c xs ys) i=dX c (d7 a b n xs i) (d7 a b n ys i):=by
 have hl:=ly (c:=c) h;refine hV (by rw[iZ,hl,ly (by rw[iZ,iZ];exact h),iZ]) λj hj=>?_
 rw[iZ,hl]at hj;have hg:=jf (c:=c) (xs:=d7 a b n xs i) (ys:=d7 a b n ys i) (by rw[iZ,iZ];exact h) (i:=j) (by rw[iZ];exact hj);rw[hg,gM _ _ _ _ _ _ .a,gM _ _ _ _ _ _ hj,gM _ _ _ _ _ _ (show j<ys.length by lia)]
 by_cases z:j=i
 ·rw[if_pos z,if_pos z,if_pos z];grind
 ·rw[if_neg z,if_neg z,if_neg z,jf h hj,jf h hi,h9,h9,h9]
  grind
theorem Dl(a b:Rat)(ns:.p)(c:Rat){xs ys:.c}(h:.Z):∀k,k<=xs.length->aP a b ns (dX c xs ys) k=dX c (aP a b ns xs k) (aP a b ns ys k)
 | 0,_=>rfl
 | k+1,hk=>by
  have ih:=Dl a b ns c h k .a;rw[aP,ih,aP,aP];exact zBQ a b _ c (by rw[dy,dy];exact h) (by rw[dy];lia)
theorem N_(a b:Rat)(ns:.p)(c:Rat){xs ys:.c}(h:.Z):∀k,k<=xs.length->dW a b ns (dX c xs ys) k=dW a b ns xs k+c*(dW a b ns ys k-dW a b ns xs k)
 | 0,_=>by show(0:Rat)=0+c*(0-0);grind
 | k+1,hk=>by
  rw[dW,dW,dW,N_ a b ns c h k .a,Dl a b ns c h k .a,jf (by rw[dy,dy];exact h) (by rw[dy];lia)]
  grind
theorem HA(c:Rat)(h:.Z):dX c .bi (ys++[0])=dX c xs ys++[0]:=by
 unfold dX;rw[List.zipWith_append h]
 show _++[0+c*(0-0)]=_
 congr 2
 grind
def cP(a b:Rat)(ns:.p)(xs:.c):Rat:=dW a b ns .bi ns.length
theorem Ig(c:Rat)(hn:.z)(h:.Z):cP a b ns (dX c xs ys)=cP a b ns xs+c*(cP a b ns ys-cP a b ns xs):=by
 unfold cP;rw[<- HA c h];exact N_ a b ns c (by simp[h]) _ .aL
def sumTo(f:Nat->Rat):Nat->Rat
 | 0=>0
 | n+1=>sumTo f n+f n
theorem oh{f g:Nat->Rat} : ∀n,(∀k,k<n->f k=g k)->sumTo f n=sumTo g n
 | 0,_=>rfl
 | n+1,h=>by rw[sumTo,sumTo,oh n λk hk=>h k .a,h n .a]
theorem zA(c:Rat)(f:Nat->Rat):∀n,sumTo (λk=>c*f k) n=c*sumTo f n
 | 0=>by show(0:Rat)=c*0;grind
 | n+1=>by rw[sumTo,sumTo,zA c f n];grind
theorem Eh(f g:Nat->Rat):∀n,sumTo (λk=>f k+g k) n=sumTo f n+sumTo g n
 | 0=>by show(0:Rat)=0+0;grind
 | n+1=>by rw[sumTo,sumTo,sumTo,Eh f g n];grind
theorem znH(c:Rat):∀n:Nat,sumTo (λ_=>c) n=.bm*c
 | 0=>by show(0:Rat)=((0:Int):Rat)*c;grind
 | n+1=>by
  have e:(((n+1:Nat):Int):Rat)=.bm+1:=by push_cast;rfl
  rw[sumTo,znH c n,e];grind
theorem DV(F:Rat):∀n,sumTo (λk=>F^k) n=az F 1 n
 | 0=>rfl
 | n+1=>by
  rw[sumTo,DV F n]
  have:∀m,az F 1 m*F+1=az F 1 m+F^m:=λm=>by
   induction m with
   | zero=>rw[VF];show(0:Rat)*F+1=0+1;grind
   | succ m ih =>
    show(F*az F 1 m+1)*F+1=(F*az F 1 m+1)+F^(m+1)
    rw[WS]
    grind
  have:=this n
  show az F 1 n+F^n=F*az F 1 n+1
  grind
theorem RT{a b:Rat}{ns:.p}{L:Nat}(hn:ns.length=L+1)(X:Nat->List Rat)(hX:∀k,(X k).length=L):∀(n:Nat)(M:.c),1<=n->M.length=L->(∀i,i<L->M.getD i 0*.bm=sumTo (λk=>(X k).getD i 0) n)->.bm*cP a b ns M=sumTo (λk=>cP a b ns (X k)) n
 | 0,M,h,_,_=>by lia
 | n+1,M,_,hM,hs=>by
  have en:(((n+1:Nat):Int):Rat)=.bm+1:=by push_cast;rfl
  by_cases z:n=0
  ·subst z
   have e1:(((0+1:Nat):Int):Rat)=1:=by decide
   have:M=X 0:=hV (by rw[hM,hX]) λi hi=>by
    have:=hs i .a;rw[e1]at this;have e2:sumTo (λk=>(X k).getD i 0) (0+1)=(X 0).getD i 0:=by rw[sumTo,sumTo];grind
    rw[e2]at this
    grind
   rw[this,e1]
   show 1*cP a b ns (X 0)=0+cP a b ns (X 0)
   grind
  ·have hn0:.bm≠0:=λe=>z (by have:=Vt.mp e;lia)
   have hn1:.bm+1≠0:=λe=>by
    rw[<- en]at e;have:=Vt.mp e
    lia
   let M':List Rat:=(wp L).map λi=>sumTo (λk=>(X k).getD i 0) n / .bm
   have hl':M'.length=L:=by simp[M']
   have g':∀i,i<L->M'.getD i 0=sumTo (λk=>(X k).getD i 0) n / .bm:=λi hi=>by
    show((wp L).map λi=>sumTo (λk=>(X k).getD i 0) n / .bm).getD i 0=_
    rw[wb,wu,vM hi];rfl
   have ih:=RT (a:=a) (b:=b) hn X hX n M' .a hl' λi hi=>by rw[g' i hi];exact WA hn0
   have eM:M=dX (1 / (.bm+1)) M' (X n):=hV (by rw[hM,ly (by rw[hl',hX]),hl']) λi hi=>by
    rw[jf (by rw[hl',hX]) .a,g' i .a];have h1:=hs i .a;rw[en,sumTo]at h1;generalize sumTo (λk=>(X k).getD i 0) n=S at *;generalize (X n).getD i 0=y at *;generalize M.getD i 0=m at *;generalize .bm=N at *;have k1:S / N*N=S:=WA hn0;have k2:1 / (N+1)*(N+1)=1:=WA hn1;generalize S / N=q at *;generalize 1 / (N+1)=r at *;have:(m-(q+r*(y-q)))*(N+1)=0:=by grind
    rcases QL.mp this with h | h
    ·grind
    ·exact absurd h hn1
   rw[eM,Ig _ .a (by rw[hl',hX]),sumTo,<- ih,en];generalize cP a b ns M'=A;generalize cP a b ns (X n)=B;generalize .bm=N at *;have k2:1 / (N+1)*(N+1)=1:=WA hn1;generalize 1 / (N+1)=r at *
   grind
end GM
namespace L2
open PySem PySem.Spec PyProof.Rows GM
section
variable{K:wa}{H H' H2:Hp}{a p:we}{xs ys:.x}{o:HO}
theorem ar.upd(h:H p=none):ar H (upd H p o):=λb u e=>by
 rw[eY (lT e h)];exact e
theorem ar.j_(s:ar H H')(h:aV K H a xs):aV K H' a xs:=by
 rcases h with(h | ⟨o,h⟩) | h
 ·exact .inl (.inl (s _ _ h))
 ·exact .inl (.inr ⟨o,s _ _ h⟩)
 ·exact .inr h
structure bC(H H':Hp):Prop where
 t:∀b xs,H b=some (.tup xs)->H' b=some (.tup xs)
 f:∀b o u,H b=some (.gT o u)->H' b=some (.gT o u)
theorem ar.keep(s:ar H H'):bC H H':=⟨λb xs h=>s _ _ h,λb o u h=>s _ _ h⟩
theorem bC.refl(H:Hp):bC H H:=(ar.refl H).keep
theorem bC.trans(a:bC H H')(b:bC H' H2):bC H H2:=⟨λc xs h=>b.t _ _ (a.t _ _ h),λc o u h=>b.f _ _ _ (a.f _ _ _ h)⟩
theorem bC.j_(k:bC H H')(h:aV K H a xs):aV K H' a xs:=by
 rcases h with(h | ⟨o,h⟩) | h
 ·exact .inl (.inl (k.t _ _ h))
 ·exact .inl (.inr ⟨o,k.f _ _ _ h⟩)
 ·exact .inr h
def jN(K:wa)(H:Hp)(a:we)(xs:.x):Prop :=
 (∃o,H a=some (.gT o (.lst xs))) \/
  ∃(o:Obj)(its:.as)(n:Nat),K.lookup a=some o/\o.cls=.type "list"/\o.dict=none/\o.data=.seq its n/\its.size<=vd/\aU xs its.toList
theorem jN.sq(h:jN K H a xs):aE K H a xs:=by
 rcases h with⟨o,h⟩ | h
 ·exact .inl (.inr ⟨o,h⟩)
 ·exact .inr h
theorem bC.rh(k:bC H H')(h:jN K H a xs):jN K H' a xs:=by
 rcases h with⟨o,h⟩ | h
 ·exact .inl ⟨o,k.f _ _ _ h⟩
 ·exact .inr h
def Exc(p:we)(H H':Hp):Prop:=∀b o,b≠p->H b=some o->H' b=some o
theorem Exc.keep(e:Exc p H H')(h:H p=some (.lst xs)):bC H H' :=
 ⟨λb ys hb=>e b _ (Om hb h (by intro z;cases z)) hb,λb o u hb=>e b _ (Om hb h (by intro z;cases z)) hb⟩
theorem ar.exc(s:ar H H'):Exc p H H':=λb o _ h=>s b o h
theorem Exc.refl(p:we)(H:Hp):Exc p H H:=λ_ _ _ h=>h
theorem Exc.trans(a:Exc p H H')(b:Exc p H' H2):Exc p H H2:=λc o n h=>b c o n (a c o n h)
theorem Exc.upd(p:we)(H:Hp)(o:HO):Exc p H (upd H p o):=λb u n h=>by
 rw[eY n];exact h
theorem Exc.at(e:Exc p H H'){q:we}{u:HO}(n:q≠p)(h:H q=some u):H' q=some u:=e q u n h
end
mutual
def Is(K:wa)(H:Hp):V->wC->Prop
 | v,.none=>v=.bE
 | v,.bool b=>v=.bl b
 | v,.int i=>v=.int i
 | v,.str x=>v=.str x
 | v,.tuple ds=>∃a xs,v=.ref a/\aV K H a xs/\ai K H xs ds
 | v,.list ds=>∃a xs,v=.ref a/\aE K H a xs/\ai K H xs ds
 | v,.dict _=>∃a kvs,v=.ref a/\H a=some (.dK kvs)
def ai(K:wa)(H:Hp):List V->List wC->Prop
 | xs,[]=>xs=[]
 | xs,d::ds=>∃x r,xs=x::r/\Is K H x d/\ai K H r ds
end
section
variable{K:wa}{H H':Hp}{v:V}{xs:.x}{ds:.br}{d:wC}
theorem cf{i:Int} : Is K H v (.int i) ↔ v=.int i:=by rw[Is]
theorem kX{b:Bool} : Is K H v (.bool b) ↔ v=.bl b:=by rw[Is]
theorem eU{x:Str} : Is K H v (.str x) ↔ v=.str x:=by rw[Is]
theorem kK:Is K H v .none ↔ v=.bE:=by rw[Is]
theorem bY:Is K H v .av ↔ ∃a xs,v=.ref a/\aV K H a xs/\ai K H xs ds:=by rw[Is]
theorem cq:Is K H v (.list ds) ↔ ∃a xs,v=.ref a/\aE K H a xs/\ai K H xs ds:=by rw[Is]
theorem BA{kv:List (wC × wC)} : Is K H v (.dict kv) ↔ ∃a kvs,v=.ref a/\H a=some (.dK kvs):=by rw[Is]
theorem gq:ai K H xs [] ↔ xs=[]:=by rw[ai]
theorem d5:ai K H xs (d::ds) ↔ ∃x r,xs=x::r/\Is K H x d/\ai K H r ds:=by rw[ai]
theorem ai.cons(h:.bH)(t:ai K H xs ds):ai K H (v::xs) (d::ds):=d5.mpr ⟨v,xs,rfl,h,t⟩
theorem ai.nil:ai K H [] []:=gq.mpr rfl
theorem ai.length:∀{ds:.br}{xs:.x},ai K H xs ds->xs.length=ds.length
 | [],_,h=>by rw[gq.mp h];rfl
 | d::ds,_,h=>by
  obtain⟨x,r,rfl,_,t⟩:=d5.mp h;rw[vK,vK,ai.length t]
theorem ai.get:∀{ds:.br}{xs:.x}{i:Nat}{d:wC},ai K H xs ds->ds[i]? = some d->∃x,xs[i]? = some x/\Is K H x d
 | [],_,_,_,_,e=>by simp at e
 | d::ds,_,0,_,h,e=>by
  obtain⟨x,r,rfl,q,_⟩:=d5.mp h;simp at e;subst e;exact⟨x,rfl,q⟩
 | d::ds,_,i+1,d',h,e=>by
  obtain⟨x,r,rfl,_,t⟩:=d5.mp h;obtain⟨y,h1,h2⟩:=ai.get (i:=i) t (by simpa using e);exact⟨y,by simpa using h1,h2⟩
theorem ai.append:∀{ds es:.br}{xs ys:.x},ai K H xs ds->ai K H ys es->ai K H (xs++ys) (ds++es)
 | [],_,_,_,h,t=>by rw[gq.mp h];exact t
 | d::ds,_,_,_,h,t=>by
  obtain⟨x,r,rfl,q,u⟩:=d5.mp h;exact .cons q (ai.append u t)
mutual
theorem Is.same(s:ar H H'):∀(d:wC)(v:V),Is K H v d->Is K H' v d
 | .none,v,h=>by rw[kK]at h ⊢;exact h
 | .bool _,v,h=>by rw[kX]at h ⊢;exact h
 | .int _,v,h=>by rw[cf]at h ⊢;exact h
 | .str _,v,h=>by rw[eU]at h ⊢;exact h
 | .tuple ds,v,h=>by
  obtain⟨a,xs,e,q,t⟩:=bY.mp h;exact bY.mpr ⟨a,xs,e,s.j_ q,ai.same s ds xs t⟩
 | .list ds,v,h=>by
  obtain⟨a,xs,e,q,t⟩:=cq.mp h;exact cq.mpr ⟨a,xs,e,s.seq q,ai.same s ds xs t⟩
 | .dict _,v,h=>by
  obtain⟨a,kvs,e,q⟩:=BA.mp h;exact BA.mpr ⟨a,kvs,e,s _ _ q⟩
theorem ai.same(s:ar H H'):∀(ds:.br)(xs:.x),ai K H xs ds->ai K H' xs ds
 | [],xs,h=>by rw[gq]at h ⊢;exact h
 | d::ds,xs,h=>by
  obtain⟨x,r,e,q,t⟩:=d5.mp h;exact d5.mpr ⟨x,r,e,Is.same s d x q,ai.same s ds r t⟩
end
end
mutual
def dC:wC->Bool
 | .none=>true
 | .bool _=>true
 | .int _=>true
 | .str _=>true
 | .tuple ds=>cg ds
 | .list _=>false
 | .dict _=>false
def cg:List wC->Bool
 | []=>true
 | d::ds=>dC d&&cg ds
end
section
variable{K:wa}{H H':Hp}
mutual
theorem Is.keep(k:bC H H'):∀(d:wC)(v:V),dC d=true->Is K H v d->Is K H' v d
 | .none,v,_,h=>by rw[kK]at h ⊢;exact h
 | .bool _,v,_,h=>by rw[kX]at h ⊢;exact h
 | .int _,v,_,h=>by rw[cf]at h ⊢;exact h
 | .str _,v,_,h=>by rw[eU]at h ⊢;exact h
 | .tuple ds,v,i,h=>by
  obtain⟨a,xs,e,q,t⟩:=bY.mp h;exact bY.mpr ⟨a,xs,e,k.j_ q,ai.keep k ds xs (by rw[dC]at i;exact i) t⟩
 | .list ds,v,i,h=>by rw[dC]at i;cases i
 | .dict _,v,i,h=>by rw[dC]at i;cases i
theorem ai.keep(k:bC H H'):∀(ds:.br)(xs:.x),cg ds=true->ai K H xs ds->ai K H' xs ds
 | [],xs,_,h=>by rw[gq]at h ⊢;exact h
 | d::ds,xs,i,h=>by
  obtain⟨x,r,e,q,t⟩:=d5.mp h;rw[cg,w8]at i;exact d5.mpr ⟨x,r,e,Is.keep k d x i.1 q,ai.keep k ds r i.2 t⟩
end
end
def N(r:Rat):wC:=.tuple [.int r.num,.int (r.den:Int)]
theorem lH(r:Rat):dC (N r)=true:=by simp[N,dC,cg]
section
variable{K:wa}{H H':Hp}{v:V}{r:Rat}
theorem pk:Is K H v (N r) ↔ ∃a,v=.ref a/\aV K H a [.int r.num,.int (r.den:Int)]:=by
 unfold N;rw[bY]
 constructor
 ·rintro ⟨a,xs,e,q,t⟩
  obtain⟨x,r1,rfl,q1,t⟩:=d5.mp t;obtain⟨y,r2,rfl,q2,t⟩:=d5.mp t;rw[gq.mp t,cf.mp q1,cf.mp q2]at q;exact⟨a,e,q⟩
 ·rintro ⟨a,e,q⟩
  exact⟨a,_,e,q,.cons .bw (.cons .bw .nil)⟩
end
section
variable{X:Cx}{pins:.l}{σ : St}{H:Hp}{s:wm}
mutual
theorem Inv.reads(I:.n):∀(d:wC)(v:V)(u:wf),d.canLay0=true->Is X.K H v d->bK v u->∃as,Reads s.heap u d as
 | .none,v,u,_,h,r=>by
  cases kK.mp h;cases (show u=Value.none from r);exact⟨_,.none⟩
 | .bool b,v,u,_,h,r=>by
  cases kX.mp h;cases (show u=Value.bool b from r);exact⟨_,.bool b⟩
 | .int i,v,u,_,h,r=>by
  cases cf.mp h;obtain⟨t,e⟩:=(show ∃t,u=Value.int i t from r);cases e;exact⟨_,.int i t⟩
 | .str x,v,u,_,h,r=>by
  cases eU.mp h;obtain⟨t,e⟩:=(show ∃t,u=Value.str x t from r);cases e;exact⟨_,.str x t⟩
 | .tuple ds,v,u,c,h,r=>by
  obtain⟨a,xs,e,q,t⟩:=bY.mp h;subst e;cases (show u=Value.ref a from r);obtain⟨its,rv,⟨o,e1,e2,n,e3⟩,_⟩:=I.tuple q;obtain⟨as,ra⟩:=Inv.readsAll I ds xs its (by rw[vy]at c;exact c) t rv;exact⟨_,.tuple e1 e2 e3 (by simpa using ra)⟩
 | .list ds,v,u,c,h,r=>by
  obtain⟨a,xs,e,q,t⟩:=cq.mp h;subst e;cases (show u=Value.ref a from r);obtain⟨its,rv,⟨o,n,e1,e2,_,e3⟩,_⟩:=I.list q;obtain⟨as,ra⟩:=Inv.readsAll I ds xs its (by rw[vy]at c;exact c) t rv;exact⟨_,.list e1 e2 e3 (by simpa using ra)⟩
 | .dict _,v,u,c,h,r=>by rw[vy]at c;cases c
theorem Inv.readsAll(I:.n):∀(ds:.br)(xs:.x)(us:.J),Wl ds=true->ai X.K H xs ds->aU xs us->∃as,ReadsAll s.heap us ds as
 | [],xs,us,_,h,r=>by
  rw[gq.mp h]at r;cases r;exact⟨_,.nil⟩
 | d::ds,xs,us,c,h,r=>by
  obtain⟨x,l,e,q,t⟩:=d5.mp h;subst e;rw[Wl,w8]at c;cases r with
  | cons r1 r2 =>
   obtain⟨as,h1⟩:=Inv.reads I d x _ c.1 q r1;obtain⟨bs,h2⟩:=Inv.readsAll I ds l _ c.2 t r2;exact⟨_,.cons h1 h2⟩
end
end
section
variable{X:Cx}
open PySem.SeqAt (shaped)
variable{K:wa}
def iE(K:wa):R2:=λx y H Q=>∃d e,Is K H x d/\Is K H y e/\shaped d=true/\shaped e=true/\Q (.bl (wR d e)) H
def lZ(K:wa):R2:=λx y H Q=>∃d e,Is K H x d/\Is K H y e/\shaped d=true/\shaped e=true/\Q (.bl (!PyData.eqv d e)) H
theorem Pf(hu:X.A.units+64<WC):bL X (vG .Eq) (iE X.K):=by
 intro pins s σ H x y v u Q I rx ry h;obtain⟨d,e,hd,he,sd,se,q⟩:=h;obtain⟨as,h1⟩:=I.reads d x v (Vy sd) hd rx;obtain⟨bs,h2⟩:=I.reads e y u (Vy se) he ry;exact eq_dataH h1 h2 sd se hu ⟨.bl _,H,I,rfl,q⟩
theorem zFu(hu:X.A.units+64<WC):bL X (vG .NotEq) (lZ X.K):=by
 intro pins s σ H x y v u Q I rx ry h;obtain⟨d,e,hd,he,sd,se,q⟩:=h;obtain⟨as,h1⟩:=I.reads d x v (Vy sd) hd rx;obtain⟨bs,h2⟩:=I.reads e y u (Vy se) he ry;exact ne_dataH h1 h2 sd se hu ⟨.bl _,H,I,rfl,q⟩
theorem bK.Mt{x:V}{v:wf}(r:bK x v)(c:Bool):(v == Value.bool c)=decide (x=.bl c):=by
 cases x with
 | bE=>cases (show v=Value.none from r);rfl
 | bl b=>cases (show v=Value.bool b from r);cases b<;>cases c<;>rfl
 | int _=>obtain⟨t,rfl⟩:=r;rfl
 | str _=>obtain⟨t,rfl⟩:=r;rfl
 | byt _=>obtain⟨t,rfl⟩:=r;rfl
 | flt _=>obtain⟨t,rfl⟩:=r;rfl
 | ref _=>cases r;rfl
 | ty _=>cases r;rfl
theorem bK.LC{x:V}{v:wf}(r:bK x v)(c:Bool):plainIs v (Value.bool c)=true:=by
 cases x with
 | bE=>cases (show v=Value.none from r);rfl
 | bl b=>cases (show v=Value.bool b from r);rfl
 | int _=>obtain⟨t,rfl⟩:=r;rfl
 | str _=>obtain⟨t,rfl⟩:=r;rfl
 | byt _=>obtain⟨t,rfl⟩:=r;rfl
 | flt _=>obtain⟨t,rfl⟩:=r;rfl
 | ref _=>cases r;rfl
 | ty _=>cases r;rfl
def R7:R2:=λx y H Q=>(∃c,y=.bl c/\Q (.bl (decide (x=.bl c))) H)\/(y=.bE/\Q (.bl (decide (x=.bE))) H)
def Y6:R2:=λx y H Q=>(∃c,y=.bl c/\Q (.bl (!decide (x=.bl c))) H)\/(y=.bE/\Q (.bl (!decide (x=.bE))) H)
theorem EX :bL X (vG .Is) R7:=by
 intro pins s σ H x y v u Q I rx ry h;rcases h with⟨c,e,q⟩ | h
 ·subst e
  cases (show u=Value.bool c from ry);exact wpAny_is_plain (rx.LC c) (yR I q (rx.Mt c).symm)
 ·exact zFU pins s σ H x y v u Q I rx ry h
theorem PN :bL X (vG .IsNot) Y6:=by
 intro pins s σ H x y v u Q I rx ry h;rcases h with⟨c,e,q⟩ | h
 ·subst e
  cases (show u=Value.bool c from ry);exact wpAny_isNot_plain (rx.LC c) (yR I q (congrArg not (rx.Mt c).symm))
 ·exact zDw pins s σ H x y v u Q I rx ry h
def kindOf:wC->String
 | .none=>"NoneType"
 | .bool _=>"bool"
 | .int _=>"int"
 | .str _=>"str"
 | .tuple _=>"tuple"
 | .list _=>"list"
 | .dict _=>"dict"
def fg(K:wa):List V->Hp->VK->Prop:=λxs H Q=>∃x T d b,xs=[x,.ty T]/\Is K H x d/\V7 K (.type (kindOf d)) (.type T)=some b/\Q (.bl b) H
theorem kq :bM X .ao (fg X.K):=by
 intro pins s σ H xs us Q I r h;obtain⟨x,T,d,b,rfl,hd,e,q⟩:=h;obtain⟨u,w',rfl,rx,rt⟩:=oo r;cases (show w'=Value.type T from rt);have fin:∀tk,EP X pins σ Q (.bool b) {s with toks:=tk}:=λtk=>⟨.bl b,H,I.tok _,rfl,q⟩
 cases d with
 | none =>
  cases kK.mp hd;cases (show u=Value.none from rx);exact VN X8 I.eF True.intro e (λz=>nomatch z) fin
 | bool y =>
  cases kX.mp hd;cases (show u=Value.bool y from rx);exact VN X9 I.eF True.intro e (λz=>nomatch z) fin
 | int i =>
  cases cf.mp hd;obtain⟨t,q⟩:=(show ∃t,u=Value.int i t from rx);cases q;exact VN uF I.eF True.intro e (λz=>nomatch z) fin
 | str y =>
  cases eU.mp hd;obtain⟨t,q⟩:=(show ∃t,u=Value.str y t from rx);cases q;exact VN uG I.eF True.intro e (λz=>nomatch z) fin
 | tuple ds =>
  obtain⟨a,xs,e1,hq,_⟩:=bY.mp hd;subst e1;cases (show u=Value.ref a from rx);obtain⟨its,_,⟨o,h1,h2,_⟩,_⟩:=I.tuple hq;exact VN XS I.eF ⟨o,h1,h2⟩ e (λz=>nomatch z) fin
 | list ds =>
  obtain⟨a,xs,e1,hq,_⟩:=cq.mp hd;subst e1;cases (show u=Value.ref a from rx);obtain⟨its,_,⟨o,n,h1,h2,_⟩,_⟩:=I.list hq;exact VN ua I.eF ⟨o,h1,h2⟩ e (λz=>nomatch z) fin
 | dict kv =>
  obtain⟨a,kvs,e1,hq⟩:=BA.mp hd;subst e1;cases (show u=Value.ref a from rx);obtain⟨_,_,vs,_,o,es,ep,h1,h2,_⟩:=(show d8 X.prog X.w H s.heap a (.dK kvs)from I.aO a _ hq);exact VN ub I.eF ⟨o,h1,h2.1⟩ e (λz=>nomatch z) fin
def isA(T:.ar)(d:wC):Bool:=(kindOf d == T) || (kindOf d == "bool"&&T == "int")
theorem zDn(d:wC):V7 K (.type (kindOf d)) (.type "int")=some (isA "int" d):=by cases d<;>rfl
theorem zBK(d:wC):V7 K (.type (kindOf d)) (.type "bool")=some (isA "bool" d):=by cases d<;>rfl
theorem zyw(d:wC):V7 K (.type (kindOf d)) (.type "tuple")=some (isA "tuple" d):=by cases d<;>rfl
theorem zAY(d:wC):V7 K (.type (kindOf d)) (.type "list")=some (isA "list" d):=by cases d<;>rfl
theorem zDF(d:wC):V7 K (.type (kindOf d)) (.type "str")=some (isA "str" d):=by cases d<;>rfl
theorem aaD{m n:Nat}{i j:Int}(h:Bd m i)(k:Bd n j)(hm:m<=1000000)(hn:n<=1000000):IntMulOk i j:=by
 have f:∀{m:Nat}{i:Int},Bd m i->m<=1000000->XC i<=2^20:=by
  intro m i h hm;have e:(2:Nat)^20=1048576:=by decide
  have l:=(h.mono (Nat.le_succ m)).log (QN m);unfold XC
  split<;>lia
 exact .of_bits (f h hm) (f k hn)
theorem cU :bL X (WQ .Mult) (rI IntMulOk λi j=>.int (i*j)):=B5 λ_ _ _ _ _ _ _ hc q=>mul_int q hc
def oX(_ j:Int):Prop:=j≠0/\Bd 8999 j
theorem fz :bL X (WQ .FloorDiv) (rI oX λi j=>.int (i.fdiv j)):=B5 λ_ _ _ _ _ _ _ hc q =>
 floordiv_int hc.1 q (.inl (PyProof.noPylong_of_log2 (VY (hc.2.log .M))))
theorem zCK :bL X (WQ .Add) (λx y H Q=>(jR λi j=>.int (i+j)) x y H Q\/(GP x y H Q \/ ∃i j,x=.str i/\y=.str j/\i.length+j.length<=vd/\Q (.str (i++j)) H)):=zFy.or (zFd.or zw3)
end
theorem Zn:vL "len"=some (.builtin "len"):=by decide +kernel
theorem nq:vL "abs"=some (.builtin "abs"):=by decide +kernel
theorem jY:vL "isinstance"=some .ao:=by decide +kernel
theorem zES:vL "int"=some (.type "int"):=by decide +kernel
theorem Zs:vL "bool"=some (.type "bool"):=by decide +kernel
theorem zFS:vL "str"=some (.type "str"):=by decide +kernel
theorem nv:vL "tuple"=some (.type "tuple"):=by decide +kernel
theorem h_:vL "list"=some (.type "list"):=by decide +kernel
def nF(K:wa)(xs:.x)(H:Hp)(Q:VK):Prop:=xs.length<=vd /\ ∀p,H p=none->Q .aA (upd H p (.tup xs))
def IE(K:wa)(xs:.x)(H:Hp)(Q:VK):Prop:=xs.length<=vd /\ ∀p,H p=none->Q .aA (upd H p (.lst xs))
def mf(K:wa)(t:TA):TE:=λσ H Q=>t σ H λxs H1=>nF K xs H1 Q
def zEn(K:wa)(t:TA):TE:=λσ H Q=>t σ H λxs H1=>IE K xs H1 Q
def Fy:R2:=λx y H Q=>(jR λi j=>.int (i+j)) x y H Q\/(GP x y H Q \/ ∃i j,x=.str i/\y=.str j/\i.length+j.length<=vd/\Q (.str (i++j)) H)
def zGX:List V->Hp->VK->Prop:=λxs H Q=>∃i:Int,xs=[.int i]/\Q (.int (if i<0 then -i else i)) H
def kr(K:wa):List V->Hp->VK->Prop:=λxs H Q=>∃p ys,xs=[.ref p]/\(aE K H p ys\/aV K H p ys)/\Q (.int ys.length) H
section
variable{X:Cx}{e:Expr}{es:.ak}{te:TE}{t:TA}{pos:Pos}
theorem aS{x1}(h:PA X es t):PE X (.Tuple es x1 pos) (mf X.K t):=zF4 h
theorem dG(h:PA X es t):PE X (.List es pos) (zEn X.K t):=zFq h
theorem cN:bL X (WQ .Add) Fy:=zCK
theorem nC:bM X (.builtin "abs") zGX:=zzS
theorem zzK:bM X (.builtin "len") (kr X.K):=zsq
theorem nI{x:Str}{i:Int}{pos:Pos}(hg:Gl X x)(hm:∃t,X.mg x=some (.int i t))(hd:.ay=false:=by decide):PE X (.Name x pos) (tC (.int i)):=by
 obtain⟨t,hm⟩:=hm;exact ck hg hm ⟨t,rfl⟩ hd
end
section
variable{K:wa}{σ : St}{H H':Hp}{Q:VK}{QA:List V->Hp->Prop}{QB:Bool->Hp->Prop}{QS:St->Hp->Prop}{QH:Hp->Prop}{D:c_}{ta tb te:TE}{tt tu:TT}{t tr:TA}{s1 s2:TS}{g:TG}{gs:kS}{r:R2}{v w:V}{xs ys:.x}{i:Nat}{m n:Int}
variable{j:Nat}{p:we}{ds:.br}{A B:Prop}
theorem zFr(h : σ[i]? = some (some v))(q:Q v H):jd i σ H Q:=nVo h q
theorem zHk(q:Q v H):tC v σ H Q:=q
theorem zGh(h:ta σ H λx H1=>tb σ H1 λy H2=>r x y H2 Q):jT r ta tb σ H Q:=h
theorem dq15{u:V->Hp->VK->Prop}:(RH u ta σ H Q)=(ta σ H λx H1=>u x H1 Q):=rfl
theorem zGr{u:V->Hp->VK->Prop}(h:ta σ H λx H1=>u x H1 Q):RH u ta σ H Q:=h
theorem zE8(h:t σ H λxs H1=>nF K xs H1 Q):mf K t σ H Q:=h
theorem dq14:(zEn K t σ H Q)=(t σ H λxs H1=>IE K xs H1 Q):=rfl
theorem zFH(h:t σ H λxs H1=>IE K xs H1 Q):zEn K t σ H Q:=h
theorem zFz(q:QA [] H):pH σ H QA:=q
theorem zCG(h:te σ H λx H1=>tr σ H1 λxs H2=>QA (x::xs) H2):lG te tr σ H QA:=h
theorem zCT{sp:Sp}{E:XK}(h:t σ H λvs H1=>sp vs H1 Q E):yh sp [] E t σ H Q:=by
 simpa only[yh,vS] using h
theorem dq13{u:List V->Hp->VK->Prop}:(sI u t σ H Q)=(t σ H λvs H1=>u vs H1 Q):=rfl
theorem zGV{u:List V->Hp->VK->Prop}(h:t σ H λvs H1=>u vs H1 Q):sI u t σ H Q:=h
theorem zDQ(h:te σ H λx H'=>∃k,x=.bl k/\QB k H'):tK te σ H QB:=h
theorem dq12:(tB te σ H QB)=(te σ H λx H'=>∃k,x=.bl k/\QB k H'):=rfl
theorem zGp(h:te σ H λx H'=>∃k,x=.bl k/\QB k H'):tB te σ H QB:=h
theorem zFM(h:tt σ H λc H1=>if c=true then tu σ H1 QB else QB false H1):zGe tt tu σ H QB:=h
theorem zHb(h:tt σ H λc H1=>if c=true then QB true H1 else tu σ H1 QB):Yj tt tu σ H QB:=h
theorem dq16:(NZ tt σ H QB)=(tt σ H λc H1=>QB (!c) H1):=rfl
theorem zF8(h:tt σ H λc H1=>QB (!c) H1):NZ tt σ H QB:=h
theorem zD0(h:ta σ H λx H1=>∃c,x=.bl c/\if c=true then tb σ H1 Q else Q (.bl false) H1):PX ta tb σ H Q:=h
theorem dq17:(NJ ta σ H Q)=(ta σ H λx H1=>∃c,x=.bl c/\Q (.bl (!c)) H1):=rfl
theorem zDO(h:ta σ H λx H1=>∃c,x=.bl c/\Q (.bl (!c)) H1):NJ ta σ H Q:=h
theorem zFP(h:tt σ H λc H1=>if c=true then ta σ H1 Q else tb σ H1 Q):tIf tt ta tb σ H Q:=h
theorem zFj(h:s1 {D with nx:=s2 D} σ H):EL s1 s2 D σ H:=h
theorem zCE(h:D.nx σ H):zEz D σ H:=h
theorem zFg(h:te σ H D.rt):zG3 te D σ H:=h
theorem zEY(h:tt σ H λb H1=>if b=true then s1 D σ H1 else s2 D σ H1):zGM tt s1 s2 D σ H:=h
theorem zF0(h:te σ H λx H1=>g x σ H1 D.nx):nG te g D σ H:=h
theorem dq18:(Po te D σ H)=(te σ H λ_ H1=>D.nx σ H1):=rfl
theorem zCy(h:te σ H λ_ H1=>D.nx σ H1):Po te D σ H:=h
theorem dq19:(NQ i j t D σ H)=(t σ H λvs H1=>∃v w,vs=[v,w]/\D.nx ((σ.set i (some v)).set j (some w)) H1):=rfl
theorem zFA(h:t σ H λvs H1=>∃v w,vs=[v,w]/\D.nx ((σ.set i (some v)).set j (some w)) H1):NQ i j t D σ H:=h
theorem zDM(q:QS ((σ.set i (some v)).set j (some w)) H):∃v' w',[v,w]=[v',w']/\QS ((σ.set i (some v')).set j (some w')) H:=⟨v,w,rfl,q⟩
theorem zAG(q:QS (σ.set i (some v)) H):jC i v σ H QS:=q
theorem zDA(q:QS σ H):YR [] σ H QS:=⟨rfl,q⟩
theorem zA4(q:g v σ H λσ' H'=>gs xs σ' H' QS):zEv g gs (v::xs) σ H QS:=⟨v,xs,rfl,q⟩
theorem kG{a:we}{n:Nat}(h:aV K H a xs)(e:xs.length=n)(q:gs xs σ H QS):mF K n gs .bq σ H QS:=⟨a,xs,rfl,h,e,q⟩
theorem dq20{tset:zS}:(U8 ta tb tset v σ H QS)=(ta σ H λo H1=>tb σ H1 λi H2=>tset o i v H2 λH3=>QS σ H3):=rfl
theorem zCH{tset:zS}(h:ta σ H λo H1=>tb σ H1 λi H2=>tset o i v H2 λH3=>QS σ H3):U8 ta tb tset v σ H QS:=h
theorem rG{k:Int}(h:H p=some (.lst xs))(e:gQ xs.length k=some j)(q:∀H',Exc p H H'->H' p=some (.lst (xs.set j v))->QH H'):zD9 .aA (.int k) v H QH :=
 ⟨p,xs,k,j,rfl,rfl,h,e,q _ (Exc.upd p H _) dk⟩
theorem zFx{f:Int->Int->V}(q:Q (f m n) H):jR f (.int m) (.int n) H Q:=⟨m,n,rfl,rfl,q⟩
theorem yl{C:Int->Int->Prop}{f:Int->Int->V}(c:C m n)(q:Q (f m n) H):rI C f (.int m) (.int n) H Q:=⟨m,n,rfl,rfl,c,q⟩
theorem zGs{f:Int->V}(q:Q (f m) H):rU f (.int m) H Q:=⟨m,rfl,q⟩
theorem zDL(q:Q (.int (m+n)) H):Fy (.int m) (.int n) H Q:=.inl ⟨m,n,rfl,rfl,q⟩
theorem jQ{b:we}(h:H p=some (.lst xs))(k:H b=some (.lst ys))(z:xs.length+ys.length<=vd)
  (q:∀c H',H c=none->ar H H'->H' c=some (.lst (xs++ys))->Q (.ref c) H'):Fy .aA (.ref b) H Q :=
 .inr (.inl ⟨p,b,xs,ys,rfl,rfl,h,k,z,λc hc=>q c _ hc (ar.upd hc) dk⟩)
theorem zFI(q:Q (.int (if m<0 then -m else m)) H):zGX [.int m] H Q:=⟨m,rfl,q⟩
theorem R1(h:aV K H p xs)(q:Q (.int xs.length) H):kr K [.ref p] H Q:=⟨p,xs,rfl,.inr h,q⟩
theorem gE(h:aE K H p xs)(q:Q (.int xs.length) H):kr K [.ref p] H Q:=⟨p,xs,rfl,.inl h,q⟩
theorem zGc(q:Q (.bl (decide (v=.bE))) H):R7 v .bE H Q:=.inr ⟨rfl,q⟩
theorem zCk(q:Q (.bl (!decide (v=.bE))) H):Y6 v .bE H Q:=.inr ⟨rfl,q⟩
theorem zE3(q:Q (.bl (decide (m=n))) H):iE K (.int m) (.int n) H Q :=
 ⟨.int m,.int n,cf.mpr rfl,cf.mpr rfl,rfl,rfl,by
  have e:wR (.int m) (.int n)=decide (m=n):=by
   rw[wR,QJ]
  rw[e];exact q⟩
theorem zE1(q:Q (.bl (!decide (m=n))) H):lZ K (.int m) (.int n) H Q :=
 ⟨.int m,.int n,cf.mpr rfl,cf.mpr rfl,rfl,rfl,by
  have e:wR (.int m) (.int n)=decide (m=n):=by
   rw[wR,QJ]
  rw[e];exact q⟩
theorem mC{d e:wC}(h:.bH)(k:Is K H w e)(sd:vT d=true)(se:vT e=true)(q:Q (.bl (wR d e)) H):iE K v w H Q:=⟨d,e,h,k,sd,se,q⟩
theorem sQ{d e:wC}(h:.bH)(k:Is K H w e)(sd:vT d=true)(se:vT e=true)(q:Q (.bl (!PyData.eqv d e)) H):lZ K v w H Q:=⟨d,e,h,k,sd,se,q⟩
theorem sD{T:.ar}{d:wC}(h:.bH)(e:V7 K (.type (kindOf d)) (.type T)=some (isA T d))(q:Q (.bl (isA T d)) H):fg K [v,.ty T] H Q:=⟨v,T,d,_,rfl,h,e,q⟩
def jL:wC->Bool
 | .tuple _=>true
 | _=>false
def Ia:wC->Bool
 | .int _=>true
 | .bool _=>true
 | _=>false
def FH:wC->Bool
 | .bool _=>true
 | _=>false
def mK:wC->Bool
 | .list _=>true
 | _=>false
def Gz:wC->Bool
 | .str _=>true
 | _=>false
theorem Og{d:wC} : jL d=true ↔ ∃ds,d=.tuple ds:=by cases d<;>simp[jL]
theorem PB{d:wC}(h:.bH)(q:Q (.bl (jL d)) H):fg K [v,.ty "tuple"] H Q:=sD h (zyw d) (by have e:isA "tuple" d=jL d:=(by cases d<;>rfl);rw[e];exact q)
theorem zBe{d:wC}(h:.bH)(q:Q (.bl (Ia d)) H):fg K [v,.ty "int"] H Q:=sD h (zDn d) (by have e:isA "int" d=Ia d:=(by cases d<;>rfl);rw[e];exact q)
theorem T1{d:wC}(h:.bH)(q:Q (.bl (FH d)) H):fg K [v,.ty "bool"] H Q:=sD h (zBK d) (by have e:isA "bool" d=FH d:=(by cases d<;>rfl);rw[e];exact q)
theorem zBI{d:wC}(h:.bH)(q:Q (.bl (mK d)) H):fg K [v,.ty "list"] H Q:=sD h (zAY d) (by have e:isA "list" d=mK d:=(by cases d<;>rfl);rw[e];exact q)
theorem zBa{d:wC}(h:.bH)(q:Q (.bl (Gz d)) H):fg K [v,.ty "str"] H Q:=sD h (zDF d) (by have e:isA "str" d=Gz d:=(by cases d<;>rfl);rw[e];exact q)
theorem Cf(h:aV K H p xs)(e:jt xs m=some v)(q:Q v H):du K .aA (.int m) H Q:=.inr (.inl ⟨p,xs,m,v,rfl,rfl,h,e,q⟩)
theorem jA(h:aE K H p xs)(e:jt xs m=some v)(q:Q v H):du K .aA (.int m) H Q:=.inl ⟨p,xs,m,v,rfl,rfl,h,e,q⟩
theorem zFl{α : Type}{xs:.aY}(h0:0<=m)(h1:m<xs.length):∃v,jt xs m=some v/\v∈xs:=by
 obtain⟨k,rfl⟩:∃k:Nat,m=(k:Int):=⟨m.toNat,by lia⟩;have l:k<xs.length:=by lia
 exact⟨xs[k],m5 (by simp[l]),We l⟩
theorem SO(P:V->Prop)(h:aE K H p xs)(h0:0<=m)(h1:m<xs.length)(hP:∀x∈xs,P x)(q:∀x,P x->Q x H):du K .aA (.int m) H Q:=by
 obtain⟨x,e,hx⟩:=zFl h0 h1;exact jA h e (q x (hP x hx))
theorem zDE{r:Rat}(h:Is K H v (N r))(q:Q (.int r.num) H):du K v (.int 0) H Q:=by
 obtain⟨a,rfl,h'⟩:=pk.mp h;exact Cf h' rfl q
theorem zDU{r:Rat}(h:Is K H v (N r))(q:Q (.int (r.den:Int)) H):du K v (.int 1) H Q:=by
 obtain⟨a,rfl,h'⟩:=pk.mp h;exact Cf h' rfl q
theorem aA{d:wC}(h:Is K H v .av)(e:ds[j]? = some d)(q:∀x,Is K H x d->Q x H):du K v (.int (j:Int)) H Q:=by
 obtain⟨a,xs,rfl,h,t⟩:=bY.mp h;obtain⟨x,e1,hx⟩:=t.get e;exact Cf h (m5 e1) (q x hx)
theorem mH(h:Is K H v .av)(q:Q (.int ds.length) H):kr K [v] H Q:=by
 obtain⟨a,xs,rfl,h,t⟩:=bY.mp h;exact R1 h (by rw[t.length];exact q)
theorem Jm{n:Nat}(h:Is K H v .av)(e:ds.length=n)(q:∀xs,ai K H xs ds->gs xs σ H QS):mF K n gs v σ H QS:=by
 obtain⟨a,xs,rfl,h,t⟩:=bY.mp h;exact kG h (by rw[t.length];exact e) (q xs t)
theorem oU{α : Type}{l:.aY}(h:l.length<=1000):l.length<=vd:=WH (gW h)
theorem nS(z:xs.length<=1000)(q:∀p H',H p=none->ar H H'->H' p=some (.tup xs)->Q .aA H'):nF K xs H Q:=⟨oU z,λp hp=>q p _ hp (ar.upd hp) dk⟩
theorem dN(z:xs.length<=1000)(q:∀p H',H p=none->ar H H'->H' p=some (.lst xs)->Q .aA H'):IE K xs H Q:=⟨oU z,λp hp=>q p _ hp (ar.upd hp) dk⟩
theorem cJ(z:xs.length<=1000)(h:ai K H xs ds)(q:∀v H',ar H H'->Is K H' v .av->Q v H'):nF K xs H Q :=
 nS z λp H' _ s e=>q _ H' s (bY.mpr ⟨p,xs,rfl,.of e,ai.same s ds xs h⟩)
theorem dg{r:Rat}(e1:m=r.num)(e2:n=(r.den:Int))(q:∀v H',ar H H'->Is K H' v (N r)->Q v H'):nF K [.int m,.int n] H Q:=by
 subst e1 e2;exact nS (by show 2<=1000;decide) λp H' _ s e=>q _ H' s (pk.mpr ⟨p,rfl,.of e⟩)
theorem zCt{p:Prop}[Decidable p](h1:p->A)(h2:¬ p->B):if decide p=true then A else B:=by
 by_cases h:p
 ·rw[decide_eq_true h,if_pos rfl];exact h1 h
 ·rw[decide_eq_false h,if_neg vJ];exact h2 h
theorem zAp{p:Prop}[Decidable p](h1:¬ p->A)(h2:p->B):if(!decide p)=true then A else B:=by
 by_cases h:p
 ·rw[decide_eq_true h];exact o_ (h2 h)
 ·rw[decide_eq_false h];exact pD (h1 h)
theorem zDN{b:Bool}(h1:b=true->A)(h2:b=false->B):if b=true then A else B:=by
 cases b
 ·exact o_ (h2 rfl)
 ·exact pD (h1 rfl)
theorem zAc{b:Bool}(h1:b=false->A)(h2:b=true->B):if(!b)=true then A else B:=by
 cases b
 ·exact pD (h1 rfl)
 ·exact o_ (h2 rfl)
theorem dq1:(nG te g D σ H)=(te σ H λx H1=>g x σ H1 D.nx):=rfl
theorem dq2:(zG3 te D σ H)=(te σ H D.rt):=rfl
theorem dq3:(zGM tt s1 s2 D σ H)=(tt σ H λb H1=>if b=true then s1 D σ H1 else s2 D σ H1):=rfl
theorem dq4:(jT r ta tb σ H Q)=(ta σ H λx H1=>tb σ H1 λy H2=>r x y H2 Q):=rfl
theorem dq5:(tC v σ H Q)=(Q v H):=rfl
theorem dq6:(lG te tr σ H QA)=(te σ H λx H1=>tr σ H1 λxs H2=>QA (x::xs) H2):=rfl
theorem dq7:(pH σ H QA)=(QA [] H):=rfl
theorem dq8:(tK te σ H QB)=(te σ H λx H'=>∃k,x=.bl k/\QB k H'):=rfl
theorem dq9{sp:Sp}{E:XK}:(yh sp [] E t σ H Q)=(t σ H λvs H1=>sp (vs++[]) H1 Q E):=rfl
theorem dq10:(mf K t σ H Q)=(t σ H λxs H1=>nF K xs H1 Q):=rfl
theorem dq11:(jC i v σ H QS)=(QS (σ.set i (some v)) H):=rfl
theorem dq32:jd i σ H Q=nV σ i λv=>Q v H:=rfl
theorem dq33{q:V->Prop}:nV (some v::σ) 0 q=q v:=rfl
theorem dq34{q:V->Prop}{o:.bf}:nV (o::σ) (j+1) q=nV σ j q:=rfl
end
section
variable{c:TT}{tb:TS}{D:c_}{σ : St}{H:Hp}
def R5(σ : St)(i:Nat):Int:=match σ[i]? with
 | some (some (.int y))=>y
 | _=>0
def zAP(Pv:St->Hp->Prop)(μ : St->Nat)(tb:TS)(D:c_)(σ':St)(H1:Hp):Prop :=
 ∃M:St->Hp->Prop,(∀σ2 H2,M σ2 H2->∃m',m' < μ σ'/\(m' = μ σ2/\Pv σ2 H2))/\tb {D with nx:=M,ct:=M,bk:=D.nx} σ' H1
theorem PV(Pv:St->Hp->Prop)(μ : St->Nat)(h0:Pv σ H)
  (hs:∀σ' H',Pv σ' H'->c σ' H' λb H1=>if b=true then zAP Pv μ tb D σ' H1 else D.nx σ' H1):Fi c tb D σ H:=by
 refine⟨λm σ H=>m = μ σ /\ Pv σ H,⟨_,rfl,h0⟩,?_⟩;rintro m σ H ⟨rfl,p⟩;exact hs σ H p
theorem U7{Pv:St->Hp->Prop}{μ : St->Nat}{σ':St}{H1:Hp}(h:tb {D with nx:=λσ2 H2=>μ σ2 < μ σ'/\Pv σ2 H2,ct:=λσ2 H2=>μ σ2 < μ σ'/\Pv σ2 H2,bk:=D.nx} σ' H1):zAP Pv μ tb D σ' H1 :=
 ⟨_,λσ2 H2 q=>⟨_,q.1,rfl,q.2⟩,h⟩
def O3(g:TG)(tb:TS)(D:c_)(σ : St)(vs:.x)(H1:Hp):Prop:=∃j:Int,vs=[.int j] /\ -(2^62)<=j/\j<2^62 /\
 ∃W:Nat->Nat->St->Hp->Prop,(∃m,W 0 m σ H1) /\ ∀i m σ H,W i m σ H ->
  ((gZ 0 j.toNat).stop i H/\D.nx σ H)\/((gZ 0 j.toNat).go i H /\ ∃M:St->Hp->Prop,(∀σ' H',M σ' H'->∃m',m'<m/\W (i+1) m' σ' H') /\ ∀x H',(gZ 0 j.toNat).fW i H x H'->g x σ H' λσ2 H2=>tb {D with nx:=M,ct:=M,bk:=D.nx} σ2 H2)
theorem zC8{ta:TA}{g:TG}(h:ta σ H λvs H1=>O3 g tb D σ vs H1):oB (EK ta) g tb D σ H:=h
theorem iA{g:TG}{n:Int}(h0 : -1000000000<=n)(h1:n<1000000000)(Pv:Nat->St->Hp->Prop)(p:Pv 0 σ H)
  (hs:∀(i:Nat) σ H,i<n.toNat->Pv i σ H->g (.int (i:Int)) σ H λσ2 H2=>tb {D with nx:=Pv (i+1),ct:=Pv (i+1),bk:=D.nx} σ2 H2)
  (hd:∀σ H,Pv n.toNat σ H->D.nx σ H):O3 g tb D σ [.int n] H:=by
 refine⟨n,rfl,by lia,by lia,UP (lo:=0) Pv p (λi σ H hi q=>?_) hd⟩;have e:(0:Int)+(i:Int)=(i:Int):=by lia
 rw[e];exact hs i σ H hi q
end
def Fn(K:wa)(g:TG)(tb:TS)(D:c_)(σ : St)(x:V)(H1:Hp):Prop:=∃a,x=.ref a/\(∃xs,aE K H1 a xs) /\
 ∃W:Nat->Nat->St->Hp->Prop,(∃m,W 0 m σ H1) /\ ∀i m σ H,W i m σ H ->
  ((kA K a).stop i H/\D.nx σ H)\/((kA K a).go i H /\ ∃M:St->Hp->Prop,(∀σ' H',M σ' H'->∃m',m'<m/\W (i+1) m' σ' H') /\ ∀x H',(kA K a).fW i H x H'->g x σ H' λσ2 H2=>tb {D with nx:=M,ct:=M,bk:=D.nx} σ2 H2)
def Rm(K:wa)(g:TG)(tb:TS)(D:c_)(σ : St)(x:V)(H1:Hp):Prop:=∃a,x=.ref a/\(∃xs,aV K H1 a xs) /\
 ∃W:Nat->Nat->St->Hp->Prop,(∃m,W 0 m σ H1) /\ ∀i m σ H,W i m σ H ->
  ((kC K a).stop i H/\D.nx σ H)\/((kC K a).go i H /\ ∃M:St->Hp->Prop,(∀σ' H',M σ' H'->∃m',m'<m/\W (i+1) m' σ' H') /\ ∀x H',(kC K a).fW i H x H'->g x σ H' λσ2 H2=>tb {D with nx:=M,ct:=M,bk:=D.nx} σ2 H2)
section
variable{K:wa}{te:TE}{g:TG}{tb:TS}{D:c_}{σ : St}{H:Hp}{a:we}{xs:.x}
theorem zDB(h:te σ H λx H1=>Fn K g tb D σ x H1):oB (FT K te) g tb D σ H:=h
theorem pS(hx:aE K H a xs)(Pv:Nat->St->Hp->Prop)(h0:Pv 0 σ H)(hl:∀i σ H,i<=xs.length->Pv i σ H->aE K H a xs)
  (hs:∀i x σ H,xs[i]? = some x->Pv i σ H->g x σ H λσ2 H2=>tb {D with nx:=Pv (i+1),ct:=Pv (i+1),bk:=D.nx} σ2 H2) (hd:∀σ H,Pv xs.length σ H->D.nx σ H):Fn K g tb D σ .bq H :=
 ⟨a,rfl,⟨xs,hx⟩,zBi Pv h0 hl hs hd⟩
theorem Ou(hx:aV K H a xs)(Pv:Nat->St->Hp->Prop)(h0:Pv 0 σ H)(hl:∀i σ H,i<=xs.length->Pv i σ H->aV K H a xs)
  (hs:∀i x σ H,xs[i]? = some x->Pv i σ H->g x σ H λσ2 H2=>tb {D with nx:=Pv (i+1),ct:=Pv (i+1),bk:=D.nx} σ2 H2) (hd:∀σ H,Pv xs.length σ H->D.nx σ H):Rm K g tb D σ .bq H :=
 ⟨a,rfl,⟨xs,hx⟩,zDV Pv h0 hl hs hd⟩
end
theorem zE0{K:wa}{H:Hp}{a:we}{xs:.x}(hO:B1 H)(h:aE K H a xs):jN K H a xs:=by
 rcases h with(h | ⟨o,h⟩) | h
 ·rcases hO a with z | ⟨ob,ys,z⟩
  ·rw[h]at z;cases z
  ·rw[h]at z;cases z
 ·exact .inl ⟨o,h⟩
 ·exact .inr h
theorem OK{K:wa}{H:Hp}{Q:VK}{a:we}{ns:.p}{m:Int}(h:jN K H a .aq)(h0:0<=m)(h1:m<((ns.map V.int).length:Int))(q:∀z,Q (.int z) H):du K .bq (.int m) H Q:=by
 refine SO (λv=>∃z,v=.int z) h.sq h0 h1 (λx hx=>?_) (λx hx=>?_)
 ·obtain⟨z,_,rfl⟩:=wQ.mp hx
  exact⟨z,rfl⟩
 ·obtain⟨z,rfl⟩:=hx
  exact q z
section
variable{K:wa}{H H':Hp}{v:V}{d:wC}{a:we}{xs:.x}{o:HO}
theorem ar.back{H2:Hp}(b:ar H' H2)(s:ar H H'):ar H H2:=s.trans b
theorem bC.back{H2:Hp}(b:bC H' H2)(s:bC H H'):bC H H2:=s.trans b
theorem Is.by(s:ar H H')(h:.bH):Is K H' v d:=Is.same s d v h
theorem Is.aaJ(h:.bH)(s:ar H H'):Is K H' v d:=Is.same s d v h
theorem Is.aaC{r:Rat}(h:Is K H v (N r))(s:bC H H'):Is K H' v (N r):=Is.keep s _ v (lH r) h
theorem Is.dA{r:Rat}(s:bC H H')(h:Is K H v (N r)):Is K H' v (N r):=Is.keep s _ v (lH r) h
theorem Is.gD(s:bC H H')(i:dC d=true)(h:.bH):Is K H' v d:=Is.keep s _ v i h
end
def fN(X:Cx)(N':.Q)(scope:Scope)(cl:.aW)(C:we)(s₀ : wm)(H₀ : Hp)(fp:.bp)(pins:.l):Cx where
 prog:=X.prog
 w:=X.w
 K:=X.K
 mg:=X.mg
 base:=X.base
 A:=X.A
 N:=N'
 s₀:=s₀
 H₀:=H₀
 env:=compEnvC scope cl C X.env
 outer:=X.stack
 stack:=X.stack
 ex:=fp
 fn:=λ_=>false
 calm:=X.calm
 pn:=X.pn++pins
 xe:=λ_ _=>False
structure zA8(X:Cx)(scope:Scope)(cl:.aW):Prop where
 nh:closureFor scope X.env=pure cl
 sub:∀x c,cl.lookup x=some c->X.env.cells.lookup x=some c
 has:∀x,((relabel scope X.env).names.lookup x=some .cell\/(relabel scope X.env).names.lookup x=some .free)->∃c,cl.lookup x=some c
def eD(src:.R)(σ : St):St:=src.map λo=>match o with
 | none=>none
 | some j=>(σ[j]?).join
def zD6(X:Cx)(N':.Q)(src:.R):Prop :=
 N'.length=src.length /\ ∀(i j:Nat)(x:Str),N'[i]? = some x->src[i]? = some (some j)->X.N[j]? = some x/\X.env.scope.names.lookup x=some .cell
section
variable{X:Cx}{pins:.l}{σ : St}{H:Hp}{s:wm}{N':.Q}{scope:Scope}{cl:.aW}{src:.R}{fp:.bp}
theorem Inv.block{h₁ : wJ}{tk:Nat}(I:.n)(hk:scope.kind=.function)(cok:zA8 X scope cl)(sok:zD6 X N' src)(hf:∀b∈fp,fm X pins H b)(hlt:∀b∈fp,b<s.heap.objs.size)
  (hns:h₁.Ns s.heap.objs.size λ_=>none) (old:∀b o,s.heap.get? b=some o->h₁.get? b=some o)
  (hvis:∀(i:Nat) x,N'[i]? = some x->src[i]? ≠ some none->(relabel scope X.env).names.lookup x=some .cell\/(relabel scope X.env).names.lookup x=some .free) :
  Inv (fN X N' scope cl s.heap.objs.size s H fp pins) [] (eD src σ) H {s with heap:=h₁,toks:=tk}:=by
 have hfr:H s.heap.objs.size=none:=I.aO.fresh .Y
 have ml:∀x c,cl.lookup x=some c->c<s.heap.objs.size:=λx c e=>by
  obtain⟨v,q⟩:=I.cell x c (cok.sub x c e);exact q.lt
 have fplt:∀b∈fp,b ∉ eH X.stack:=λb hb z=>by
  obtain⟨_,f1,f2,_⟩:=hf b hb;exact(wG.mp (I.oI b z)).elim f1 f2
 refine⟨⟨I.ok.mod,?_,I.ok.glob,I.ok.blt,wo _,λx y c h1 h2=>?_,λx hx=>?_,λx c hx=>?_,I.ok.hd,I.ok.frames,.inl rfl,λb hb=>⟨?_,λx c e=>?_⟩,I.bs,Wb I.ok.jJ I.sz,λb o e=>?_,fplt,I.stack,I.yG⟩,
  rfl,I.bare,Un.kept old,⟨_,hns,λi x v h1 h2 h3=>?_⟩,λx c e=>?_,hfr,λx c e=>?_,λp hp=>?_,I.aO.kept old,?_⟩
 ·show(relabel scope X.env).kind=.function
  exact hk
 ·exact I.ok.inj x y c (cok.sub x c h1) (cok.sub y c h2)
 ·exact cok.has x hx
 ·exact absurd (show false=true from hx) vJ
 ·exact wT (hlt b hb)
 ·exact(hf b hb).2.2.2.2.1 x c (cok.sub x c e)
 ·intro hb
  obtain⟨_,_,_,f3,_⟩:=hf b hb;rcases f3 with z | z
  ·exact I.ok.me b o e z
  ·exact absurd (wW (wF e) (Wb I.ok.jJ z)) (Vp _)
 ·-- a name of the frame around
  have hsrc:∃j,src[i]? = some (some j) /\ σ[j]? = some (some v):=by
   unfold eD at h2;rw[wu]at h2;cases q:src[i]? with
   | none=>rw[q]at h2;cases h2
   | some o =>
    rw[q]at h2;cases o with
    | none=>cases h2
    | some j =>
     refine⟨j,rfl,?_⟩;have h2':(σ[j]?).join=some v:=wI h2;cases q2 : σ[j]? with
     | none=>rw[q2]at h2';cases h2'
     | some z=>rw[q2]at h2';exact congrArg some h2'
  obtain⟨j,hj,hv⟩:=hsrc;obtain⟨hN,hc⟩:=sok.2 i j x h1 hj;obtain⟨m,_,hl⟩:=I.loc;obtain⟨u,ru,lk⟩:=hl j x v hN hv (.inr (.inl hc));refine⟨u,ru,.inr ⟨hvis i x h1 (by rw[hj];intro z;cases z),?_⟩⟩;rcases lk with⟨k,_⟩ | ⟨_,c,ec,hcell⟩
  ·have k':X.env.scope.names.lookup x=some .local:=k
   rw[hc]at k';cases k'
  ·obtain⟨c',ec'⟩:=cok.has x (hvis i x h1 (by rw[hj];intro z;cases z))
   have:=cok.sub x c' ec';rw[ec]at this;cases this;obtain⟨o,ho,hd⟩:=hcell;exact⟨c,ec',o,old c o ho,hd⟩
 ·obtain⟨v,o,ho,hd⟩:=I.cell x c (cok.sub x c e)
  exact⟨v,o,old c o ho,hd⟩
 ·exact I.gK x c (cok.sub x c e)
 ·have hp':p∈(X.pn++pins)++[]:=hp
  rw[vS]at hp';obtain⟨e,n,ne,nf,d⟩:=I.pin p hp';refine⟨old _ _ e,n,wT (wF e),λz=>?_,d⟩;exact(wG.mp (I.oI p.1 z)).elim ne nf
 ·show(eD src σ).length=N'.length
  unfold eD;rw[wl,sok.1]
end
def ZZ:TT:=λ_ H Q=>Q true H
def tm(X:Cx)(ifs:.ak)(t:TT):Prop :=
 ∀(pins:.l)(s:wm)(σ : St)(H:Hp)(Q:Bool->Hp->Prop),Inv X pins σ H s->t σ H Q ->
  wx .o X.A (forIn ifs true λc r=>if r=true then do let ok <- isTrue c X.env (eval c X.env);pure (ForInStep.yield ok)else pure (ForInStep.yield r)) (TP X pins σ Q) X.xe s
theorem dU{X:Cx} : tm X [] ZZ:=λ_ _ _ H _ I h=>wpAny_tests_nil ⟨H,I,h⟩
theorem mq{X:Cx}{c:Expr}{t:TT}(hc:PT X c t):tm X [c] t:=λpins s σ H Q I h=>wpAny_tests_one (hc pins s σ H Q I h)
section
variable{prog:wK}{w:wO}{A:vg}{R:Result->wm->Prop}{s:wm}
theorem zsg{elt target iter:Expr}{ifs:.ak}{scope:Scope}{pos:Pos}{it acc:wf}{env:Env}(I:Nat->wm->Prop)
   (turn:∀n s,I n s->wx .s A (V2 it) (λr s₁=>match r with
     | none=>R (.ok .next) s₁
     | some v=>wx .s A (qW target it v) (λ_ s₁'=>wx .s A (assign target env v) (λ_ s₂ =>
         wx .s A (forIn ifs true λc r=>if r=true then do let ok <- isTrue c env (eval c env);pure (ForInStep.yield ok)else pure (ForInStep.yield r)) (λok s₃ =>
           if ok=true then wx .s A (eval elt env) (λx s₄ =>
             wx .s A (call (.builtin "list.append") [acc,x]) (λ_ s₅=>∃m,m<n/\I m s₅) (λ_ _=>False) s₄) (λ_ _=>False) s₃
           else ∃m,m<n/\I m s₃) (λ_ _=>False) s₂) (λ_ _=>False) s₁') (λ_ _=>False) s₁) (λ_ _=>False) s)
   (n:Nat) (h:I n s):codeAny .s A (.compLoop (.ListComp elt [⟨target,iter,ifs,0⟩] scope pos) 0 it acc env) R s:=by
 refine codeAny_loop rfl I (λn s hI=>?_) n h
 show wx _ A ((compTurn (.ListComp elt [⟨target,iter,ifs,0⟩] scope pos) 0 it acc env).onRaise (λx=>do noteFrame x env;theTreesLotGoes x)) _ _ s
 refine wpAny_noted ?_;rw[compTurn_list];refine wg (wpAny_standAt (wg (WP (turn n s hI) (λr s₁ h₁=>?_) λ_ _ h'=>h'.elim)));cases r with
 | none=>exact wq h₁
 | some v =>
   refine wg (WP h₁ (λ_ s₁' h₁'=>?_) λ_ _ h'=>h'.elim);refine wg (WP h₁' (λ_ s₂ h₂=>wg (WP h₂ (λok s₃ h₃=>?_) λ_ _ h'=>h'.elim)) λ_ _ h'=>h'.elim);cases ok with
   | false=>exact wq ⟨rfl,h₃⟩
   | true=>exact wg (wg (WP h₃ (λx s₄ h₄=>wg (WP h₄ (λ_ s₅ h₅=>wq (wq ⟨rfl,h₅⟩)) λ_ _ h'=>h'.elim)) λ_ _ h'=>h'.elim))
end
def lY(g:TG)(tt:TT)(te:TE)(J:It)(D:we)(σ0:St)(H0:Hp)(Q:Hp->Prop):Prop :=
 ∃W:Nat->Nat->St->Hp->Prop,(∃m,W 0 m σ0 H0) /\ ∀i m σ' H',W i m σ' H' ->
  (J.stop i H'/\Q H')\/(J.go i H' /\ ∃M:St->Hp->Prop,(∀σ2 H2,M σ2 H2->∃m',m'<m/\W (i+1) m' σ2 H2) /\
   ∀x H2,J.fW i H' x H2->g x σ' H2 λσ3 H3=>tt σ3 H3 λok H4=>if ok=true then te σ3 H4 λy H5=>∃ys,H5 D=some (.lst ys)/\ys.length<vd/\M σ3 (upd H5 D (.lst (ys++[y])))else M σ3 H4)
def lR(src:.R)(wi:TI)(g:TG)(tt:TT)(te:TE):TE:=λσ H Q=>wi σ H λJ H1=>∀D,H1 D=none->lY g tt te J D (eD src σ) (upd H1 D (.lst [])) (λH'=>Q .bx H')
structure OV(Y:Cx)(tg:Expr)(J:It)(fp:.bp)(it:we)(tn:Nat->wJ->Prop):Prop where
 item:∀(i:Nat)(pins:.l)(s:wm)(σ : St)(H:Hp)(E:.m),Inv Y pins σ H s->(∀b∈fp,fm Y pins H b)->tn i s.heap->J.go i H ->
   wx (model Y.prog Y.w) Y.A (V2 (.ref it)) (λr s1=>∃u,r=some u/\wx (model Y.prog Y.w) Y.A (qW tg (.ref it) u) (λ_ s2=>∃x H',Inv Y pins σ H' s2/\bK x u/\J.fW i H x H'/\tn (i+1) s2.heap /\ ∀b∈fp,H' b=none) E s1) E s
 done:∀(i:Nat)(pins:.l)(s:wm)(σ : St)(H:Hp)(E:.m),Inv Y pins σ H s->(∀b∈fp,fm Y pins H b)->tn i s.heap->J.stop i H ->
   wx (model Y.prog Y.w) Y.A (V2 (.ref it)) (λr s1=>r=none/\Inv Y pins σ H s1) E s
theorem ko.ZF{P:wK}{w:wO}{K:wa}{tg:Expr}{J:It}{fp:.bp}{it:we}{tn:Nat->wJ->Prop}(T:ko P w K tg J fp it tn){Y:Cx}(h1:Y.prog=P)(h2:Y.w=w)(h3:Y.K=K)(hc:Y.calm=true):OV Y tg J fp it tn:=by
 subst h1 h2 h3;exact⟨T.item Y rfl rfl rfl hc,T.done Y rfl rfl rfl hc⟩
section
variable{X:Cx}{pins:.l}{σ : St}{H:Hp}{s:wm}{N':.Q}{scope:Scope}{cl:.aW}{src:.R}{elt tgt iter:Expr}{ifs:.ak}{pos:Pos}{wi:TI}{g:TG}{tt:TT}{te:TE}
structure pL(X:Cx)(N':.Q)(scope:Scope)(cl:.aW)(src:.R):Prop where
 kind:scope.kind=.function
 cell:∀y∈scope.names,y.2≠.cell
 names:∀y∈scope.names,y.2=.local->scope.names.lookup y.1=some .local
 nh:zA8 X scope cl
 aaM:zD6 X N' src
 II:∀(i:Nat) x,N'[i]? = some x->src[i]? ≠ some none->(relabel scope X.env).names.lookup x=some .cell\/(relabel scope X.env).names.lookup x=some .free
theorem OB{it:we}{fp:.bp}{tn:Nat->wJ->Prop}{J:It}{RQ:we->Hp->Prop}{E:.m}{RR:wf->we->Result->wm->Prop}
   (TC:∀C s₀ H₀,OV (fN X N' scope cl C s₀ H₀ fp pins) tgt J fp it tn) (ok:pL X N' scope cl src)
   (hg:∀C s₀ H₀ fp pins,PG (fN X N' scope cl C s₀ H₀ fp pins) tgt g) (ht:∀C s₀ H₀ fp pins,tm (fN X N' scope cl C s₀ H₀ fp pins) ifs tt) (he:∀C s₀ H₀ fp pins,PE (fN X N' scope cl C s₀ H₀ fp pins) elt te)
   (I:.n) (T:ko X.prog X.w X.K tgt J fp it tn) (st:tn 0 s.heap) (hf:∀b∈fp,fm X pins H b)
   (rd:∀D,H D=none->lY g tt te J D (eD src σ) (upd H D (.lst [])) (λH'=>RQ D H'))
   (hRR:∀D C H' s' m,Inv X pins σ H' s'->s'.heap.Ns C m->fm X pins H' C->RQ D H'->RR .bx C (.ok .next) s') :
   wx .o X.A (newList []) (λacc s₃=>wx .o X.A (newFunctionEnv scope X.env.globals cl [] X.env.qual none .none (some X.env)) (λcenv s₄ =>
     codeAny .o X.A (.compStart (.ListComp elt [⟨tgt,iter,ifs,0⟩] scope pos) 0 (.ref it) acc {cenv with scope:=relabel scope X.env}) (RR acc cenv.locals) s₄) E s₃) E s:=by
 refine WY ?_ (by show 0<=vd;exact WN _);have hD:H s.heap.objs.size=none:=I.aO.fresh .Y
 have I3:Inv X pins σ (upd H s.heap.objs.size (.lst [])) {s with heap:=s.heap.push {cls:=.type "list",data:=.seq ([]:List wf).toArray}} :=
   I.C6 (ys:=[]) (its:=[]) (t':=s.toks) .nil (WN _)
 have old3:∀b o,s.heap.get? b=some o->(s.heap.push {cls:=.type "list",data:=.seq ([]:List wf).toArray}).get? b=some o:=λb o e=>wn _ e
 have lt0:∀b∈fp,b<s.heap.objs.size:=λb hb=>by
   obtain⟨o,e,_⟩:=T.obj 0 _ st b hb;exact wF e
 have hf3:∀b∈fp,fm X pins (upd H s.heap.objs.size (.lst [])) b:=λb hb=>⟨by rw[eY (wT (lt0 b hb))];exact(hf b hb).1,(hf b hb).2⟩
 have lt3:∀b∈fp,b<(s.heap.push {cls:=.type "list",data:=.seq ([]:List wf).toArray}).objs.size:=λb hb=>by
   rw[V8];exact VY (lt0 b hb)
 have st3:tn 0 (s.heap.push {cls:=.type "list",data:=.seq ([]:List wf).toArray}):=T.keep _ _ _ st λb _ o e=>old3 b o e
 obtain⟨W,⟨m0,w0⟩,turn⟩:=rd _ hD;generalize hs3:({s with heap:=s.heap.push {cls:=.type "list",data:=.seq ([]:List wf).toArray}} : wm)=s3 at I3 ⊢;have hh3:s3.heap=s.heap.push {cls:=.type "list",data:=.seq ([]:List wf).toArray}:=by rw[<- hs3]
 rw[<- hh3]at lt3 st3;clear old3 hs3 hh3;generalize hD':s.heap.objs.size=D at *
 refine wpAny_newFunctionEnv ok.cell (by intro y hy;cases hy) (λh₁ hns₁ hsb₁=>?_) ok.kind;have old:∀b o,s3.heap.get? b=some o->h₁.get? b=some o:=λb o e=>hsb₁.extBut b o (wT (wF e)) (wn _ e)
 have hC:fm X pins (upd H D (.lst [])) s3.heap.objs.size:=I3.kR .Y (I3.aO.fresh .Y)
 have IB:∀tk,Inv (fN X N' scope cl s3.heap.objs.size s3 (upd H D (.lst [])) fp pins) [] (eD src σ) (upd H D (.lst [])) {s3 with heap:=h₁,toks:=tk}:=λtk =>
   I3.block ok.kind ok.nh ok.aaM hf3 lt3 hns₁ old ok.II
 have stB:tn 0 h₁:=T.keep _ _ _ st3 λb _ o e=>old b o e
 have stat:∀{H':Hp} ,(∀b∈fp,H' b=none)->∀b∈fp,fm (fN X N' scope cl s3.heap.objs.size s3 (upd H D (.lst [])) fp pins) [] H' b:=λhn b hb=>by
   obtain⟨_,f1,f2,f3,f4,f5⟩:=hf3 b hb;refine⟨hn b hb,wT (lt3 b hb),λz=>(wG.mp (I3.oI b z)).elim f1 f2,.inl hb,λx c e=>f4 x c (ok.nh.sub x c e),λp hp=>?_⟩;have hp':p∈(X.pn++pins)++[]:=hp;rw[vS]at hp';exact f5 p hp'
 have back:∀{σ':St}{H':Hp}{s':wm},Inv (fN X N' scope cl s3.heap.objs.size s3 (upd H D (.lst [])) fp pins) [] σ' H' s'->Inv X pins σ H' s'/\(∃m,s'.heap.Ns s3.heap.objs.size m)/\fm X pins H' s3.heap.objs.size:=λ{σ' H' s'} J=>by
   obtain⟨m,hn,_⟩:=J.loc;refine⟨I3.Nk (ch:=fp) J.os J.base J.aO J.bare (λb hb=>?_),⟨m,hn⟩,⟨J.free,hC.2⟩⟩;obtain⟨_,f1,_,f3,f4,f5⟩:=hf3 b hb;exact⟨f3,f1,f4,f5⟩
 have loop:∀tk,codeAny .o X.A (.compLoop (.ListComp elt [⟨tgt,iter,ifs,0⟩] scope pos) 0 (.ref it) .bx (compEnvC scope cl s3.heap.objs.size X.env)) (RR .bx s3.heap.objs.size) {s3 with heap:=h₁,toks:=tk}:=by
   intro tk
   refine zsg (λn s'=>∃i σ' H',Inv (fN X N' scope cl s3.heap.objs.size s3 (upd H D (.lst [])) fp pins) [] σ' H' s'/\tn i s'.heap/\(∀b∈fp,H' b=none)/\W i n σ' H') ?_ m0
     ⟨0,_,_,IB tk,stB,λb hb=>(hf3 b hb).1,w0⟩
   rintro n s4 hz;obtain⟨i,σ4,H4,I4,st4,fr4,w4⟩:=hz;rcases turn i n σ4 H4 w4 with⟨stop,q⟩ | ⟨go,M,hM,step⟩
   . refine aQ ((TC _ _ _).done i [] s4 σ4 H4 (λ_ _=>False) I4 (stat fr4) st4 stop) λr s5 ⟨hr,I5⟩=>?_
     subst hr;obtain⟨J,⟨m,hn⟩,hCf⟩:=back I5;exact hRR D _ H4 s5 m J hn hCf q
   . refine aQ ((TC _ _ _).item i [] s4 σ4 H4 (λ_ _=>False) I4 (stat fr4) st4 go) λr s5 ⟨u,hr,h5⟩=>?_
     subst hr;refine aQ h5 λ_ s6 ⟨x,H6,I6,r6,y6,st6,fr6⟩=>?_
     have I6':=I6.pinned (stat fr6) (T.obj _ _ st6)
     have again:∀{σ7:St}{H7:Hp}{s7:wm},Inv (fN X N' scope cl s3.heap.objs.size s3 (upd H D (.lst [])) fp pins) ([]++sS fp s6.heap) σ7 H7 s7->M σ7 H7 ->
         ∃m,m<n /\ ∃i σ' H',Inv (fN X N' scope cl s3.heap.objs.size s3 (upd H D (.lst [])) fp pins) [] σ' H' s7/\tn i s7.heap/\(∀b∈fp,H' b=none)/\W i m σ' H':=λ{σ7 H7 s7} I7 n7=>by
       obtain⟨m',hm,w7⟩:=hM σ7 H7 n7;refine⟨m',hm,i+1,σ7,H7,I7.yF,T.keep _ _ _ st6 λb hb o e=>(I7.pin (b,o) (Wo _ (Wo _ (BE hb e)))).1,λb hb=>?_,w7⟩;obtain⟨o,e,d⟩:=T.obj _ _ st6 b hb;exact(I7.pin (b,o) (Wo _ (Wo _ (BE hb e)))).2.1
     refine aQ (hg _ _ _ _ _ _ s6 σ4 H6 x u _ I6' r6 (step x H6 y6)) λ_ s7 ⟨σ7,H7,I7,q7⟩=>?_
     refine aQ (ht _ _ _ _ _ _ s7 σ7 H7 _ I7 q7) λk s8 ⟨H8,I8,q8⟩=>?_
     cases k with
     | false=>exact again I8 q8
     | true =>
       rw[if_pos rfl]at q8 ⊢;refine aQ (he _ _ _ _ _ _ s8 σ7 H8 _ I8 q8) λy s9 ⟨yv,H9,I9,r9,ys,hys,hz,q9⟩=>?_
       exact aQ (jh _ s9 σ7 H9 .bx [yv] .bx [y] (λ_ H'=>M σ7 H') I9 rfl (.cons r9 .nil) ⟨D,ys,yv,rfl,rfl,hys,hz,q9⟩) λ_ s10 ⟨_,H10,I10,_,q10⟩=>again I10 q10
 exact codeAny_compStart_list (loop _) (T.self _ _ _ _ _ stB (loop _))
theorem d4(hc:.bu)(ok:pL X N' scope cl src)(hi:PI X tgt iter wi)
  (hg:∀C s₀ H₀ fp pins,PG (fN X N' scope cl C s₀ H₀ fp pins) tgt g) (ht:∀C s₀ H₀ fp pins,tm (fN X N' scope cl C s₀ H₀ fp pins) ifs tt) (he:∀C s₀ H₀ fp pins,PE (fN X N' scope cl C s₀ H₀ fp pins) elt te)
  (hs:∀x,foldedSetIterable iter X.env x=pure x:=by intro _;rfl):PE X (.ListComp elt [⟨tgt,iter,ifs,0⟩] scope pos) (lR src wi g tt te):=by
 intro pins s σ H Q I h;rw[eval_ListComp];refine wpAny_comprehension_free (use:=none) rfl hs ok.nh.nh ok.kind ok.names (aQ (hi pins s σ H _ I h) λv s1 h1=>aQ h1 λitv s2 h2=>?_);obtain⟨it,fp,tn,J,H2,e,I2,T,st2,f2,rd⟩:=h2;subst e;refine OB (RQ:=λD H'=>Q .bx H') (RR:=λacc C=>compPost .o X.A X.xe none (EP X pins σ Q) acc C) (λ_ _ _=>T.ZF rfl rfl rfl hc) ok hg ht he I2 T st2 f2 rd ?_;intro D C H' s' m J hn hC q;obtain⟨c0,c1,_,c3,c4,c5⟩:=hC;exact⟨m,hn,λh' sb=>⟨.ref D,H',J.turned (t':=s'.toks) (λb o hb e=>(sb.2 b hb).trans e) c0 c1 c3 c4 c5,rfl,q⟩⟩
theorem kJ{i:Nat}{y:Str}{py spos:Pos}(hN:X.N.Nodup)(hy:X.N[i]? = some y)(hly:Loc X.env.scope y)(hc:.bu)(ok:pL X N' scope cl src)(hi:PI X tgt iter wi)
  (hg:∀C s₀ H₀ fp pins,PG (fN X N' scope cl C s₀ H₀ fp pins) tgt g) (ht:∀C s₀ H₀ fp pins,tm (fN X N' scope cl C s₀ H₀ fp pins) ifs tt) (he:∀C s₀ H₀ fp pins,PE (fN X N' scope cl C s₀ H₀ fp pins) elt te)
  (hsw:swapsWith (.ListComp elt [⟨tgt,iter,ifs,0⟩] scope pos) (some (.Name y py)) spos.line X.env=pure true:=by rfl)
  (hs:∀x,foldedSetIterable iter X.env x=pure x:=by intro _;rfl) (hf:X.fn y=true\/X.env.scope.names.lookup y=some .local:=by first | exact .inl rfl | exact .inr rfl | assumption) :
  PS X (.Assign [.Name y py] (.ListComp elt [⟨tgt,iter,ifs,0⟩] scope pos) spos) (nG (lR src wi g tt te) (jC i)):=by
 intro pins s σ H D0 I h;rw[exec_Assign_Name_used _ _ _ _ hsw];refine wg (wpAny_standAt (wg ?_))
 show wx _ X.A (do let _ <- comprehension (.ListComp elt [⟨tgt,iter,ifs,0⟩] scope pos) scope X.env _ (newList []) false (eval iter X.env) (some (assign (.Name y py) X.env))) _ _ s
 refine wg (WP (wpAny_comprehension_free (Q:=λ_ s'=>SP X pins D0 .next s') rfl hs ok.nh.nh ok.kind ok.names (aQ (hi pins s σ H _ I h) λv s1 h1=>aQ h1 λitv s2 h2=>?_))
  (λ_ s' hq=>wq (wq hq)) λ_ _ e=>e)
 obtain⟨it,fp,tn,J,H2,e,I2,T,st2,f2,rd⟩:=h2;subst e;refine OB (RQ:=λD H'=>jC i .bx σ H' D0.nx) (RR:=λacc C=>compPost .o X.A X.xe (some (assign (.Name y py) X.env)) (λ_ s'=>SP X pins D0 .next s') acc C) (λ_ _ _=>T.ZF rfl rfl rfl hc) ok hg ht he I2 T st2 f2 rd ?_;intro D C H' s' m J hn hC q;obtain⟨c0,c1,_,c3,c4,c5⟩:=hC
 show wx _ _ (assign (.Name y py) X.env .bx) _ _ s'
 refine wpAny_assign_Name (PD J hN hy hly (v:=.ref D) rfl (λs'' J2 ⟨a,sb,ha⟩=>?_) hf)
 have hCa:C≠a:=by
  rcases ha with z | z
  ·rw[z];exact c1
  ·exact(c4 y a z).symm
 exact⟨m,hn.sameBut sb hCa,λh' sb'=>⟨_,H',J2.turned (t':=s''.toks) (λb o hb e=>(sb'.2 b hb).trans e) c0 c1 c3 c4 c5,q⟩⟩
end
variable{T b:we}
abbrev Yb(h B:wJ)(e:we)(cls:wf):Prop :=
 ∃oe vs,h.get? e=some oe/\oe.cls=cls/\oe.data=.fields vs/\vs[1]? = some .none/\vs[2]? = some .none/\oe.dict=none/\B.get? e=none
abbrev R9(h B:wJ)(e:we)(cls fl:wf):Prop :=
 ∃oe vs T oT ts,h.get? e=some oe/\oe.cls=cls/\oe.data=.fields vs/\vs[1]? = some (.ref T)/\vs[2]? = some .none/\oe.dict=none/\B.get? e=none/\B.get? T=none/\T≠e/\h.get? T=some oT/\oT.data=.fields ts/\ts[3]? = some fl
structure fR(B:wJ)(l:.bj)(e:we)(cls fl:wf)(h:wJ):Prop where
 st:B.StaysIn h
 fr:h.FunFrames B l
 tr:R9 h B e cls fl
theorem zt1{f:Array wf->Array wf}(o:Obj):(QD f o).dict=o.dict:=by
 obtain⟨c,d,dt,sl⟩:=o;cases dt<;>rfl
theorem nJ{h:wJ}{f:Obj->Obj}(n:b≠T):(h.update T f).get? b=h.get? b:=Qv _ _ (WI n)
theorem rD{h:wJ}{oT o:Obj}{ts:.as}(hT:h.get? T=some oT)(dT:oT.data=.fields ts)(hb:h.get? b=some o)(hn:∀vs,o.data≠.fields vs):b≠T:=by
 rintro rfl;rw[hT]at hb;cases hb;exact hn _ dT
theorem Im{B:wJ}{o:Obj}(n:B.get? T=none)(q:B.get? b=some o):b≠T:=by
 rintro rfl;rw[n]at q;cases q
section
variable{M:Model}{A:vg}{E:.m}{s:wm}{B:wJ}{l outer:.bj}{env:Env}{L e:we}{cls fl:wf}{Q:Unit->wm->Prop}
theorem fR.land(F:fR B l e cls fl s.heap)(k:∀h',fR B l e cls .none h'->s.heap.UpToSlots h'->Q () {s with heap:=h'}):wx M A (setFlight (.ref e) none) Q E s:=by
 obtain⟨st,fr,oe,vs,T,oT,ts,he,hc,hd,h1,h2,hdi,be,bT,ne,hT,dT,h3⟩:=F;have sz:3<ts.size:=(Vd.mp h3).1;unfold setFlight;refine wg (vH he hd h1 ?_);rw[if_pos .u];have at3:∀b,b≠T->(s.heap.update T (QD (·.setIfInBounds 3 Value.none))).get? b=s.heap.get? b:=λb n=>nJ n
 have tr:R9 (s.heap.update T (QD (·.setIfInBounds 3 Value.none))) B e cls .none :=
  ⟨oe,vs,T,QD (·.setIfInBounds 3 Value.none) oT,ts.setIfInBounds 3 Value.none,(at3 e ne.symm).trans he,hc,hd,h1,h2,hdi,be,bT,ne,
   VL _ hT (qG (qu dT _)),qu dT _,by simp[sz]⟩
 refine wpAny_setField hT dT sz (k _ ⟨λb o q=>(at3 b (Im bT q)).trans (st b o q),fr.of_keeps λb o hb hn=>⟨o,(at3 b (rD hT dT hb hn)).trans hb,rfl⟩,tr⟩ λb o hb hn=>⟨o.slots,(at3 b (rD hT dT hb hn)).trans hb⟩)
theorem N6{oe:Obj}{vs:.as}{head:wf}{had:Bool}(hfr:A.frames=some (env::outer))(hf:env.frame=some L)(st:B.StaysIn s.heap)(fr:s.heap.FunFrames B (env::outer))(he:s.heap.get? e=some oe)
  (hd:oe.data=.fields vs) (sz:1<vs.size) (h2:vs[2]? = some .none) (hdi:oe.dict=none) (be:B.get? e=none) (k:∀h',fR B (env::outer) e oe.cls (Vw L) h'->s.heap.UpToSlots h'->Q () {s with heap:=h'}) :
  wx M A (do let a <- frameOf env;let pl <- entryPlaceOf L had;let b <- XD head a .none (Vw L) .none pl;setField (.ref e) 1 b) Q E s:=by
 have nfr:e ∉ (env::outer).filterMap (·.frame):=λz=>by
  obtain⟨_,o,ho,hnf⟩:=fr.mem z;rw[he]at ho;cases ho;exact hnf vs hd
 refine wg (wpAny_frameOf_fun hfr fr hf λg sg=>wg (wpAny_entryPlaceOf λpl hpl=>?_));unfold XD newFields;refine wg (WY ?_ (hpl.sizeOk5 _ _ _ _ _));have eg:g.get? e=some oe:=(sg.2.1 e nfr).trans he
 have stg:B.StaysIn g:=λb o q=>by
  rw[sg.2.1 b λz=>?_]
  ·exact st b o q
  ·rw[(fr.mem z).1]at q;cases q
 generalize hob:({cls:=.type "traceback",data:=.fields ([head,.ref L,.none,Vw L,.none]++(if pl.isEmpty then vj 6 Value.none else pl)).toArray} : Obj)=tb;have dtb:tb.data=.fields ([head,.ref L,.none,Vw L,.none]++(if pl.isEmpty then vj 6 Value.none else pl)).toArray:=by rw[<- hob]
 have ftb:tb.isFreed=false:=qG dtb;have e2:=wn (h:=g) tb eg;have neT:g.objs.size≠e:=vv (wF eg)
 have at3:∀b o,b≠e->g.get? b=some o->((g.push tb).update e (QD (·.setIfInBounds 1 (.ref g.objs.size)))).get? b=some o:=λb o n q=>by
  rw[nJ n];exact wn _ q
 refine wpAny_setField e2 hd sz (k _ ?_ ?_)
 ·have d3:=qu hd (·.setIfInBounds 1 (Value.ref g.objs.size))
  refine⟨λb o q=>at3 b o (Im be q) (stg b o q),fr.of_keeps λb o hb hn=>?_,_,_,g.objs.size,tb,_,VL _ e2 (qG d3),uc _ _,d3,by simp[sz],?_,?_,be,stg.fresh,neT,?_,dtb,?_⟩
  ·obtain⟨sl,q⟩:=sg.2.2 b o hb
   exact⟨_,at3 b _ (rD he hd hb hn) q,rfl⟩
  ·rw[Array.getElem?_setIfInBounds_ne .M];exact h2
  ·exact(zt1 oe).trans hdi
  ·rw[nJ neT];exact wS _ ftb
  ·first | (simp;done) | (rcases hpl with rfl | ⟨_,_,_,_,_,_,_,rfl⟩<;>simp)
 ·exact λb o hb hn=>by
   obtain⟨sl,q⟩:=sg.2.2 b o hb;exact⟨sl,at3 b _ (rD he hd hb hn) q⟩
theorem zyS(hfr:A.frames=some (env::outer))(hf:env.frame=some L)(st:B.StaysIn s.heap)(fr:s.heap.FunFrames B (env::outer))(t:Yb s.heap B e cls)
  (k:∀h',fR B (env::outer) e cls (Vw L) h'->s.heap.UpToSlots h'->Q () {s with heap:=h'}):wx M A (noteFrame (.ref e) env) Q E s:=by
 obtain⟨oe,vs,he,hc,hd,h1,h2,hdi,be⟩:=t;subst hc;unfold noteFrame;simp only[hf];refine wg (vH he hd h1 ?_);rw[if_neg .M];exact N6 hfr hf st fr he hd (Vd.mp h1).1 h2 hdi be k
theorem fR.note(F:fR B (env::outer) e cls .none s.heap)(hfr:A.frames=some (env::outer))(hf:env.frame=some L)
  (k:∀h',fR B (env::outer) e cls (Vw L) h'->s.heap.UpToSlots h'->Q () {s with heap:=h'}):wx M A (noteFrame (.ref e) env) Q E s:=by
 obtain⟨st,fr,oe,vs,T,oT,ts,he,hc,hd,h1,h2,hdi,be,bT,ne,hT,dT,h3⟩:=F;subst hc;unfold noteFrame;simp only[hf];refine wg (vH he hd h1 ?_);rw[if_pos .u];refine wg (vH hT dT h3 ?_);rw[if_neg (by simp[Vw])];refine wg (wpAny_setField hT dT (Vd.mp h3).1 ?_);refine N6 hfr hf (λb o q=>?_) (fr.of_keeps λb o hb hn=>⟨o,?_,rfl⟩) ?_ hd (Vd.mp h1).1 h2 hdi be λh' F' sm=>k h' F' λb o hb hn=>sm b o ?_ hn
 ·show(xZ _ _ _).get? b=_
  rw[nJ (Im bT q)];exact st b o q
 ·show(xZ _ _ _).get? b=_
  rw[nJ (rD hT dT hb hn)];exact hb
 ·show(xZ _ _ _).get? e=_
  rw[nJ ne.symm];exact he
 ·show(xZ _ _ _).get? b=_
  rw[nJ (rD hT dT hb hn)];exact hb
theorem zwZ(hfr:A.frames=some (env::outer))(hf:env.frame=some L)(st:B.StaysIn s.heap)(fr:s.heap.FunFrames B (env::outer))(t:Yb s.heap B e cls)
  (k:∀h',fR B outer e cls .none h'->s.heap.UpToSlots h'->Q () {s with heap:=h'}):wx M A (leaving env (.ref e)) Q E s:=by
 unfold leaving;refine wg (zyS hfr hf st fr t λh1 F1 s1=>fR.land F1 λh2 F2 s2=>k h2 ⟨F2.st,F2.fr.2.2,F2.tr⟩ (s1.trans s2))
theorem fR.leave(F:fR B (env::outer) e cls .none s.heap)(hfr:A.frames=some (env::outer))(hf:env.frame=some L)
  (k:∀h',fR B outer e cls .none h'->s.heap.UpToSlots h'->Q () {s with heap:=h'}):wx M A (leaving env (.ref e)) Q E s:=by
 unfold leaving;refine wg (F.note hfr hf λh1 F1 s1=>fR.land F1 λh2 F2 s2=>k h2 ⟨F2.st,F2.fr.2.2,F2.tr⟩ (s1.trans s2))
end
theorem d8.there{P:wK}{w:wO}{H:Hp}{h:wJ}{a:we}{o:HO}(x:d8 P w H h a o):∃u,h.get? a=some u:=by
 cases o with
 | lst xs=>obtain⟨_,_,_,_,e⟩:=x;exact⟨_,e⟩
 | tup xs=>obtain⟨_,_,_,_,e,_⟩:=x;exact⟨_,e⟩
 | dK kvs=>obtain⟨_,_,_,_,o,_,_,e,_⟩:=x;exact⟨_,e⟩
 | dT kvs=>obtain⟨_,_,_,_,o,_,_,e,_⟩:=x;exact⟨_,e⟩
 | set S n=>obtain⟨o,_,_,_,e,_⟩:=x;exact⟨_,e⟩
 | ins C dx fs=>obtain⟨_,_,_,e,_⟩:=x;exact⟨_,e⟩
 | own y=>exact x
 | xd fs=>obtain⟨_,⟨_,_,_,e,_⟩,_⟩:=x;exact⟨_,e⟩
 | Bu lo hi=>obtain⟨_,_,_,e⟩:=x;exact⟨_,e⟩
 | gT ob u=>obtain⟨e,_⟩:=x;exact⟨_,e⟩
 | mY ps=>exact⟨_,x⟩
 | met f y=>exact⟨_,x⟩
 | ext φ=>obtain⟨_,e,_⟩:=x;exact e
structure rn(B:wJ)(fs:.bp)(H H':Hp)(h:wJ):Prop where
 jM:∀a o,H' a=some o->∃u,B.get? a=some u
 old:∀b o,h.get? b=some o->H b=none->b ∉ fs->B.get? b=some o
 tE:∀b o,h.get? b=some o->b ∉ fs->∃u,B.get? b=some u
def fE(P:wK)(w:wO):gx:=λouter H s E e s'=>∃(ex:we)(C:wf)(H':Hp)(B:wJ),e=.ref ex/\s'.os=s.os/\AllBare s'.gens/\Un (eH outer) [] H H' s.heap s'.heap/\dR P w H' s'.heap /\
 fR B outer ex C .none s'.heap/\rn B (eH outer) H H' s.heap/\E C none H'
section
variable{B h h1 h':wJ}{fs:.bp}{H H':Hp}{P:wK}{w:wO}
theorem rn.un(ov:rn B fs H H' h)(un:Un fs [] H H' h h1)(hfs:∀b∈fs,H b=none /\ ∃o,h.get? b=some o /\ ∀vs,o.data≠.fields vs)(st:B.StaysIn h')(sm:h1.UpToSlots h'):Un fs [] H H' h h':=by
 have slot:∀b o,h.get? b=some o->b∈fs->∃sl,h'.get? b=some {o with slots:=sl}:=λb o e hb=>by
  obtain⟨n,o',ho',nr⟩:=hfs b hb;rw[e]at ho';cases ho';obtain⟨sl,e1⟩:=un.any e n .u;obtain⟨sl2,e2⟩:=sm b _ e1 nr;exact⟨sl2,e2⟩
 refine⟨λb o e n nf _=>st b o (ov.old b o e n nf),λb o e _ hb _=>slot b o e hb,un.free,λb o e _=>?_,un.jw,un.iV,un.jx⟩
 by_cases hb:b∈fs
 ·obtain⟨sl,e1⟩:=slot b o e hb
  exact⟨_,e1⟩
 ·obtain⟨u,e1⟩:=ov.tE b o e hb
  exact⟨u,st b u e1⟩
theorem rn.aO(ov:rn B fs H H' h)(aO:dR P w H' h1)(st1:B.StaysIn h1)(st:B.StaysIn h'):dR P w H' h':=λa o e=>by
 refine(aO a o e).md (λb u hb r=>?_) (λ_ z=>z) λ_ _ z=>z
 have:∃v,B.get? b=some v:=by
  rcases hb with rfl | hb
  ·exact ov.jM _ _ e
  ·exact ov.jM _ _ hb
 obtain⟨v,ev⟩:=this;have e2:=st1 b v ev;rw[r]at e2;cases e2;exact st b u ev
end
section
variable{X:Cx}{pins:.l}{σ : St}{H H':Hp}{s s':wm}{B:wJ}{ex:we}{C:wf}{E:XK}{E':.m}
theorem Oj(I:.n)(hx:X.ex=[])(os:s'.os=s.os)(bare:AllBare s'.gens)(un:Un (eH X.stack) [] H H' s.heap s'.heap)(aO:dR X.prog X.w H' s'.heap)(stB:B.StaysIn s'.heap)(ov:rn B (eH X.stack) H H' s.heap)
  (q:E C none H') (fly:∀(Q:Unit->wm->Prop),(∀h',fR B X.outer ex C .none h'->s'.heap.UpToSlots h'->Q () {s' with heap:=h'})->wx .o X.A (leaving X.env (.ref ex)) Q E' s') :
  wx .o X.A (leaving X.env (.ref ex)) (λ_ s''=>fE X.prog X.w X.outer X.H₀ X.s₀ E (.ref ex) s'') E' s':=by
 have base:Un X.fs [] X.H₀ H X.s₀.heap s.heap:=by have:=I.base;rwa[hx]at this
 have nL:∀b o,X.s₀.heap.get? b=some o->b ∉ X.fs->b ∉ eH X.stack:=λb o e n z=>by
  rcases wG.mp (I.oI b z)with r | r
  ·exact wT (wW (wF e) I.ok.above) r
  ·exact n r
 have old:∀b o,X.s₀.heap.get? b=some o->X.H₀ b=none->b ∉ X.fs->B.get? b=some o:=λb o e n nf =>
  ov.old b o (base.keep b o e n nf .u) (base.free b o e n .u) (nL b o e nf)
 have tE:∀b o,X.s₀.heap.get? b=some o->b ∉ X.fs->∃u,B.get? b=some u:=λb o e nf=>by
  obtain⟨o',e1⟩:=base.there b o e .u;exact ov.tE b o' e1 (nL b o e nf)
 refine fly _ λh' F sm=>⟨ex,C,H',B,rfl,os.trans I.os,bare,⟨λb o e n nf _=>F.st b o (old b o e n nf),λb o e n hb _=>?_,λb o e n _=>?_,λb o e _=>?_,λb xs e=>un.jw b xs (base.jw b xs e),
  λb o u e=>un.iV b o u (base.iV b o u e),λb ps e=>?_⟩,λa o e=>?_,F,⟨ov.jM,old,tE⟩,q⟩
 ·obtain⟨sl,e1⟩:=base.slot b o e n hb .u
  obtain⟨sl',e2⟩:=un.any e1 (base.free b o e n .u) .u;obtain⟨_,o',ho',nr⟩:=I.ok.fH.mem hb;rw[e]at ho';cases ho';obtain⟨sl2,e3⟩:=sm b _ e2 nr;exact⟨sl2,e3⟩
 ·obtain⟨o',e1⟩:=base.there b o e .u
  exact un.free b o' e1 (base.free b o e n .u) .u
 ·by_cases hb:b∈X.fs
  ·obtain⟨_,o',ho',nr⟩:=I.ok.fH.mem hb
   rw[e]at ho';cases ho';have n:X.H₀ b=none:=I.ok.kz b hb;obtain⟨sl,e1⟩:=base.slot b o e n hb .u;obtain⟨sl',e2⟩:=un.any e1 (base.free b o e n .u) .u;obtain⟨sl2,e3⟩:=sm b _ e2 nr;exact⟨_,e3⟩
  ·obtain⟨u,e1⟩:=tE b o e hb
   exact⟨u,F.st b u e1⟩
 ·obtain⟨m1,e1⟩:=base.jx b ps e
  obtain⟨m2,e2⟩:=un.jx b _ e1;exact⟨m1++m2,by rw[e2,XM]⟩
 ·refine(aO a o e).md (λb u hb r=>?_) (λ_ z=>z) λ_ _ z=>z
  have:∃v,B.get? b=some v:=by
   rcases hb with rfl | hb
   ·exact ov.jM _ _ e
   ·exact ov.jM _ _ hb
  obtain⟨v,ev⟩:=this;have e2:=stB b v ev;rw[r]at e2;cases e2;exact F.st b u ev
theorem zyK{e:wf}(I:.n)(hx:X.ex=[])(hs:X.stack=X.env::X.outer)(hf:X.env.frame=some X.env.locals)(h:fE X.prog X.w X.stack H s E e s') :
  wx .o X.A (leaving X.env e) (λ_ s''=>fE X.prog X.w X.outer X.H₀ X.s₀ E e s'') E' s':=by
 obtain⟨ex,C,H',B,rfl,os,bare,un,aO,F,ov,q⟩:=h;rw[hs]at F;exact Oj I hx os bare un aO F.st ov q λQ k=>F.leave (I.ok.frames.trans (congrArg some hs)) hf k
theorem zwi{h':wJ}{vs:.J}(I:.n)(hx:X.ex=[])(hs:X.stack=X.env::X.outer)(hf:X.env.frame=some X.env.locals)(m:Uf s.heap h' ex C vs)(q:E C none H) :
  wx .o X.A (leaving X.env (.ref ex)) (λ_ s''=>fE X.prog X.w X.outer X.H₀ X.s₀ E (.ref ex) s'') E' {s with heap:=h'}:=by
 obtain⟨B,hB⟩:∃B,B=uM s.heap (eH X.stack):=⟨_,rfl⟩;have hin:∀env∈X.stack,∀b,env.frame=some b->b∈eH X.stack:=λenv he b hb=>xb.mpr ⟨env,he,hb⟩
 have frB:s.heap.FunFrames B X.stack:=by rw[hB];exact PySem.W.funFrames_hide I.stack hin
 have getB:∀{b o},s.heap.get? b=some o->b ∉ eH X.stack->B.get? b=some o:=λe n=>by rw[hB];exact Xz _ e n
 have ofB:∀{b o},B.get? b=some o->s.heap.get? b=some o:=λr=>by rw[hB]at r;exact XJ _ r
 have nfr:∀a o,H a=some o->a ∉ eH X.stack:=λa o e z=>by
  have:=I.yG a z;rw[e]at this;cases this
 obtain⟨t,he,_,_⟩:=m.there
 refine Oj (B:=B) (s':={s with heap:=h'}) I hx rfl I.bare (Un.kept m.keeps) (I.aO.kept m.keeps) (λb o r=>m.keeps b o (ofB r))
  ⟨λa o e=>?_,λb o e _ nf=>getB e nf,λb o e nf=>⟨o,getB e nf⟩⟩ q λQ k=>?_
 ·obtain⟨u,e1⟩:=(I.aO a o e).there
  exact⟨u,getB e1 (nfr a o e)⟩
 ·rw[hs]at frB
  refine zwZ (s:={s with heap:=h'}) (I.ok.frames.trans (congrArg some hs)) hf (λb o r=>m.keeps b o (ofB r)) (frB.of_keeps λb o hb _=>⟨o,m.keeps b o hb,rfl⟩) ⟨_,_,he,rfl,rfl,rfl,rfl,rfl,?_⟩ k;cases z:B.get? ex with
  | none=>rfl
  | some o =>
   have:=ofB z;rw[m.new]at this;cases this
end
variable{K:wa}{base:wJ}{qual:Str}
theorem zP{P:wK}{w:wO}{mg:.I}{N:.Q}{scope:Scope}{f:we}{cd:wf}{A:vg}{outer:.bj}{s:wm}{H:Hp}{E:XK} :
  oO (fE P w) (jD (fE P w) P w K mg base N qual scope f cd A outer s H E) E:=λpins σ H1 s1 e s' I h=>zyK I rfl rfl rfl h
def YS(X:Cx)(C:wf)(E:XK):Prop:=∀(pins:.l)(σ : St)(H:Hp)(s:wm)(h':wJ)(ex:we)(vs:.J),Inv X pins σ H s->Uf s.heap h' ex C vs->E C none H->X.xe (.ref ex) {s with heap:=h'}
theorem Oe{P:wK}{w:wO}{mg:.I}{N:.Q}{scope:Scope}{f:we}{cd C:wf}{A:vg}{outer:.bj}{s:wm}{H:Hp}{E:XK} :
  YS (jD (fE P w) P w K mg base N qual scope f cd A outer s H E) C E:=λpins σ H1 s1 h' ex vs I m q=>zwi I rfl rfl rfl m q
def sZ:List wf:=[.type "ValueError",.type "Exception",.type "BaseException",.type "object"]
theorem zCi{h:wJ}{C:we}{bmB:.J}{newId:.ar}(X:K.In h)(q:qo K C bmB newId=true) :
  ∃bm N nm qn bs hd sn sub ab col dd k0 k1 k2 k3 k5 mN,h.get? C=some (excClassObj nm qn C N bs bm hd sn sub ab col dd k0 k1 k2 k3 k5 newId)/\h.Ns N mN/\mN "__init__"=none/\OwnTail h bmB bm:=by
 unfold qo at q
 split at q
 case h_2=>cases q
 rename_i dd cd sl ho
 split at q
 case h_2=>cases q
 rename_i C' bm k0 k1 k2 k3 n k5 hm hs;simp only[w8,beq_iff_eq,WX]at q;obtain⟨⟨⟨⟨⟨rfl,rfl⟩,hdel⟩,ht⟩,aO⟩,hni⟩:=q;obtain⟨nm,bs,mro,ns,qn,hd,sn,sub,ab,col,del⟩:=cd;dsimp only at hm hdel aO hni;subst hm hdel
 have e:sl = #[k0,k1,k2,k3,some (.builtin n),k5]:=by
  cases sl;simp only at hs;rw[hs]
 subst e;exact⟨bm,ns,nm,qn,bs,hd,sn,sub,ab,col,dd,k0,k1,k2,k3,k5,_,X _ _ ho,.of_isNs (PySem.W.isNs_of_in X aO),PySem.W.nsMap_none_of_in X aO hni,PySem.W.tail_of_in X ht⟩
section
variable{X:Cx}{x:Str}{C:we}{E:XK}{e:Expr}{es:.ak}{t:TA}{np cpos pos:Pos}
def YK(C:wf)(E:XK)(t:TA):TS:=λ_ σ H=>t σ H λvs H1=>vs.length<=vd/\E C none H1
theorem zvm(q:qo X.K C sZ "ValueError.__new__"=true)(hc:.bu)(hg:Gl X x)(hm:X.mg x=some (.ref C))(Z:YS X (.ref C) E)(ha:PA X (e::es) t)(hdb:.ay=false:=by decide)
  (he:wY (e::es) X.env=(false,eval e X.env)::wY es X.env:=by rfl) (hpl:(V1 cpos (wY es X.env)).any (·.1)=false:=by rfl) :
  PS X (.Raise (some (.Call (.Name x np) (e::es) [] cpos)) none pos) (YK (.ref C) E t):=by
 intro pins s σ H D I h;obtain⟨bm,N,nm,qn,bs,hd,sn,sub,ab,col,dd,k0,k1,k2,k3,k5,mN,hC,hN,hni,T⟩:=zCi I.ok.mod.tD q
 refine wpAny_Raise_call_subU (C:=C) (nm:=nm) (q:=qn) (N:=N) (bs:=bs) (bm:=bm) (hdct:=hd) (sn:=sn) (sub:=sub) (ab:=ab) (col:=col) (dd:=dd) (k0:=k0) (k1:=k1) (k2:=k2) (k3:=k3) (k5:=k5)
  Xq .M Xq (mN:=mN) (T.hasType .M) .aE (by rw[he];show(false || (V1 cpos (wY es X.env)).any (·.1))=false;rw[hpl];rfl) hni (sN I hg hm ⟨rfl,?_⟩ hdb)
 have ha':=ha cpos pins s σ H _ I h;rw[he]at ha' ⊢;refine Xm (WP ha' (λus s2 ⟨vs,H2,I2,r,z,q2⟩=>⟨rfl,by rw[<- r.length];exact z,I2.bk _ _ hC,hN.keeps I2.bk,T.keeps I2.bk,λh' ex m=>Z pins σ H2 s2 h' ex us I2 m q2⟩) λ_ _ y=>y)
end
abbrev Cx.at(X:Cx)(pn:.l)(E:.m):Cx:={X with pn:=pn,xe:=E}
abbrev Cx.yN(X:Cx)(pn:.l)(ex:we)(oe:Obj):Cx:={X with pn:=pn++[(ex,oe)],xe:=λ_ _=>False,A:=X.A.mark (some (.ref ex)),calm:=false}
section
variable{X:Cx}{pins pins':.l}{σ : St}{H:Hp}{s:wm}{ex:we}{oe:Obj}
theorem Inv.aaK(I:.n)(E:.m):Inv (X.at (X.pn++pins) E) [] σ H s :=
 ⟨⟨I.ok.mod,I.ok.kind,I.ok.glob,I.ok.blt,I.ok.above,I.ok.inj,I.ok.has,I.ok.mI,I.ok.hd,I.ok.frames,I.ok.nV,I.ok.sP,I.ok.bs,I.ok.jJ,I.ok.me,I.ok.ng,I.ok.fH,I.ok.kz⟩,I.os,I.bare,I.base,I.loc,I.cell,I.free,I.gK,
  λp hp=>I.pin p (by rw[vS]at hp;exact hp),I.aO,I.len⟩
theorem Inv.rP{E:.m}(I:Inv (X.at (X.pn++pins) E) pins' σ H s):Inv X pins σ H s :=
 ⟨⟨I.ok.mod,I.ok.kind,I.ok.glob,I.ok.blt,I.ok.above,I.ok.inj,I.ok.has,I.ok.mI,I.ok.hd,I.ok.frames,I.ok.nV,I.ok.sP,I.ok.bs,I.ok.jJ,I.ok.me,I.ok.ng,I.ok.fH,I.ok.kz⟩,I.os,I.bare,I.base,I.loc,I.cell,I.free,I.gK,
  λp hp=>I.pin p (V3 _ hp),I.aO,I.len⟩
theorem Inv.aaI(I:.n)(he:s.heap.get? ex=some oe)(hn:H ex=none)(nl:ex≠X.env.locals)(nf:ex ∉ X.fs)(nc:∀v,oe.data≠.cell v):Inv (X.yN (X.pn++pins) ex oe) [] σ H s :=
 ⟨⟨I.ok.mod,I.ok.kind,I.ok.glob,I.ok.blt,I.ok.above,I.ok.inj,I.ok.has,I.ok.mI,λz=>Bool.noConfusion z,I.ok.frames,I.ok.nV,I.ok.sP,I.ok.bs,I.ok.jJ,I.ok.me,I.ok.ng,I.ok.fH,I.ok.kz⟩,I.os,I.bare,I.base,I.loc,I.cell,I.free,I.gK,
  λp hp=>by
   rw[vS]at hp;rcases Wc.mp hp with z | z
   ·exact I.pin p z
   ·cases vc.mp z
    exact⟨he,hn,nl,nf,nc⟩,I.aO,I.len⟩
theorem Inv.yO(ok:X.Ok)(I:Inv (X.yN (X.pn++pins) ex oe) pins' σ H s):Inv X pins σ H s :=
 ⟨ok,I.os,I.bare,I.base,I.loc,I.cell,I.free,I.gK,λp hp=>I.pin p (V3 _ (V3 _ hp)),I.aO,I.len⟩
end
def UK(CX:gx)(X:Cx)(W:St->XK):Prop:=∀(pins:.l)(σ : St)(H:Hp)(s:wm)(e:wf)(s':wm),Inv X pins σ H s->CX X.stack H s (W σ) e s'->X.xe e s'
def FN(sp:Sp)(W:St->XK)(t:TA):TE:=λσ H Q=>t σ H λvs H1=>sp vs H1 Q (W σ)
section
variable{X:Cx}{CX:gx}{k:Nat}{f:we}{fd:wA}{ps:.Q}{sp:Sp}{W:St->XK}{x:Str}{p pos:Pos}{e:Expr}{es:.ak}{t:TA}
theorem zBO(F:aG X.prog X.w X.K X.mg X.base CX k f fd ps sp)(hr:eT k X.A)(hg:Gl X x)(hm:X.mg x=some (.ref f))(hk:Qh X.K (.ref f)=true)(hb:nA X.K fd ps [])(hx:UK CX X W)
  (ha:PA X (e::es) t) (hdb:.ay=false:=by decide) (he:wY (e::es) X.env=(false,eval e X.env)::wY es X.env:=by rfl) (hpl:(V1 pos (wY es X.env)).any (·.1)=false:=by rfl) :
  PE X (.Call (.Name x p) (e::es) [] pos) (FN sp W t):=by
 intro pins s σ H Q I h;refine Qg (sN I hg hm ?_ hdb);refine XN (h₀:=X.base) I.ok.mod.tD hk (aQ (ha pos pins s σ H _ I h) λus s1 ⟨vs,H1,I1,r,q⟩=>⟨I1.eF,?_⟩) he hpl;have hl:us.length=ps.length:=by rw[<- r.length];exact F.len _ _ _ _ q
 have hbd:BindsTo s1 fd ⟨us,[]⟩ (ps.zip us):=by simpa using hb s1 us I1.eF (by simpa using hl)
 refine wpAny_call (codeAny_mono (F.run X.A X.stack s1 H1 ⟨us,[]⟩ us vs Q (W σ) hr I1.Nt hbd r q) λr s' hq=>?_);cases r with
 | error e=>exact hx pins σ H1 s1 e s' I1 hq
 | ok fl =>
  cases fl with
  | ret u=>exact I1.after hq
  | next=>exact Vc hq
  | brk=>exact Vc hq
  | cont=>exact Vc hq
end
structure Pk(C:wf)(oe:Obj):Prop where
 cls:oe.cls=C
 fld:∃vs,oe.data=.fields vs/\vs[2]? = some .none
 dict:oe.dict=none
section
variable{X:Cx}{x n:Str}{G:wf}{i:Nat}{b₀ : w6}{body suite:List w6}{np hpos pos:Pos}{tb:(St->XK)->TS}{th:we->wf->TS}
end
structure Hd(X:Cx)(ex:we)(C:wf)(oe:Obj):Prop where
 hd:X.A.handled=some (.ref ex)
 pn:(ex,oe)∈X.pn
 ob:Pk C oe
section
variable{P:wK}{w:wO}{K:wa}{mg:.I}{base:wJ}
end
section
variable{X:Cx}{k:Nat}{f:we}{fd:wA}{ps:.Q}{sp:we->wf->Sp}{x:Str}{p pos:Pos}{e:Expr}{es:.ak}{t:TA}{ex:we}{C:wf}{oe:Obj}
end
variable{scope:Scope}
def iK(cells:.aW):List (Str × Vf)->List (Str × we)->List (Str × we)
 | [],acc=>acc
 | (n,k)::r,acc=>iK cells r (if(k == NameKind.free)=true then(n,(cells.lookup n).getD 0)::acc else acc)
theorem zni{env:Env}(h:∀y∈scope.names,y.2=.free->∃c,env.cells.lookup y.1=some c):closureFor scope env=pure (iK env.cells scope.names []):=by
 unfold closureFor;generalize scope.names=names at h
 suffices g:∀(names:List (Str × Vf))(acc:.aW),(∀y∈names,y.2=.free->∃c,env.cells.lookup y.1=some c) ->
     (forIn names acc λ(x:Str × Vf)(r:.aW)=>if(x.2 == NameKind.free)=true then do let c <- cellOf env x.1;pure (ForInStep.yield ((x.1,c)::r))else pure (ForInStep.yield r):Sem (List (Str × we)))=pure (iK env.cells names acc) by
   have:=g names [] h
   show(_ >>= pure)=_
   rw[bind_pure];exact this
 intro names
 induction names with
 | nil=>intro acc _;rfl
 | cons y r ih =>
   intro acc hy;obtain⟨n,k⟩:=y;rw[qU]
   by_cases e:(k == NameKind.free)=true
   . obtain⟨c,hc⟩:=hy (n,k) wz (beq_iff_eq.mp e)
     have hcell:cellOf env n=pure c:=by
       unfold cellOf;rw[hc]
     simp only[e,if_true,hcell,pure_bind];rw[ih _ λz hz=>hy z (wt _ hz)]
     show _=pure (iK env.cells r _)
     simp only[e,if_true,hc,QF]
   . simp only[e,pure_bind]
     rw[if_neg .u,pure_bind];dsimp only;rw[ih _ λz hz=>hy z (wt _ hz)]
     show _=pure (iK env.cells r _)
     rw[if_neg e]
theorem Zk{cells:.aW} : ∀(names:List (Str × Vf))(acc:.aW)(x:Str)(c:we),(∀y∈names,y.2=.free->∃c,cells.lookup y.1=some c)->(∀x c,acc.lookup x=some c->cells.lookup x=some c) ->
  (iK cells names acc).lookup x=some c->cells.lookup x=some c
 | [],acc,x,c,_,ha,h=>ha x c h
 | (n,k)::r,acc,x,c,hy,ha,h=>by
  unfold iK at h;refine Zk r _ x c (λz hz=>hy z (wt _ hz)) (λx' c' h'=>?_) h
  split at h'
  ·rename_i e
   obtain⟨c0,hc0⟩:=hy (n,k) wz (beq_iff_eq.mp e);rw[qM]at h'
   split at h'
   ·rename_i e2
    rw[beq_iff_eq.mp e2,hc0];rw[hc0]at h';exact h'
   ·exact ha x' c' h'
  ·exact ha x' c' h'
theorem Sl{cells:.aW} : ∀(names:List (Str × Vf))(acc:.aW)(x:Str),(∃c,acc.lookup x=some c)->∃c,(iK cells names acc).lookup x=some c
 | [],acc,x,h=>h
 | (n,k)::r,acc,x,h=>by
  unfold iK;refine Sl r _ x ?_
  split
  ·rw[qM]
   split
   ·exact⟨_,rfl⟩
   ·exact h
  ·exact h
theorem zuJ{cells:.aW} : ∀(names:List (Str × Vf))(acc:.aW)(x:Str),(x,NameKind.free)∈names->∃c,(iK cells names acc).lookup x=some c
 | [],acc,x,h=>nomatch h
 | (n,k)::r,acc,x,h=>by
  unfold iK;rcases wG.mp h with e | e
  ·cases e
   rw[if_pos .M];refine Sl r _ _ ?_;rw[qM];simp
  ·exact zuJ r _ x e
theorem N8(g:Str->Vf->Vf):∀(names:List (Str × Vf))(x:Str),(names.map λy=>(y.1,g y.1 y.2)).lookup x=(names.lookup x).map (g x)
 | [],x=>rfl
 | (n,k)::r,x=>by
  rw[ve,qM,qM];dsimp only
  by_cases e:(x == n)=true
  ·have e':=beq_iff_eq.mp e
   subst e';simp
  ·rw[uH]at e
   simp only[e];exact N8 g r x
def zj(env:Env)(x:Str)(k:Vf):Vf:=if(k == .free&&env.scope.kind == .function&&env.kindOf x == some .cell)=true then .cell else k
theorem RY{env:Env}(x:Str):(relabel scope env).names.lookup x=(scope.names.lookup x).map (zj env x):=by
 rw[<- N8]
 show(scope.names.map _).lookup x=_
 congr 2
 funext ⟨n,k⟩
 dsimp only[zj]
 split<;>rfl
def ET(inner outer:List (Str × Vf))(N N':.Q)(src:.R):Bool :=
 (inner.all λy=>(y.2 != .cell)&&(y.2 != .local || inner.lookup y.1 == some .local)&&(y.2 != .free || outer.lookup y.1 == some .cell)) &&
 (N'.length == src.length)&&((N'.zip src).all λp=>match p.2 with
  | none=>true
  | some j=>N[j]? == some p.1&&outer.lookup p.1 == some .cell&&inner.lookup p.1 == some .free)
theorem pL.by{X:Cx}{N':.Q}{src:.R}(hk:scope.kind=.function)(hc:ET scope.names X.env.scope.names X.N N' src=true)(hf:∀x,X.env.scope.names.lookup x=some .cell->∃c,X.env.cells.lookup x=some c:=by exact λx h=>Ct h) :
  pL X N' scope (iK X.env.cells scope.names []) src:=by
 unfold ET at hc;simp only[w8,Wk,beq_iff_eq,uW,bne_iff_ne,ne_eq]at hc;obtain⟨⟨h1,h2⟩,h3⟩:=hc;have fr:∀y∈scope.names,y.2=.free->∃c,X.env.cells.lookup y.1=some c:=λy hy e=>hf _ (((h1 y hy).2).elim (λz=>absurd e z) id)
 have at3:∀(i:Nat)(x:Str)(j:Nat),N'[i]? = some x->src[i]? = some (some j)->X.N[j]? = some x/\X.env.scope.names.lookup x=some .cell/\scope.names.lookup x=some .free:=λi x j e1 e2=>by
  have m:(x,some j)∈N'.zip src:=by
   rw[Xg];exact⟨i,by rw[List.getElem?_zip_eq_some];exact⟨e1,e2⟩⟩
  have:=h3 _ m;simp only[w8,beq_iff_eq]at this;exact⟨this.1.1,this.1.2,this.2⟩
 refine⟨hk,λy hy=>((h1 y hy).1).1,λy hy e=>(((h1 y hy).1).2).elim (λz=>absurd e z) id,⟨zni fr,λx c e=>Zk _ _ x c fr (λ_ _ z=>by simp at z) e,λx e=>?_⟩,⟨h2,λi j x e1 e2=>⟨(at3 i x j e1 e2).1,(at3 i x j e1 e2).2.1⟩⟩,λi x e1 e2=>?_⟩
 ·rw[RY]at e
  cases q:scope.names.lookup x with
  | none=>rw[q]at e;simp at e
  | some k =>
   have hm:=Vu q
   have hk:k=.free:=by
    rw[q]at e;simp only[uX,Qq,zj]at e;have nc:k≠.cell:=((h1 _ hm).1).1;rcases e with e | e
    ·split at e
     ·rename_i z;simp only[w8,beq_iff_eq]at z;exact z.1.1
     ·exact absurd e nc
    ·split at e
     ·cases e
     ·exact e
   subst hk;exact zuJ _ _ x hm
 ·obtain⟨o,ho⟩:∃o,src[i]? = some o:=by
   have:i<src.length:=by rw[<- h2];exact(WZ.mp e1).1
   exact⟨src[i],by simp[this]⟩
  cases o with
  | none=>exact absurd ho e2
  | some j =>
   have:=(at3 i x j e1 ho).2.2;rw[RY,this];simp only[uX,Qq,zj]
   split
   ·exact .inl rfl
   ·exact .inr rfl
section
variable{prog:wK}{w:wO}{A:vg}{E:.m}{s:wm}
end
section
variable{X:Cx}{ex:we}{C:wf}{oe:Obj}{pins:.l}{σ : St}{H:Hp}{s:wm}{pos:Pos}
variable{tg l:Expr}{tl:TE}
variable{N':.Q}{scope:Scope}{cl:.aW}{src:.R}{elt tgt iter:Expr}{ifs:.ak}{wi:TI}{g:TG}{tt:TT}{te:TE}
end
def AU(K:wa)(g:TG)(tt:TT)(te:TE)(src:.R)(σ : St)(x:V)(H1:Hp)(Q:VK):Prop :=
 ∃a,x=.ref a/\(∃xs,aE K H1 a xs) /\ ∀D,H1 D=none->lY g tt te (kA K a) D (eD src σ) (upd H1 D (.lst [])) (λH'=>Q .bx H')
def B4(K:wa)(g:TG)(tt:TT)(te:TE)(src:.R)(σ : St)(x:V)(H1:Hp)(Q:VK):Prop :=
 ∃a,x=.ref a/\(∃xs,aV K H1 a xs) /\ ∀D,H1 D=none->lY g tt te (kC K a) D (eD src σ) (upd H1 D (.lst [])) (λH'=>Q .bx H')
def DS(g:TG)(tt:TT)(te:TE)(src:.R)(σ : St)(vs:.x)(H1:Hp)(Q:VK):Prop :=
 ∃j:Int,vs=[.int j] /\ -(2^62)<=j/\j<2^62 /\ ∀D,H1 D=none->lY g tt te (gZ 0 j.toNat) D (eD src σ) (upd H1 D (.lst [])) (λH'=>Q .bx H')
section
variable{K:wa}{g:TG}{tt:TT}{te ta:TE}{tA:TA}{src:.R}{σ : St}{H:Hp}{Q:VK}{a:we}{xs:.x}{n:Int}
theorem zAf(h:ta σ H λx H1=>AU K g tt te src σ x H1 Q):lR src (FT K ta) g tt te σ H Q:=h
theorem zBY(h:ta σ H λx H1=>B4 K g tt te src σ x H1 Q):lR src (YO K ta) g tt te σ H Q:=h
theorem zBk(h:tA σ H λvs H1=>DS g tt te src σ vs H1 Q):lR src (EK tA) g tt te σ H Q:=h
def sh(Pv:we->Nat->List V->St->Hp->Prop)(D:we)(i:Nat)(σ3:St)(y:V)(H5:Hp):Prop :=
 ∃ys,H5 D=some (.lst ys)/\ys.length<vd /\ ∃ys',Pv D (i+1) ys' σ3 (upd H5 D (.lst (ys++[y])))
def jl(Pv:we->Nat->List V->St->Hp->Prop)(g:TG)(tt:TT)(te:TE)(D:we)(i:Nat)(x:V)(σ':St)(H':Hp):Prop :=
 g x σ' H' λσ3 H3=>tt σ3 H3 λok H4=>if ok=true then te σ3 H4 λy H5=>sh Pv D i σ3 y H5 else ∃ys',Pv D (i+1) ys' σ3 H4
theorem jU{Pv:we->Nat->List V->St->Hp->Prop}{D:we}{i:Nat}{σ3:St}{y:V}{H5:Hp}{ys:.x}(h:H5 D=some (.lst ys))(z:ys.length<=1000)(q:∀H6,Exc D H5 H6->H6 D=some (.lst (ys++[y]))->Pv D (i+1) (ys++[y]) σ3 H6):sh Pv D i σ3 y H5 :=
 ⟨ys,h,gW z,_,q _ (Exc.upd D H5 _) dk⟩
theorem Gp{J:It}{N:Nat}{D:we}{σ0:St}{H0:Hp}{R:Hp->Prop}(Pv:we->Nat->List V->St->Hp->Prop)(item:Nat->V->Prop)(h0:Pv D 0 [] σ0 H0)
  (stop:∀i ys σ' H',Pv D i ys σ' H'->N<=i->J.stop i H') (go:∀i ys σ' H',Pv D i ys σ' H'->i<N->J.go i H') (fW:∀i ys σ' H' x H2,Pv D i ys σ' H'->J.fW i H' x H2->H2=H'/\item i x)
  (hs:∀i x ys σ' H',i<N->item i x->Pv D i ys σ' H'->jl Pv g tt te D i x σ' H') (hd:∀ys σ' H',Pv D N ys σ' H'->R H'):lY g tt te J D σ0 H0 R:=by
 refine⟨λi m σ' H'=>i+m=N /\ ∃ys,Pv D i ys σ' H',⟨N,by lia,[],h0⟩,?_⟩;rintro i m σ' H' ⟨him,ys,hp⟩
 by_cases hm:m=0
 ·subst hm
  have e:i=N:=by lia
  subst e;exact .inl ⟨stop _ _ _ _ hp .Y,hd _ _ _ hp⟩
 ·refine .inr ⟨go _ _ _ _ hp .a,λσ2 H2=>∃ys,Pv D (i+1) ys σ2 H2,λσ2 H2 h=>⟨m-1,by lia,by lia,h⟩,λx H2 hy2=>?_⟩
  obtain⟨e,hit⟩:=fW _ _ _ _ _ _ hp hy2;subst e;exact hs i x ys σ' H2 .a hit hp
theorem pR(hx:aE K H a xs)(Pv:we->Nat->List V->St->Hp->Prop)(h0:∀D H',H D=none->ar H H'->H' D=some (.lst [])->Pv D 0 [] (eD src σ) H')(hl:∀D i ys σ' H',Pv D i ys σ' H'->aE K H' a xs)
  (hs:∀D i x ys σ' H',xs[i]? = some x->Pv D i ys σ' H'->jl Pv g tt te D i x σ' H') (hd:∀D ys σ' H',Pv D xs.length ys σ' H'->Q .bx H'):AU K g tt te src σ .bq H Q:=by
 refine⟨a,rfl,⟨xs,hx⟩,λD hD=>Gp (N:=xs.length) Pv (λi x=>xs[i]? = some x) (h0 D _ hD (ar.upd hD) dk) (λi ys σ' H' hp hi=>⟨xs,hl _ _ _ _ _ hp,hi⟩) (λi ys σ' H' hp hi=>?_) (λi ys σ' H' x H2 hp hy=>?_)
  (λi x ys σ' H' _ hit hp=>hs D i x ys σ' H' hit hp) (hd D)⟩
 ·exact⟨xs,xs[i],hl _ _ _ _ _ hp,by simp[hi]⟩
 ·obtain⟨e,hy⟩:=hy
  exact⟨e,hy xs (hl _ _ _ _ _ hp)⟩
theorem zwH(hx:aV K H a xs)(Pv:we->Nat->List V->St->Hp->Prop)(h0:∀D H',H D=none->ar H H'->H' D=some (.lst [])->Pv D 0 [] (eD src σ) H')(hl:∀D i ys σ' H',Pv D i ys σ' H'->aV K H' a xs)
  (hs:∀D i x ys σ' H',xs[i]? = some x->Pv D i ys σ' H'->jl Pv g tt te D i x σ' H') (hd:∀D ys σ' H',Pv D xs.length ys σ' H'->Q .bx H'):B4 K g tt te src σ .bq H Q:=by
 refine⟨a,rfl,⟨xs,hx⟩,λD hD=>Gp (N:=xs.length) Pv (λi x=>xs[i]? = some x) (h0 D _ hD (ar.upd hD) dk) (λi ys σ' H' hp hi=>⟨xs,hl _ _ _ _ _ hp,hi⟩) (λi ys σ' H' hp hi=>?_) (λi ys σ' H' x H2 hp hy=>?_)
  (λi x ys σ' H' _ hit hp=>hs D i x ys σ' H' hit hp) (hd D)⟩
 ·exact⟨xs,xs[i],hl _ _ _ _ _ hp,by simp[hi]⟩
 ·obtain⟨e,hy⟩:=hy
  exact⟨e,hy xs (hl _ _ _ _ _ hp)⟩
theorem Bt(h0' : -1000000000<=n)(h1:n<1000000000)(Pv:we->Nat->List V->St->Hp->Prop)(h0:∀D H',H D=none->ar H H'->H' D=some (.lst [])->Pv D 0 [] (eD src σ) H')
  (hs:∀D (i:Nat) ys σ' H',i<n.toNat->Pv D i ys σ' H'->jl Pv g tt te D i (.int (i:Int)) σ' H') (hd:∀D ys σ' H',Pv D n.toNat ys σ' H'->Q .bx H'):DS g tt te src σ [.int n] H Q:=by
 refine⟨n,rfl,by lia,by lia,λD hD=>Gp (N:=n.toNat) Pv (λi x=>x=.int (i:Int)) (h0 D _ hD (ar.upd hD) dk) (λi ys σ' H' hp hi=>hi) (λi ys σ' H' hp hi=>hi) (λi ys σ' H' x H2 hp hy=>?_)
  (λi x ys σ' H' hi hit hp=>?_) (hd D)⟩
 ·obtain⟨e,hy⟩:=hy
  exact⟨e,by rw[hy,Int.zero_add]⟩
 ·subst hit
  exact hs D i ys σ' H' hi hp
end
structure zp(u' u:TS):Prop where
 e:u'=u
theorem zCQ{t u:TS}{D:c_}{σ : St}{H:Hp}(h:∀u',zp u' u->t {D with nx:=u' D} σ H):EL t u D σ H:=h u ⟨rfl⟩
theorem zp.go{u' u:TS}{D:c_}{σ : St}{H:Hp}(e:zp u' u)(h:u D σ H):u' D σ H:=by rw[e.e];exact h
theorem Ij{P:wK}{w:wO}{X:Cx} : oO (fE P w) X E0:=λ_ _ _ _ _ _ _ h=>by
 obtain⟨_,_,_,_,_,_,_,_,_,_,_,q⟩:=h;exact q.elim
theorem m6.yu{P:wK}{w:wO}{K:wa}{mg:.I}{base:wJ}{x qual:Str}{st:w6}{f:we}{fd:wA}{N ps:.Q}{k:Nat}{sp:Sp}(F:m6 K x qual st f fd)(S:aJ N ps (aH st))(len:∀vs H Q E,sp vs H Q E->vs.length=ps.length)
  (hbody:N.Nodup->∀(cdv:wf)(A:vg)(outer:.bj)(s:wm)(H:Hp)(vs:.x)(Q:VK)(E:XK),eT k (A.deeper (envOfC qual (aH st) s.heap.objs.size f cdv))->sp vs H Q E ->
   ∃t,fZ (jD (fE P w) P w K mg base N qual (aH st) f cdv A outer s H E) (mP st) t/\t {nx:=λ_ H'=>Q .bE H',rt:=Q} (start N vs) H):aG P w K mg base (fE P w) (k+1) f fd ps sp:=by
 obtain⟨oc,od,kV,doc,pm,an,cdv,ct,osl,rfl,lk,hcd⟩:=F.ex;exact zD5 lk hcd S len λA outer s H vs Q E hr hsp=>hbody S.nd cdv A outer s H vs Q E hr hsp
theorem Exc.back{p:we}{H H' H2:Hp}(b:Exc p H' H2)(s:Exc p H H'):Exc p H H2:=s.trans b
theorem RW{X:Cx}{i j v:Int}{k1 k2:Nat}{p1 p2 pos:Pos}(hc:TJ i j)(hv:i^j.toNat=v):PE X (.BinOp (.Constant (.int i) k1 p1) .Pow (.Constant (.int j) k2 p2) pos) (tC (.int v)):=by
 subst hv;exact λpins s σ H Q I h=>(aD zFF av av:PE X _ _) pins s σ H Q I ⟨i,j,rfl,rfl,hc,h⟩
theorem zzb{α : Type}[DecidableEq α]{x : α}{A B:Prop}(h:B):if(!decide (x=x))=true then A else B:=by simpa using h
theorem zzO{α : Type}[DecidableEq α]{x : α}{A B:Prop}(h:A):if decide (x=x)=true then A else B:=by simpa using h
section
variable{K:wa}{σ : St}{H H':Hp}{Q:VK}{QB:Bool->Hp->Prop}{D:c_}{t:TA}{v w:V}{xs ys:.x}{m n:Int}{r:Rat}{p:we}
variable{x y:Rat}
theorem zGq{A B:Prop}(h:B):if(!true)=true then A else B:=by simpa using h
theorem zGZ{A B:Prop}(h:A):if(!false)=true then A else B:=by simpa using h
theorem zyO{b:Bool}(q:Q (.bl true) H):fg K [.bl b,.ty "bool"] H Q:=T1 (kX.mpr rfl) q
theorem zCB{a b:V}(h:H p=some (.lst [a,b]))(h0:0<=m)(h1:m<2)(q:∀z,z=a\/z=b->Q z H):du K .aA (.int m) H Q :=
 SO (λz=>z=a\/z=b) (aE.of h) h0 (by simpa using h1) .u q
theorem zCq{a b:Int}(h:H p=some (.lst [.int a,.int b]))(h0:0<=m)(h1:m<2)(q:∀z,z=a\/z=b->Q (.int z) H):du K .aA (.int m) H Q :=
 zCB h h0 h1 λz hz=>by rcases hz with rfl | rfl;exact q _ .aZ;exact q _ (.inr rfl)
theorem zrT(h1:x.num=y.num)(h2:.S=y.den):x=y:=by
 have h2':x.den=y.den:=by lia
 exact Ug h1 h2'
theorem tJ(x y:Rat):wR (N x) (N y)=decide (x=y):=by
 have e:wR (N x) (N y)=(decide (x.num=y.num)&&decide (.S=y.den)):=by
  simp only[N,wR,WT,Us,QJ]
 rw[e,vA,w8,decide_eq_true_eq,decide_eq_true_eq,decide_eq_true_eq]
 constructor
 ·rintro ⟨h1,h2⟩;exact zrT h1 h2
 ·rintro rfl;exact⟨rfl,rfl⟩
theorem zD(x:Rat):vT (N x)=true:=by simp[N,vT,vy,Wl,WL,Wt]
theorem zT(h:Is K H v (N x))(k:Is K H w (N y))(q:Q (.bl (decide (x=y))) H):iE K v w H Q:=mC h k (zD x) (zD y) (by rw[tJ];exact q)
theorem zET(h:Is K H v (N x))(k:Is K H w (N y))(q:Q (.bl (!decide (x=y))) H):lZ K v w H Q:=sQ h k (zD x) (zD y) (by rw[tJ];exact q)
end
theorem zAR{X:Cx} : bL X (vG .In) (gu X.K false):=zy0
theorem sF{X:Cx} : bL X (vG .NotIn) (gu X.K true):=zsI
def R(a b:Rat):wC:=.tuple [N a,N b]
theorem BB(a b:Rat):dC (R a b)=true:=by simp[R,dC,cg,lH]
structure aM(a b:Rat):Prop where
 a0:0<a
 a4:a<=4
 ad:a.den<=8
 b0:0<=b
 b1:b<=1
 bd:b.den<=12
 ab:1<=a+b
theorem aM.ba{a b:Rat}(h:.aH):af 10 a:=af.small (c:=4) (d:=8) (vY h.a0) h.a4 h.ad .M .M
theorem aM.bb{a b:Rat}(h:.aH):af 10 b:=af.small (c:=1) (d:=12) h.b0 h.b1 h.bd .M .M
section
variable{K:wa}{H:Hp}{Q:VK}{v:V}{a b:Rat}{σ : St}{gs:kS}{QS:St->Hp->Prop}
theorem zDP(h:Is K H v (R a b))(q:∀x,Is K H x (N a)->Q x H):du K v (.int 0) H Q:=aA (j:=0) h rfl q
theorem zDr(h:Is K H v (R a b))(q:∀x,Is K H x (N b)->Q x H):du K v (.int 1) H Q:=aA (j:=1) h rfl q
theorem Is.oJ{H':Hp}(h:Is K H v (R a b))(s:bC H H'):Is K H' v (R a b):=Is.keep s _ v (BB a b) h
theorem Ht{x y:V}(h1:Is K H x (N a))(h2:Is K H y (N b))(q:∀v H',ar H H'->Is K H' v (R a b)->Q v H'):nF K [x,y] H Q :=
 cJ (by show 2<=1000;decide) (.cons h1 (.cons h2 .nil)) q
end
section
variable{K:wa}{H H' H2:Hp}{Q:VK}{v w:V}{a b c d:Rat}{D:we}
theorem zyL(h:Is K H v (R a b))(q:Q (.bl true) H):fg K [v,.ty "tuple"] H Q:=PB h q
theorem zCO(h:Is K H v (R a b))(q:Q (.int 2) H):kr K [v] H Q:=mH h q
theorem ar.grow(s:ar H H')(n:H D=none)(e:Exc D H' H2):ar H H2:=λb o h=>e b o (lT h n) (s b o h)
end
theorem zAd{σ : St}{H:Hp}{Q:Bool->Hp->Prop}(q:Q true H):ZZ σ H Q:=q
theorem SA{Pv:we->Nat->List V->St->Hp->Prop}{g:TG}{tt:TT}{te:TE}{D:we}{i:Nat}{x:V}{σ':St}{H':Hp}(h:g x σ' H' λσ3 H3=>tt σ3 H3 λok H4=>if ok=true then te σ3 H4 λy H5=>sh Pv D i σ3 y H5 else ∃ys',Pv D (i+1) ys' σ3 H4) :
  jl Pv g tt te D i x σ' H':=h
section
variable{K:wa}{σ : St}{H:Hp}{Q:VK}{E:XK}{D:c_}{t:TA}{C G:wf}{i:Nat}{tb:(St->XK)->TS}{th:we->wf->TS}{sp:Sp}{W:St->XK}{ex C':we}{b:Bool}
theorem dq21:(YK C E t D σ H)=(t σ H λvs H1=>vs.length<=vd/\E C none H1):=rfl
theorem zA5(h:t σ H λvs H1=>vs.length<=vd/\E C none H1):YK C E t D σ H:=h
theorem dq22:(FN sp W t σ H Q)=(t σ H λvs H1=>sp vs H1 Q (W σ)):=rfl
theorem zBZ(h:t σ H λvs H1=>sp vs H1 Q (W σ)):FN sp W t σ H Q:=h
end
variable{p:Pos}{es:.ak}{env:Env}
theorem oQ(s:.ar):XT (Wg s)=true:=by
 rw[Str.ofString_eq_toList,XT];simp only[List.all_toArray,XU,Wk,Function.comp,decide_eq_true_eq];intro c _;have:=c.valid;simp only[Char.toNat];rcases this with h | h
 ·have:c.val.toNat<0xd800:=h
  lia
 ·exact h.2
theorem eQ{K:wa}{H:Hp}{c:we}{p q:Int}(r:Rat)(h:aV K H c [.int p,.int q])(e1:r.num=p)(e2:(r.den:Int)=q):Is K H (.ref c) (N r):=by
 subst e1 e2;exact bY.mpr ⟨c,_,rfl,h,d5.mpr ⟨_,_,rfl,cf.mpr rfl,d5.mpr ⟨_,_,rfl,cf.mpr rfl,gq.mpr rfl⟩⟩⟩
theorem Be(s:.ar):vT (.str (Wg s))=true:=by
 simp[vT,vy,WL,oQ]
theorem Bl{c:Const}{k:Nat} : wY ((.Constant c k p)::es) env=(false,eval (.Constant c k p) env)::wY es env:=rfl
theorem Oy{o:Operator}{x y:Expr} : wY ((.BinOp x o y p)::es) env=(false,eval (.BinOp x o y p) env)::wY es env:=rfl
theorem cj{x:Str} : wY ((.Name x p)::es) env=(false,eval (.Name x p) env)::wY es env:=rfl
theorem ff{x y:Expr} : wY ((.Subscript x y p)::es) env=(false,eval (.Subscript x y p) env)::wY es env:=rfl
section
variable{K:wa}{H H' H2:Hp}{Q:VK}{R:Prop}{v w y:V}{p l:we}{xs ys zs:.x}{ns:.p}{m:Int}{σ : St}
end
section
variable{K:wa}{H H' H2:Hp}{Q:VK}{R:Prop}{v w y:V}{p l:we}{xs ys zs:.x}{ns:.p}{m:Int}{σ : St}{to:TE}{t:TA}{T:.ar}{r:V->List V->Hp->VK->Prop}
theorem dq23:(OM K T r to t σ H Q)=(to σ H λx H1=>Ck K T x H1/\t σ H1 λxs H2=>r x xs H2 Q):=rfl
theorem zGH(h:to σ H λx H1=>Ck K T x H1/\t σ H1 λxs H2=>r x xs H2 Q):OM K T r to t σ H Q:=h
theorem gU(h:aE K H p xs)(q:R):Ck K "list" (.ref p) H/\R:=⟨.inl ⟨rfl,xs,h⟩,q⟩
theorem iI(h:H l=some (.lst xs))(z:xs.length<=1000)(q:∀H',Exc l H H'->H' l=some (.lst (xs++[y]))->Q .bE H'):Sk .al [y] H Q:=⟨l,xs,y,rfl,rfl,h,gW z,q _ (Exc.upd l H _) dk⟩
end
variable{X:Cx}
def ym(K:wa):List V->Hp->VK->Prop:=λxs H Q=>∃p ys,xs=[.ref p]/\((aE K H p ys /\ ∀l,H l=none->Q .al (upd H l (.tup ys)))\/(aV K H p ys/\Q .aA H))
def gc(K:wa):List V->Hp->VK->Prop:=λxs H Q=>∃p ys,xs=[.ref p]/\(aE K H p ys\/aV K H p ys) /\ ∀l,H l=none->Q .al (upd H l (.lst ys))
theorem ztL : bM X (.type "tuple") (ym X.K):=zqB
theorem jI : bM X (.type "list") (gc X.K):=zs8
def A0(K:wa):V->Option Int->Option Int->Hp->VK->Prop:=λx lo hi H Q=>Tx K x lo hi H Q\/OT K x lo hi H Q
theorem mZ : mR X (A0 X.K):=zCR.or zEO
section
variable{K:wa}{H H' H2:Hp}{Q:VK}{QO:Option Int->Hp->Prop}{R:Prop}{v w y:V}{p l:we}{xs ys zs:.x}{ds es:.br}{m:Int}{σ : St}{te:TE}{tl th:TO}{r:V->Option Int->Option Int->Hp->VK->Prop}{lo hi:Option Int}
theorem yk(h:aE K H p ys)(q:∀l H',H l=none->ar H H'->H' l=some (.tup ys)->Q .al H'):ym K [.ref p] H Q:=⟨p,ys,rfl,.inl ⟨h,λl hl=>q l _ hl (ar.upd hl) dk⟩⟩
theorem gP(h:Is K H v (.list ds))(q:∀w H',ar H H'->Is K H' w .av->Q w H'):ym K [v] H Q:=by
 obtain⟨a,xs,rfl,hs,t⟩:=cq.mp h;exact yk hs λl H' _ s e=>q _ H' s (bY.mpr ⟨l,xs,rfl,.of e,ai.same s ds xs t⟩)
theorem Y3(h:Is K H v .av)(q:Q v H):ym K [v] H Q:=by
 obtain⟨a,xs,rfl,hs,t⟩:=bY.mp h;exact⟨a,xs,rfl,.inr ⟨hs,q⟩⟩
theorem rV(h:Is K H v .av)(q:∀l H' ys,H l=none->ar H H'->H' l=some (.lst ys)->ai K H' ys ds->Q .al H'):gc K [v] H Q:=by
 obtain⟨a,xs,rfl,hs,t⟩:=bY.mp h;exact⟨a,xs,rfl,.inr hs,λl hl=>q l _ xs hl (ar.upd hl) dk (ai.same (ar.upd hl) ds xs t)⟩
theorem EC(h:Is K H v (.list ds))(q:∀l H' ys,H l=none->ar H H'->H' l=some (.lst ys)->ai K H' ys ds->Q .al H'):gc K [v] H Q:=by
 obtain⟨a,xs,rfl,hs,t⟩:=cq.mp h;exact⟨a,xs,rfl,.inl hs,λl hl=>q l _ xs hl (ar.upd hl) dk (ai.same (ar.upd hl) ds xs t)⟩
theorem dq29:(PZ r te tl th σ H Q)=(te σ H λx H1=>tl σ H1 λl H2=>th σ H2 λu H3=>r x l u H3 Q):=rfl
theorem zAH(h:te σ H λx H1=>tl σ H1 λl H2=>th σ H2 λu H3=>r x l u H3 Q):PZ r te tl th σ H Q:=h
theorem dq30:(P0 σ H QO)=(QO none H):=rfl
theorem zyC(q:QO none H):P0 σ H QO:=q
theorem dq31:(Ri te σ H QO)=(te σ H λx H1=>∃i,x=.int i/\QO (some i) H1):=rfl
theorem zCJ(h:te σ H λx H1=>∃i,x=.int i/\QO (some i) H1):Ri te σ H QO:=h
theorem zzZ{RI:Int->Prop}(q:RI m):∃i,V.int m=V.int i/\RI i:=⟨m,rfl,q⟩
def cutD{α : Type}(xs:.aY)(lo hi:Option Int):List α:=(xs.drop (HT.bA xs.length 0 lo)).take (HT.bA xs.length xs.length hi-HT.bA xs.length 0 lo)
theorem ai.take:∀{ds:.br}{xs:.x}(n:Nat),ai K H xs ds->ai K H (xs.take n) (ds.take n)
 | _,_,0,h=>by simp[ai.nil]
 | [],_,n+1,h=>by rw[gq.mp h];simp[ai.nil]
 | d::ds,_,n+1,h=>by
  obtain⟨x,r,rfl,q,t⟩:=d5.mp h;rw[XE,XE];exact .cons q (ai.take n t)
theorem ai.drop:∀{ds:.br}{xs:.x}(n:Nat),ai K H xs ds->ai K H (xs.drop n) (ds.drop n)
 | _,_,0,h=>by simpa using h
 | [],_,n+1,h=>by rw[gq.mp h];simp[ai.nil]
 | d::ds,_,n+1,h=>by
  obtain⟨x,r,rfl,q,t⟩:=d5.mp h;rw[QX,QX];exact ai.drop n t
theorem ai.cut(h:ai K H xs ds):ai K H (lV xs lo hi) (cutD ds lo hi):=by
 unfold lV cutD;rw[h.length];exact(h.drop _).take _
theorem zFa(h:aE K H p xs)(q:∀l H',H l=none->ar H H'->H' l=some (.lst (lV xs lo hi))->Q .al H'):A0 K .aA lo hi H Q:=.inl ⟨p,xs,rfl,h,λl hl=>q l _ hl (ar.upd hl) dk⟩
theorem oz(h:Is K H v (.list ds))(q:∀l H' ys,H l=none->ar H H'->H' l=some (.lst ys)->ai K H' ys (cutD ds lo hi)->Q .al H'):A0 K v lo hi H Q:=by
 obtain⟨a,xs,rfl,hs,t⟩:=cq.mp h;exact zFa hs λl H' hl s e=>q l H' _ hl s e (ai.same s _ _ t.cut)
theorem zCU(h:Is K H v .av)(hw:¬ (HT.bA ds.length 0 lo=0/\HT.bA ds.length ds.length hi=ds.length))(q:∀w H',ar H H'->Is K H' w (.tuple (cutD ds lo hi))->Q w H'):A0 K v lo hi H Q:=by
 obtain⟨a,xs,rfl,hs,t⟩:=bY.mp h;refine .inr ⟨a,xs,rfl,hs,by rw[t.length];exact hw,λl hl=>q _ _ (ar.upd hl) (bY.mpr ⟨l,_,rfl,.of dk,ai.same (ar.upd hl) _ _ t.cut⟩)⟩
theorem B8{α : Type}(xs:.aY):cutD xs none (some (-1))=xs.dropLast:=by
 unfold cutD
 show(xs.drop 0).take (((-1:Int)+(xs.length:Int)).toNat-0)=_
 rw[Uh,Xf]
 congr 1
 lia
theorem UW{α : Type}(xs:.aY):cutD xs (some 1) none=xs.tail:=by
 unfold cutD
 show(xs.drop (min 1 xs.length)).take (xs.length-min 1 xs.length)=_
 cases xs with
 | nil=>rfl
 | cons x xs =>
  have e:min 1 (x::xs).length=1:=by rw[vK];lia
  rw[e,QX,Uh,vK,Qb,Wj,Ue]
end
def TN(xs:.c):wC:=.tuple .aP
def LN(xs:.c):wC:=.list .aP
theorem eI:∀xs:List Rat,cg .aP=true
 | []=>by simp[cg]
 | x::xs=>by rw[ve,cg,lH,eI xs];rfl
theorem nX(xs:.c):dC (TN xs)=true:=by rw[TN,dC];exact eI xs
theorem zBR(x:Rat):(N x).canLay0=true:=by simp[N,vy,Wl]
theorem zDR(x:Rat):(N x).depth=1:=by simp[N,WL,Wt]
theorem yf:∀xs:List Rat,Wl .aP=true
 | []=>by simp[Wl]
 | x::xs=>by rw[ve,Wl,zBR,yf xs];rfl
theorem DO:∀xs:List Rat,Wt .aP<=1
 | []=>by simp[Wt]
 | x::xs=>by
  have:=DO xs;rw[ve,Wt,zDR];lia
theorem Cb(xs:.c):vT (TN xs)=true:=by
 unfold vT TN;rw[vy,yf,WL,Ve];have:=DO xs;exact decide_eq_true .a
theorem Zz(xs:.c):vT (LN xs)=true:=by
 unfold vT LN;rw[vy,yf,WL,Ve];have:=DO xs;exact decide_eq_true .a
theorem Gf:∀xs ys:List Rat,WT .aP (ys.map N)=decide (xs=ys)
 | [],[]=>by simp[WT]
 | [],y::ys=>by simp[WT]
 | x::xs,[]=>by simp[WT]
 | x::xs,y::ys=>by
  rw[ve,ve,WT,tJ,Gf xs ys,vA,w8,decide_eq_true_eq,decide_eq_true_eq,decide_eq_true_eq,uY]
theorem HY(xs ys:.c):wR (TN xs) (TN ys)=decide (xs=ys):=by
 unfold TN;rw[wR,Gf]
theorem zF6(xs ys:.c):wR (LN xs) (LN ys)=decide (xs=ys):=by
 unfold LN;rw[wR,Gf]
section
variable{K:wa}{H H' H2:Hp}{Q:VK}{v w y:V}{p l:we}{vs:.x}{xs ys:.c}{m:Int}{σ : St}
theorem Fc(h:Is K H v (TN xs))(k:Is K H w (TN ys))(q:Q (.bl (decide (xs=ys))) H):iE K v w H Q:=mC h k (Cb xs) (Cb ys) (by rw[HY];exact q)
theorem zDp(h:Is K H v (TN xs))(k:Is K H w (TN ys))(q:Q (.bl (!decide (xs=ys))) H):lZ K v w H Q:=sQ h k (Cb xs) (Cb ys) (by rw[HY];exact q)
theorem zxD(h:Is K H v (LN xs))(k:Is K H w (LN ys))(q:Q (.bl (decide (xs=ys))) H):iE K v w H Q:=mC h k (Zz xs) (Zz ys) (by rw[zF6];exact q)
theorem Iy{i:Nat}(t:ai K H vs .aP)(h:i<xs.length):∃x,vs[i]? = some x/\Is K H x (N .ai):=by
 refine t.get ?_;rw[wu,wb,wc h]
 rfl
theorem cw{i:Nat}{x:V}(t:ai K H vs .aP)(h:vs[i]? = some x):i<xs.length/\Is K H x (N .ai):=by
 have hl:=t.length;rw[wl]at hl
 have hi:i<xs.length:=by
  rcases wE i vs.length with z | z
  ·lia
  ·rw[wN z]at h;cases h
 obtain⟨x',e,hx⟩:=Iy t hi;rw[h]at e;cases e;exact⟨hi,hx⟩
theorem yY(h:Is K H v (TN xs))(h0:0<=m)(h1:m<xs.length)(q:∀x,Is K H x (N (xs.getD m.toNat 0))->Q x H):du K v (.int m) H Q:=by
 obtain⟨a,vs,rfl,hs,t⟩:=bY.mp h;obtain⟨n,rfl⟩:∃n:Nat,m=(n:Int):=⟨m.toNat,by lia⟩;obtain⟨x,e,hx⟩:=Iy (i:=n) t .a;exact Cf hs (m5 e) (q x hx)
theorem gY(h:Is K H v (LN xs))(h0:0<=m)(h1:m<xs.length)(q:∀x,Is K H x (N (xs.getD m.toNat 0))->Q x H):du K v (.int m) H Q:=by
 obtain⟨a,vs,rfl,hs,t⟩:=cq.mp h;obtain⟨n,rfl⟩:∃n:Nat,m=(n:Int):=⟨m.toNat,by lia⟩;obtain⟨x,e,hx⟩:=Iy (i:=n) t .a;exact jA hs (m5 e) (q x hx)
theorem zx(h:Is K H v (TN xs))(q:Q (.int xs.length) H):kr K [v] H Q:=mH h (by rw[wl];exact q)
theorem zo(h:Is K H v (LN xs))(q:Q (.int xs.length) H):kr K [v] H Q:=by
 obtain⟨a,vs,rfl,hs,t⟩:=cq.mp h;have:=t.length;rw[wl]at this;exact gE hs (by rw[this];exact q)
theorem b_(h:H l=some (.lst vs))(t:ai K H vs .aP):Is K H .al (LN xs):=cq.mpr ⟨l,vs,rfl,.of h,t⟩
theorem e_:∀{xs:.c}{vs:.x},vs.length=xs.length->(∀i x,vs[i]? = some x->Is K H x (N .ai))->ai K H vs .aP
 | [],vs,hl,_=>by
  have:vs=[]:=Vs hl;subst this;exact .nil
 | x::xs,[],hl,_=>by cases hl
 | x::xs,u::vs,hl,h=>by
  rw[ve];exact .cons (h 0 u rfl) (e_ (by simpa using hl) λi y e=>h (i+1) y e)
end
section
variable{K:wa}{g:TG}{tt:TT}{te:TE}{src:.R}{σ : St}{H:Hp}{Q:VK}{a:we}{vs:.x}{n:Int}{tl:St}{o0:.bf}
def iT(H:Hp)(tl:St)(Rel:Nat->V->Hp->Prop)(D:we)(i:Nat)(ys:.x)(σ':St)(H':Hp):Prop :=
 (∃o,σ'=o::tl)/\H D=none/\ar H H'/\H' D=some (.lst ys)/\ys.length=i /\ ∀j y,ys[j]? = some y->Rel j y H'
theorem iT.same{Rel:Nat->V->Hp->Prop}{D:we}{i:Nat}{ys:.x}{σ':St}{H':Hp}(h:iT H tl Rel D i ys σ' H'):ar H H':=h.2.2.1
theorem d_{Rel:Nat->V->Hp->Prop}{D:we}{i:Nat}{ys:.x}{σ' σ3:St}{H1 H5:Hp}{y:V}(inv:iT H tl Rel D i ys σ' H1)(hi:i<=1000)(hk:∀i v H1 H2,bC H1 H2->Rel i v H1->Rel i v H2)(hσ : ∃o,σ3=o::tl)(s:ar H1 H5)(r:Rel i y H5):sh (iT H tl Rel) D i σ3 y H5:=by
 obtain⟨_,hn,s1,hD,hl,hr⟩:=inv;have hD5:=s _ _ hD;refine jU hD5 .a λH6 E6 e6=>⟨hσ,hn,(s1.trans s).grow hn E6,e6,by simp[hl],λj z hz=>?_⟩
 have k6:bC H5 H6:=E6.keep hD5;rcases wE j ys.length with hj | hj
 ·rw[vQ hj]at hz
  exact hk _ _ _ _ (s.keep.trans k6) (hr j z hz)
 ·have hj':j=ys.length:=by
   rcases wE ys.length j with q | q
   ·rw[wN .aL]at hz;cases hz
   ·lia
  subst hj';rw[vC .Y,Vm]at hz;cases hz;rw[hl];exact hk _ _ _ _ k6 r
theorem j6(hx:aE K H a vs)(hsrc:eD src σ = o0::tl)(Rel:Nat->V->Hp->Prop)(hs:∀D i x ys o H1,vs[i]? = some x->iT H tl Rel D i ys (o::tl) H1->jl (iT H tl Rel) g tt te D i x (o::tl) H1)
  (hd:∀D ys H',H D=none->ar H H'->H' D=some (.lst ys)->ys.length=vs.length->(∀j y,ys[j]? = some y->Rel j y H')->Q .bx H'):AU K g tt te src σ .bq H Q:=by
 refine pR hx (iT H tl Rel) (λD H' n s e=>⟨⟨o0,hsrc⟩,n,s,e,rfl,λj y z=>by simp at z⟩) (λD i ys σ' H' h=>h.same.seq hx) ?_ λD ys σ' H' ⟨_,n,s,e,hl,r⟩=>hd D ys H' n s e hl r
 rintro D i x ys σ' H' hx' h;obtain⟨⟨o,rfl⟩,_⟩:=id h;exact hs D i x ys o H' hx' h
theorem jz(hx:aV K H a vs)(hsrc:eD src σ = o0::tl)(Rel:Nat->V->Hp->Prop)(hs:∀D i x ys o H1,vs[i]? = some x->iT H tl Rel D i ys (o::tl) H1->jl (iT H tl Rel) g tt te D i x (o::tl) H1)
  (hd:∀D ys H',H D=none->ar H H'->H' D=some (.lst ys)->ys.length=vs.length->(∀j y,ys[j]? = some y->Rel j y H')->Q .bx H'):B4 K g tt te src σ .bq H Q:=by
 refine zwH hx (iT H tl Rel) (λD H' n s e=>⟨⟨o0,hsrc⟩,n,s,e,rfl,λj y z=>by simp at z⟩) (λD i ys σ' H' h=>h.same.j_ hx) ?_ λD ys σ' H' ⟨_,n,s,e,hl,r⟩=>hd D ys H' n s e hl r
 rintro D i x ys σ' H' hx' h;obtain⟨⟨o,rfl⟩,_⟩:=id h;exact hs D i x ys o H' hx' h
theorem P7(h0:0<=n)(h1:n<1000000000)(hsrc:eD src σ = o0::tl)(Rel:Nat->V->Hp->Prop)(hs:∀D (i:Nat) ys o H1,i<n.toNat->iT H tl Rel D i ys (o::tl) H1->jl (iT H tl Rel) g tt te D i (.int (i:Int)) (o::tl) H1)
  (hd:∀D ys H',H D=none->ar H H'->H' D=some (.lst ys)->ys.length=n.toNat->(∀j y,ys[j]? = some y->Rel j y H')->Q .bx H'):DS g tt te src σ [.int n] H Q:=by
 refine Bt .a h1 (iT H tl Rel) (λD H' n s e=>⟨⟨o0,hsrc⟩,n,s,e,rfl,λj y z=>by simp at z⟩) ?_ λD ys σ' H' ⟨_,n,s,e,hl,r⟩=>hd D ys H' n s e hl r
 rintro D i ys σ' H' hi h;obtain⟨⟨o,rfl⟩,_⟩:=id h;exact hs D i ys o H' hi h
theorem eS{xs:.c} : ∀(i:Nat)(v:V)(H1 H2:Hp),bC H1 H2->Is K H1 v (N .ai)->Is K H2 v (N .ai):=λi v H1 H2 k h=>h.dA k
end
theorem fK{H H':Hp}{l:we}(s:ar H H')(h:H' l=none):H l=none:=by
 cases e:H l with
 | none=>rfl
 | some o=>rw[s _ _ e]at h;cases h
def TZ(ns:.p):wC:=.tuple (ns.map PyData.int)
def LL(rss:List (List Rat)):wC:=.list (rss.map LN)
theorem Z_:∀ns:List Int,cg (ns.map PyData.int)=true
 | []=>by simp[cg]
 | n::ns=>by rw[ve,cg,Z_ ns];rfl
theorem zFV(ns:.p):dC (TZ ns)=true:=by rw[TZ,dC];exact Z_ ns
section
variable{K:wa}{H H' H2:Hp}{Q:VK}{v w y:V}{p l:we}{vs:.x}{ns:.p}{rss:List (List Rat)}{m:Int}{σ : St}
theorem nz:∀{ns:.p}{vs:.x},ai K H vs (ns.map PyData.int) ↔ vs=ns.map V.int
 | [],vs=>by rw[xy,gq];rfl
 | n::ns,vs=>by
  rw[ve,d5,ve]
  constructor
  ·rintro ⟨x,r,rfl,h,t⟩
   rw[cf.mp h,nz.mp t]
  ·rintro rfl
   exact⟨_,_,rfl,cf.mpr rfl,nz.mpr rfl⟩
theorem rX:Is K H v (TZ ns) ↔ ∃a,v=.ref a/\aV K H a .aq:=by
 unfold TZ;rw[bY]
 constructor
 ·rintro ⟨a,xs,e,h,t⟩
  rw[nz.mp t]at h;exact⟨a,e,h⟩
 ·rintro ⟨a,e,h⟩
  exact⟨a,_,e,h,nz.mpr rfl⟩
theorem Gb(h:Is K H v (TZ ns))(q:Q (.int ns.length) H):kr K [v] H Q:=mH h (by rw[wl];exact q)
theorem YX{i:Nat}(t:ai K H vs (rss.map LN))(h:i<rss.length):∃x,vs[i]? = some x/\Is K H x (LN (rss.getD i [])):=by
 refine t.get ?_;rw[wu,wb,wc h]
 rfl
theorem Yl(h:Is K H v (LL rss))(h0:0<=m)(h1:m<rss.length)(q:∀x,Is K H x (LN (rss.getD m.toNat []))->Q x H):du K v (.int m) H Q:=by
 obtain⟨a,vs,rfl,hs,t⟩:=cq.mp h;obtain⟨n,rfl⟩:∃n:Nat,m=(n:Int):=⟨m.toNat,by lia⟩;obtain⟨x,e,hx⟩:=YX (i:=n) t .a;exact jA hs (m5 e) (q x hx)
theorem IQ{α : Type}{xs:.aY}{x : α}(h:xs[xs.length-1]? = some x):jt xs (-1)=some x:=by
 have hl:0<xs.length:=by
  cases xs with
  | nil=>cases h
  | cons _ _=>simp
 unfold jt gQ;rw[if_neg .a,if_pos .a]
 show xs[((-1:Int)+(xs.length:Int)).toNat]? = some x
 rw[show((-1:Int)+(xs.length:Int)).toNat=xs.length-1 by lia];exact h
theorem zzI(h:Is K H v (LL rss))(h0:0<rss.length)(q:∀x,Is K H x (LN (rss.getD (rss.length-1) []))->Q x H):du K v (.int (-1)) H Q:=by
 obtain⟨a,vs,rfl,hs,t⟩:=cq.mp h;have hl:=t.length;rw[wl]at hl;obtain⟨x,e,hx⟩:=YX (i:=rss.length-1) t .a;rw[<- hl]at e;exact jA hs (IQ e) (q x hx)
theorem Zx:∀{rss:List (List Rat)}{vs:.x},vs.length=rss.length->(∀i x,vs[i]? = some x->Is K H x (LN (rss.getD i [])))->ai K H vs (rss.map LN)
 | [],vs,hl,_=>by
  have:vs=[]:=Vs hl;subst this;exact .nil
 | x::xs,[],hl,_=>by cases hl
 | x::xs,u::vs,hl,h=>by
  rw[ve];exact .cons (h 0 u rfl) (Zx (by simpa using hl) λi y e=>h (i+1) y e)
end
def zr(K:wa):R2:=λx y H Q=>Ro K x y H Q \/ ∃a b ys,x=.ref a/\y=.ref b/\aV K H a []/\aV K H b ys/\Q (.ref b) H
theorem UT{X:Cx} : bL X (WQ .Add) (zr X.K):=by
 intro pins s σ H x y v u Q I rx ry h;rcases h with h | ⟨a,b,ys,rfl,rfl,ha,hb,q⟩
 ·exact zDt pins s σ H x y v u Q I rx ry h
 ·cases rx
  cases ry;obtain⟨its,r1,p1,_⟩:=I.tuple ha;cases r1;obtain⟨its2,r2,p2,_⟩:=I.tuple hb;obtain⟨⟨cls,dd,data,sl⟩,ho,hc,n,hd⟩:=id p1;obtain⟨⟨cls2,dd2,data2,sl2⟩,ho2,hc2,n2,hd2⟩:=id p2;simp only at hc hd hc2 hd2;subst hc hd hc2 hd2;exact concat_meets ⟨_,ho,rfl⟩ ⟨_,ho2,rfl⟩ noFill_tuple_add seq_tuple_add Qu Qj (qY _ _) (tuple_addW0 a b _ its2.toArray n n2 dd dd2 sl sl2 rfl) ⟨ho,ho2,⟨.ref b,H,I,rfl,q⟩⟩
theorem UJ{K:wa}{H:Hp}{Q:VK}{v w:V}{ds es:.br}(h1:Is K H v .av)(h2:Is K H w (.tuple es))(z:ds.length+es.length<=1000)(q:∀u H',ar H H'->Is K H' u (.tuple (ds++es))->Q u H'):zr K v w H Q:=by
 obtain⟨a,xs,rfl,ha,ta⟩:=bY.mp h1;obtain⟨b,ys,rfl,hb,tb⟩:=bY.mp h2;have la:=ta.length;have lb:=tb.length;cases xs with
 | nil =>
  obtain rfl:ds=[]:=Vs (by simpa using la.symm);exact .inr ⟨a,b,ys,rfl,rfl,ha,hb,q _ H .ax h2⟩
 | cons x xs =>
  refine .inl ⟨a,b,x::xs,ys,rfl,rfl,ha,hb,by simp,WH (gW .a),λhy=>?_,λhy p hp=>?_⟩
  ·obtain rfl:es=[]:=Vs (by rw[hy]at lb;simpa using lb.symm)
   exact q _ H .ax (by rw[vS];exact h1)
  ·exact q _ _ (ar.upd hp) (bY.mpr ⟨p,_,rfl,.of dk,(ai.same (ar.upd hp) _ _ ta).append (ai.same (ar.upd hp) _ _ tb)⟩)
theorem Inv.yH{X:Cx}{pins:.l}{σ : St}{H:Hp}{s:wm}{h':wJ}{t':Nat}{ch:.bp}(I:.n)(k:∀b o,b ∉ ch->s.heap.get? b=some o->h'.get? b=some o)(hf:∀b∈ch,fm X pins H b):Inv X pins σ H {s with heap:=h',toks:=t'}:=by
 have nit:∀b u,H b=some u->b ∉ ch:=λb u e z=>by rw[(hf b z).1]at e;cases e
 refine I.step (g':=s.gens) (d':=s.drawn) (ch:=ch) (λb hb=>⟨(hf b hb).2.2.2.1,(hf b hb).2.1,(hf b hb).2.2.2.2.1,(hf b hb).2.2.2.2.2⟩) (λb o _ _ hc e _=>k b o hc e)
  (λb o _ _ hc e _=>⟨o.slots,k b o hc e⟩) (λ_ _ _ _ n=>n) (λb o hc e=>⟨o,k b o hc e⟩) (λ_ _ e=>e) (λ_ _ _ e=>e) (λb ps e=>⟨#[],by rw[e];simp⟩) (λm hm=>?_) (λb u e=>?_) I.bare
 ·obtain⟨o,es,ep,ho,r⟩:=hm
  exact⟨o,es,ep,k _ o (λz=>(hf _ z).2.1 rfl) ho,r⟩
 ·refine(I.aO b u e).md (λc v hc q=>k c v ?_ q) (λ_ q=>q) λ_ _ q=>q
  rcases hc with z | z
  ·rw[z];exact nit b u e
  ·exact nit c _ z
section
variable{prog:wK}{w:wO}{A:vg}{E:.m}{s:wm}
theorem zvf{it tu:we}{i:Nat}{its:.as}{x:wf}{Q:.m}(ei:s.heap.IsTupleIter it tu i)(et:s.heap.IsTuple tu its)(ex:its[i]? = some x)
  (fin:∀h',h'.IsTupleIter it tu (i+1)->vB it s.heap h'->Q x {s with heap:=h'}):wx .s A (vR (.ref it)) Q E s:=by
 obtain⟨ob,eo,ec,ed⟩:=id ei;obtain⟨ot,eot,_,nt,edt⟩:=et;unfold vR;refine wg (wpAny_callSpecial?_slot (name:=Wg "__next__") ei.typeIs VR (Wp VR ei.typeIs xh ?_ (Q3 _)))
 show wx _ _ (field (.ref it) 0 >>= _) _ _ s;refine wg (vH eo ed (x:=.ref tu) rfl ?_)
 show wx _ _ (if(Value.ref tu == Value.none)=true then _ else _) _ _ s;rw[if_neg (show ¬ ((Value.ref tu == Value.none)=true)from vJ)]
 show wx _ _ (field (.ref it) 1 >>= _) _ _ s;refine wg (vH eo ed (x:=.int i 0) rfl ?_)
 show wx _ _ (seqItems? (.ref tu) >>= _) _ _ s;refine wg (Wr eot edt ?_)
 simp only[wD,ex];refine wg (wpAny_setField eo ed .u (wq ⟨x,rfl,wq (fin _ ?_ (QY ..))⟩));exact⟨_,VL _ eo (qG (qu ed _)),(uc ..).trans ec,by rw[qu ed];simp[Vw]⟩
theorem Y2{it tu:we}{i:Nat}{its:.as}{Q:.m}(hh:A.handled=none)(ei:s.heap.IsTupleIter it tu i)(et:s.heap.IsTuple tu its)(ex:its[i]? = none)
  (fin:∀h' e,Heap.ExtBut it s.heap h'->(∃o,h'.get? e=some o/\o.cls=.type "StopIteration")->E (.ref e) {s with heap:=h'}):wx .s A (vR (.ref it)) Q E s:=by
 obtain⟨ob,eo,ec,ed⟩:=id ei;obtain⟨ot,eot,_,nt,edt⟩:=et;unfold vR;refine wg (wpAny_callSpecial?_slot (name:=Wg "__next__") ei.typeIs VR (Wp VR ei.typeIs xh ?_ (Q3 _)))
 show wx _ _ (field (.ref it) 0 >>= _) _ _ s;refine wg (vH eo ed (x:=.ref tu) rfl ?_)
 show wx _ _ (if(Value.ref tu == Value.none)=true then _ else _) _ _ s;rw[if_neg (show ¬ ((Value.ref tu == Value.none)=true)from vJ)]
 show wx _ _ (field (.ref it) 1 >>= _) _ _ s;refine wg (vH eo ed (x:=.int i 0) rfl ?_)
 show wx _ _ (seqItems? (.ref tu) >>= _) _ _ s;refine wg (Wr eot edt ?_)
 simp only[wD,ex];refine wg (wpAny_rule (wg (wpAny_setField eo ed .u ?_)))
 show wx _ _ (newExc (.type "StopIteration") [] >>= _) _ _ _;refine wg ?_;simp only[newExc,newTuple]
 refine wg (WY ?_ (by size_fits));refine wg (m:=firstArgMember _ _) (wpAny_of_eq (a:=Value.none) (by first | rfl | (simp only[firstArgMember];rfl)) ?_);refine WY ?_ (by size_fits);simp only[raiseNew];refine wg (wpAny_handled ?_)
 first | rw[hh] | rw[show A.in1.handled=none from hh]
 exact wg (wq (wpAny_throw (fin _ _ (((QY ..).extBut.push _).push _) ⟨_,wS _ rfl,rfl⟩)))
theorem km(hh:A.handled=none)(it tu:we)(hne:tu≠it)(its:.as):Draws prog w A it [it,tu] its.size (λi v=>its[i]? = some v) (λi h=>h.IsTupleIter it tu i/\h.IsTuple tu its) where
 live:=λ_ _ st=>let ⟨o,ho,_⟩:=st.1;⟨o,ho⟩
 frame:=λ_ _ _ st hk=>⟨st.1.at λo e=>hk it .u o e,st.2.at λo e=>hk tu .u o e⟩
 item:=λi s Q E hi st hQ=>zvf st.1 st.2 (x:=its[i]) (by simp[hi]) λh' hit' hs'=>hQ _ h' s.toks (by simp[hi]) ⟨hit',st.2.extBut hs'.extBut hne⟩ hs'
 done:=λs Q E st hE=>Y2 hh st.1 st.2 .u hE
open AutoSeq1 (wpAny_loadPart') in
theorem zul(tu:we)(its:.as)(n:Nat)(dct:Option we)(sl:.bG):Meets (Builtin.«enumerate.__new__» ⟨[.type "enumerate",.ref tu],[]⟩) (λ_ R s=>s.heap.get? tu=some {cls:=.type "tuple",dict:=dct,data:=.seq its n,slots:=sl} /\
  R (.ok (.ret (.ref (s.heap.push {cls:=.type "tuple_iterator",data:=.fields #[.ref tu,.int 0 0]}).objs.size))) {s with heap:=(s.heap.push {cls:=.type "tuple_iterator",data:=.fields #[.ref tu,.int 0 0]}).push {cls:=.type "enumerate",data:=.fields #[.none,.bool false,.ref s.heap.objs.size,Vw 0,.none,.none]}}) :=
 .of_wp λprog w A R s h=>by
  obtain⟨hp,g,d,tk,os⟩:=s;obtain⟨et,h⟩:=h;have hsub:=sub_enumerate;have hT:XV (ul ⟨hp,g,d,tk,os⟩) tu its:=⟨_,et,rfl,n,rfl⟩
  wp_walk using wpAny_loadPart' et
  refine wpAny_stack_any λst=>wq ?_
  split
  ·rename_i c _ _ _ _ _
   cases (c == Value.type "enumerate")<;>(wp_walk using wpAny_loadPart' et,Vk hT;exact⟨_,rfl,h⟩)
  ·wp_walk using wpAny_loadPart' et,Vk hT
   exact⟨_,rfl,h⟩
theorem zvP{tu:we}{its:.as}{Q:.m}(hT:s.heap.IsTuple tu its)(fin:∀h',IsEnum h' .bI s.heap.objs.size 0 .none->h'.IsTupleIter s.heap.objs.size tu 0->(∀b o,s.heap.get? b=some o->h'.get? b=some o)->Q (.ref .bI) {s with heap:=h'}) :
  wx .s A (call (.type "enumerate") [.ref tu]) Q E s:=by
 obtain⟨⟨c,dct,dt,sl⟩,et,hc,n,hd⟩:=hT;obtain rfl:c=.type "tuple":=hc;obtain rfl:dt=.seq its n:=hd;refine callType_new F.called_enumerate .M (F.typeCall_enumerate_1 _) (F.newCall_enumerate_1 _) (λobj=>F.args_object_init_2 obj _) F.entry_enumerate_new (zul tu its n dct sl) ⟨et,?_⟩;have hz:(s.heap.push {cls:=.type "tuple_iterator",data:=.fields #[.ref tu,.int 0 0]}).objs.size=s.heap.objs.size+1:=V8 ..
 show _/\_
 rw[hz]
 have he:IsEnum ((s.heap.push {cls:=.type "tuple_iterator",data:=.fields #[.ref tu,.int 0 0]}).push {cls:=.type "enumerate",data:=.fields #[.none,.bool false,.ref s.heap.objs.size,Vw 0,.none,.none]}) .bI s.heap.objs.size 0 .none:=by
  rw[<- hz];exact wS _ rfl
 exact⟨⟨_,he,rfl⟩,fin _ he ⟨_,wn _ (wS _ rfl),rfl,rfl⟩ λb o x=>wn _ (wn _ x)⟩
end
def p5(K:wa)(a:we):It :=
 ⟨λi H=>∃xs x,aV K H a xs/\xs[i]? = some x,λi H y H'=>∃t x,y=.ref t/\H t=none/\(∀xs,aV K H a xs->xs[i]? = some x)/\H'=upd H t (.tup [.int (i:Int),x]),λi H=>∃xs,aV K H a xs/\xs.length<=i⟩
theorem zwT{P:wK}{w:wO}{K:wa}{elts:.ak}{k1}{tpos:Pos}(a e it:we)(hne:e≠it):ko P w K (.Tuple elts k1 tpos) (p5 K a) [e,it] e (λi h=>(∃old,IsEnum h e it (i:Int) old)/\h.IsTupleIter it a i) where
 mem:=by simp
 obj:=λi h st b hb=>by
  obtain⟨⟨old,he⟩,o,eo,c,d⟩:=st;rcases wG.mp hb with rfl | hb
  ·exact⟨_,he,λv z=>by cases (show Data.fields _=Data.cell v from z)⟩
  ·rw[vc.mp hb]
   exact⟨o,eo,λv z=>by rw[d]at z;cases z⟩
 keep:=λi h h' st k=>⟨let ⟨old,he⟩:=st.1;⟨old,k e .u _ he⟩,st.2.at λo eo=>k it .u o eo⟩
 item:=by
  intro X hP hw hK hc i pins s σ H E I hf st hg;subst hP hw hK;obtain⟨⟨old,he⟩,st⟩:=st;obtain⟨xs,x,hq,hx⟩:=hg;obtain⟨its,rv,p,hz⟩:=I.tuple hq;obtain⟨u,hu,ru⟩:=rv.get hx;have p':s.heap.IsTuple a its.toArray:=p
  have hai:a≠it:=λz=>by
   subst z;obtain⟨o,e1,c1,_⟩:=st;obtain⟨o',e2,c2,_⟩:=p';rw[e1]at e2;cases e2;rw[c1]at c2;exact absurd c2 .M
  have hae:e≠a:=λz=>by
   subst z;obtain⟨o',e2,c2,_⟩:=p';rw[he]at e2;cases e2;exact absurd (show Value.type "enumerate"=Value.type "tuple" from c2) .M
  have hlt:i<its.toArray.size:=by
   rcases wE i its.length with z | z
   ·simpa using z
   ·rw[wN z]at hu;cases hu
  refine wpAny_pyNext_enum_itemD (km (A:=X.A.in1) .aE it a hai its.toArray) he ⟨st,p'⟩ hlt hne (by simp[hne,hae]) λv h1 tk hv ho hs1 hT hsz hk=>?_
  have hvu:v=u:=by
   have hv':its[i]? = some v:=by simpa using hv
   rw[hu]at hv';exact(wI hv').symm
  subst hvu
  have I1:Inv X pins σ (upd H s.heap.objs.size (.tup [.int (i:Int),x])) {s with heap:=s.heap.push {cls:=.type "tuple",data:=.seq ([.int (i:Int) tk,v]:List wf).toArray},toks:=tk+1} :=
   I.laid (λb o q=>wn _ q) .Y (show d8 X.prog X.w _ _ _ (.tup [.int (i:Int),x])from⟨oU .u,_,.cons ⟨_,rfl⟩ (.cons ru .nil),QI _ _⟩)
  have lt1:∀b∈[e,it],b<s.heap.objs.size:=λb hb=>by
   rcases wG.mp hb with rfl | hb
   ·exact wF he
   ·rw[vc.mp hb]
    obtain⟨o,eo,_⟩:=st;exact wF eo
  have hf1:∀b∈[e,it],fm X pins (upd H s.heap.objs.size (.tup [.int (i:Int),x])) b:=λb hb=>⟨by rw[eY (wT (lt1 b hb))];exact(hf b hb).1,(hf b hb).2⟩
  refine⟨_,rfl,wpAny_letOwnedTupleGo_enum ho λh2 he2 hs2=>?_⟩;refine⟨.ref s.heap.objs.size,_,Inv.yH (s:={s with heap:=s.heap.push {cls:=.type "tuple",data:=.seq ([.int (i:Int) tk,v]:List wf).toArray},toks:=tk+1}) (ch:=[e,it]) I1 (λb o hb q=>?_) hf1,rfl,⟨_,x,rfl,I.aO.fresh .Y,λys hy=>by rw[I.CU hy hq];exact hx,rfl⟩,⟨⟨_,by simpa using he2⟩,hs1.1.at λo eo=>(hs2.2 it (WI hne)).trans eo⟩,λb hb=>(hf1 b hb).1⟩;have hbe:b≠e:=λz=>hb (by simp[z])
  have hbi:b≠it:=λz=>hb (by simp[z])
  refine(hs2.2 b hbe).trans ?_
  by_cases hb2:b=s.heap.objs.size
  ·subst hb2
   rw[wS _ rfl]at q;cases q;exact hT
  ·exact hk b o hbe hbi (by rw[xp _ _ _ hb2]at q;exact q)
 done:=by
  intro X hP hw hK hc i pins s σ H E I hf st hg;subst hP hw hK;obtain⟨⟨old,he⟩,st⟩:=st;obtain⟨xs,hq,hx⟩:=hg;obtain⟨its,rv,p,hz⟩:=I.tuple hq;have p':s.heap.IsTuple a its.toArray:=p
  have hai:a≠it:=λz=>by
   subst z;obtain⟨o,e1,c1,_⟩:=st;obtain⟨o',e2,c2,_⟩:=p';rw[e1]at e2;cases e2;rw[c1]at c2;exact absurd c2 .M
  have hl:=rv.length;have hT:s.TypeIs (.ref e) "enumerate":=⟨_,he,rfl⟩;unfold V2;refine wg (VT (wpAny_callSpecial?_slot (name:=Wg "__next__") hT qH (Wp qH hT x5 ?_ (xH _))))
  show wx _ _ (field (.ref e) 2 >>= _) _ _ _;refine wg (vH he rfl (x:=.ref it) rfl ?_)
  refine wg (Y2 (A:=X.A.in1) .aE st p' .aL λh' y he' hx'=>?_);obtain⟨o,ho,hcl⟩:=hx';refine wg (Vz (T:="StopIteration") (b:=true) ⟨o,ho,hcl⟩ isSubtype_stop (wq ⟨rfl,?_⟩));obtain⟨f0,f1,f2,f3,f4,f5⟩:=hf it .u;exact I.turned (t':=s.toks) (λb o hb e=>he' b o hb e) f0 f1 f3 f4 f5
 self:=λ_ _ _ _ _ st h=>let ⟨_,he⟩:=st.1;wpAny_pyIter_enum he h
def FD(K:wa)(ta:TA):TI:=λσ H R=>ta σ H λvs H1=>∃a,vs=[.ref a]/\(∃xs,aV K H1 a xs)/\R (p5 K a) H1
theorem Yw:vL "enumerate"=some (.type "enumerate"):=by decide +kernel
theorem Rl{X:Cx}{elts:.ak}{k1}{tpos p pos:Pos}{l:Expr}{ta:TA}(hg:Gl X "enumerate")(hm:X.mg "enumerate"=none)(ha:PA X [l] ta)(hs:wY [l] X.env=[(false,eval l X.env)]:=by rfl) :
  PI X (.Tuple elts k1 tpos) (.Call (.Name "enumerate" p) [l] [] pos) (FD X.K ta):=by
 intro pins s σ H R I h;refine Call_ (iL I hg hm Yw (vF (aQ (ha pos pins s σ H _ I h) λus s1 ⟨vs,H1,I1,r1,q1⟩=>?_) hs rfl));obtain⟨a,rfl,⟨xs,hq⟩,q⟩:=q1;obtain⟨u,rfl,ru⟩:=iD r1;cases ru;obtain⟨its,rv,p,hz⟩:=I1.tuple hq;refine zvP (show s1.heap.IsTuple a its.toArray from p) λh' he hit kp=>?_
 refine wpAny_pyIter_enum he ?_;refine⟨s1.heap.objs.size+1,[s1.heap.objs.size+1,s1.heap.objs.size],_,_,H1,rfl,I1.kept (t':=s1.toks) kp,zwT a (s1.heap.objs.size+1) s1.heap.objs.size (uI _),⟨⟨_,he⟩,hit⟩,λb hb=>?_,q⟩
 have hb':s1.heap.objs.size<=b:=by
  rcases wG.mp hb with rfl | hb
  ·lia
  ·rw[vc.mp hb];exact wo _
 exact I1.kR hb' (I1.aO.fresh hb')
def Yh(K:wa)(g:TG)(tb:TS)(D:c_)(σ : St)(vs:.x)(H1:Hp):Prop:=∃a,vs=[.ref a]/\(∃xs,aV K H1 a xs) /\
 ∃W:Nat->Nat->St->Hp->Prop,(∃m,W 0 m σ H1) /\ ∀i m σ H,W i m σ H ->
  ((p5 K a).stop i H/\D.nx σ H)\/((p5 K a).go i H /\ ∃M:St->Hp->Prop,(∀σ' H',M σ' H'->∃m',m'<m/\W (i+1) m' σ' H') /\ ∀x H',(p5 K a).fW i H x H'->g x σ H' λσ2 H2=>tb {D with nx:=M,ct:=M,bk:=D.nx} σ2 H2)
section
variable{K:wa}{ta:TA}{g:TG}{tb:TS}{D:c_}{σ : St}{H:Hp}{a:we}{xs:.x}
theorem zC4(h:ta σ H λvs H1=>Yh K g tb D σ vs H1):oB (FD K ta) g tb D σ H:=h
theorem zyN(hx:aV K H a xs)(Pv:Nat->St->Hp->Prop)(h0:Pv 0 σ H)(hl:∀i σ H,i<=xs.length->Pv i σ H->aV K H a xs)
  (hs:∀i x σ H t H',xs[i]? = some x->Pv i σ H->H t=none->ar H H'->H' t=some (.tup [.int (i:Int),x])->g (.ref t) σ H' λσ2 H2=>tb {D with nx:=Pv (i+1),ct:=Pv (i+1),bk:=D.nx} σ2 H2) (hd:∀σ H,Pv xs.length σ H->D.nx σ H):Yh K g tb D σ [.ref a] H:=by
 refine⟨a,rfl,⟨xs,hx⟩,λi m σ H=>i+m=xs.length/\Pv i σ H,⟨xs.length,by lia,h0⟩,?_⟩;rintro i m σ H ⟨him,hp⟩;have hq:=hl i σ H .a hp
 by_cases hm:m=0
 ·have e:i=xs.length:=by lia
  subst e;exact .inl ⟨⟨xs,hq,wo _⟩,hd _ _ hp⟩
 ·have hi:i<xs.length:=by lia
  refine .inr ⟨⟨xs,xs[i],hq,by simp[hi]⟩,λσ' H'=>Pv (i+1) σ' H',λσ' H' h=>⟨m-1,by lia,by lia,h⟩,?_⟩;rintro y H' hz;obtain⟨t,x,rfl,hn,hx',rfl⟩:=hz;exact hs i x σ H t _ (hx' xs hq) hp hn (ar.upd hn) dk
end
structure ZA(z TI TO i1 i2:we)(f1 f2:.bp):Prop where
 a1:TI≠z
 a2:TO≠z
 a3:i1≠z
 a4:i2≠z
 a5:TI≠TO
 a6:TI≠i1
 a7:TI≠i2
 a8:TO≠i1
 a9:TO≠i2
 b0:i1≠i2
 b1:z ∉ f1
 b2:z ∉ f2
 b3:TO ∉ f1
 b4:TO ∉ f2
 b5:i1 ∉ f2
 b6:i2 ∉ f1
section
variable{prog:wK}{w:wO}{A:vg}{E:.m}{s:wm}{z TI TO i1 i2:we}{f1 f2:.bp}{n1 n2 k:Nat}{P1 P2:Nat->wf->Prop}{S1 S2:Nat->wJ->Prop}{a b:wf}
theorem Nv{Q:.m}(D1:Draws prog w A i1 f1 n1 P1 S1)(D2:Draws prog w A i2 f2 n2 P2 S2)(ap:ZA z TI TO i1 i2 f1 f2)(hz:IsZip s.heap z TI TO .none)(hi:WM s.heap TI (.ref i1) (.ref i2))(ho:WM s.heap TO a b)
  (h1:S1 k s.heap) (h2:S2 k s.heap) (l1:k<n1) (l2:k<n2)
  (fin:∀x y h' tk,P1 k x->P2 k y->IsZip h' z TI TO (Vw s.heap.objs.size)->WM h' TO x y->S1 (k+1) h'->S2 (k+1) h'->WM h' s.heap.objs.size x y ->
   (∀c o,c≠z->c≠TO->c≠i1->c≠i2->s.heap.get? c=some o->h'.get? c=some o)->Q .aa {s with heap:=h',toks:=tk}) :
  wx .s A (Builtin.«zip.__next__» ⟨[.ref z],[]⟩) (λr s'=>∃v,r=.done (.ret v)/\Q v s') E s:=by
 show wx _ _ (field (.ref z) 2 >>= _) _ _ _;refine wg (vH hz rfl (x:=.bool false) rfl ?_)
 show wx _ _ (field (.ref z) 3 >>= _) _ _ _;refine wg (vH hz rfl (x:=.ref TI) rfl ?_)
 refine wg (Wr hi rfl ?_);show wx _ _ (vN (.ref z) >>= _) _ _ _
 refine wg ?_;unfold vN;refine wg (vH hz rfl (x:=.none) rfl (wq ?_));simp only[if_true];refine wg (wpAny_rule ?_);refine wg (vH hz rfl (x:=.ref TO) rfl ?_);refine wg (Vl hz .u λg1 zz1 sb1=>?_);have zz1:IsZip g1 z TI TO .ellipsis:=zz1;refine wg ?_;simp only[uJ,uZ,qU,Q4];refine wg (wg (wpAny_onRaise ?_));show wx _ _ (vR (.ref i1) >>= _) _ _ _
 have h1a:S1 k g1:=D1.frame _ _ _ h1 λc hc o e=>sb1.extBut c o (λq=>ap.b1 (q ▸ hc)) e
 have h2a:S2 k g1:=D2.frame _ _ _ h2 λc hc o e=>sb1.extBut c o (λq=>ap.b2 (q ▸ hc)) e
 refine wg (D1.item k _ _ _ l1 h1a λx g2 t2 px h1b sb2=>wq ?_);have ho2:WM g2 TO a b:=sb2.extBut _ _ ap.a8 (sb1.extBut _ _ ap.a2 ho);have h2b:S2 k g2:=D2.frame _ _ _ h2a λc hc o e=>sb2.extBut c o (λq=>ap.b5 (q ▸ hc)) e
 refine wg (Wr ho2 rfl ?_);refine wg (wpAny_updateSeq_pair ho2 λg3 ho3 sb3=>?_);have ho3:WM g3 TO x b:=ho3;have sb3:vB TO g2 g3:=sb3;have h1c:S1 (k+1) g3:=D1.frame _ _ _ h1b λc hc o e=>sb3.extBut c o (λq=>ap.b3 (q ▸ hc)) e
 have h2c:S2 k g3:=D2.frame _ _ _ h2b λc hc o e=>sb3.extBut c o (λq=>ap.b4 (q ▸ hc)) e
 refine wg (wpAny_letGo (wq ?_));refine wg (wg (wpAny_onRaise ?_))
 show wx _ _ (vR (.ref i2) >>= _) _ _ _;refine wg (D2.item k _ _ _ l2 h2c λy g4 t4 py h2d sb4=>wq ?_)
 have sb4:vB i2 g3 g4:=sb4;have ho4:WM g4 TO x b:=sb4.extBut _ _ ap.a9 ho3;have h1d:S1 (k+1) g4:=D1.frame _ _ _ h1c λc hc o e=>sb4.extBut c o (λq=>ap.b6 (q ▸ hc)) e
 refine wg (Wr ho4 rfl ?_);refine wg (wpAny_updateSeq_pair ho4 λg5 ho5 sb5=>?_);have ho5:WM g5 TO x y:=ho5;have sb5:vB TO g4 g5:=sb5;have h1e:S1 (k+1) g5:=D1.frame _ _ _ h1d λc hc o e=>sb5.extBut c o (λq=>ap.b3 (q ▸ hc)) e
 have h2e:S2 (k+1) g5:=D2.frame _ _ _ h2d λc hc o e=>sb5.extBut c o (λq=>ap.b4 (q ▸ hc)) e
 refine wg (wpAny_letGo (wq (wq ?_)));refine wg (Wr ho5 rfl ?_);refine wg (wpAny_newTuple ?_);have sb2:vB i1 g1 g2:=sb2;have sb1:vB z s.heap g1:=sb1;have hsz:g5.objs.size=s.heap.objs.size:=by rw[sb5.1,sb4.1,sb3.1,sb2.1,sb1.1]
 have zz5:IsZip g5 z TI TO .ellipsis:=sb5.extBut _ _ ap.a2.symm (sb4.extBut _ _ ap.a4.symm (sb3.extBut _ _ ap.a2.symm (sb2.extBut _ _ ap.a3.symm zz1)));have kept:∀c o,c≠z->c≠TO->c≠i1->c≠i2->s.heap.get? c=some o->g5.get? c=some o:=λc o c1 c2 c3 c4 e=>sb5.extBut _ _ c2 (sb4.extBut _ _ c4 (sb3.extBut _ _ c2 (sb2.extBut _ _ c3 (sb1.extBut _ _ c1 e))))
 have zlt:z<g5.objs.size:=wF zz5
 show wx _ _ (Qc (.ref z) (.ref g5.objs.size) >>= _) _ _ _;refine wg ?_;unfold Qc
 have zz6:IsZip (g5.push {cls:=.type "tuple",data:=.seq #[x,y]}) z TI TO .ellipsis:=wn _ zz5;refine wg (Vl zz6 .u λg7 zz7 sb7=>?_);have zz7:IsZip g7 z TI TO (Vw g5.objs.size):=zz7;refine Vl zz7 .u λg8 zz8 sb8=>?_
 have zz8:IsZip g8 z TI TO (Vw g5.objs.size):=zz8;have sb7:vB z (g5.push {cls:=.type "tuple",data:=.seq #[x,y]}) g7:=sb7;have sb8:vB z g7 g8:=sb8;have up:∀c o,c≠z->g5.get? c=some o->g8.get? c=some o:=λc o c1 e=>sb8.extBut _ _ c1 (sb7.extBut _ _ c1 (wn _ e))
 have new8:WM g8 g5.objs.size x y:=sb8.extBut _ _ (vv zlt) (sb7.extBut _ _ (vv zlt) (wS _ rfl));rw[hsz]at zz8 new8;refine wq ⟨_,rfl,?_⟩
 show Q (.ref g5.objs.size) _
 rw[hsz];exact fin x y g8 _ px py zz8 (up _ _ ap.a2 ho5) (D1.frame _ _ _ h1e λc hc o e=>up c o (λq=>ap.b1 (q ▸ hc)) e) (D2.frame _ _ _ h2e λc hc o e=>up c o (λq=>ap.b2 (q ▸ hc)) e) new8 λc o c1 c2 c3 c4 e=>up c o c1 (kept c o c1 c2 c3 c4 e)
theorem NA{Q:Fin->wm->Prop}(D1:Draws prog w A i1 f1 n1 P1 S1)(D2:Draws prog w A i2 f2 n2 P2 S2)(ap:ZA z TI TO i1 i2 f1 f2)(hz:IsZip s.heap z TI TO .none)(hi:WM s.heap TI (.ref i1) (.ref i2))(ho:WM s.heap TO a b)
  (h1:S1 k s.heap) (h2:S2 k s.heap) (hk:k=n1\/(k<n1/\k=n2))
  (fin:∀h' e tk,(∀c o,c≠z->c≠TO->c≠i1->c≠i2->s.heap.get? c=some o->h'.get? c=some o)->(∃o,h'.get? e=some o/\o.cls=.type "StopIteration")->E (.ref e) {s with heap:=h',toks:=tk}) :
  wx .s A (Builtin.«zip.__next__» ⟨[.ref z],[]⟩) Q E s:=by
 show wx _ _ (field (.ref z) 2 >>= _) _ _ _;refine wg (vH hz rfl (x:=.bool false) rfl ?_)
 show wx _ _ (field (.ref z) 3 >>= _) _ _ _;refine wg (vH hz rfl (x:=.ref TI) rfl ?_)
 refine wg (Wr hi rfl ?_);show wx _ _ (vN (.ref z) >>= _) _ _ _
 refine wg ?_;unfold vN;refine wg (vH hz rfl (x:=.none) rfl (wq ?_));simp only[if_true];refine wg (wpAny_rule ?_);refine wg (vH hz rfl (x:=.ref TO) rfl ?_);refine wg (Vl hz .u λg1 zz1 sb1=>?_);have zz1:IsZip g1 z TI TO .ellipsis:=zz1;have sb1:vB z s.heap g1:=sb1;refine wg ?_;simp only[uJ,uZ,qU,Q4];refine wg (wg (wpAny_onRaise ?_));show wx _ _ (vR (.ref i1) >>= _) _ _ _
 have h1a:S1 k g1:=D1.frame _ _ _ h1 λc hc o e=>sb1.extBut c o (λq=>ap.b1 (q ▸ hc)) e
 have h2a:S2 k g1:=D2.frame _ _ _ h2 λc hc o e=>sb1.extBut c o (λq=>ap.b2 (q ▸ hc)) e
 rcases hk with rfl | ⟨l1,rfl⟩
 ·refine wg (D1.done _ _ _ h1a λg2 e sb2 he=>?_)
  obtain⟨oe,hoe,hce⟩:=he;have zz2:IsZip g2 z TI TO .ellipsis:=sb2 _ _ ap.a3.symm zz1;have hez:e≠z:=λq=>by subst q;rw[zz2]at hoe;cases hoe;simp at hce
  exact Vl zz2 .u λg3 _ sb3=>fin g3 e _ (λc o c1 _ c3 _ q=>sb3.extBut _ _ c1 (sb2 _ _ c3 (sb1.extBut _ _ c1 q))) ⟨oe,sb3.extBut _ _ hez hoe,hce⟩
 ·refine wg (D1.item k _ _ _ l1 h1a λx g2 t2 px h1b sb2=>wq ?_)
  have sb2:vB i1 g1 g2:=sb2;have ho2:WM g2 TO a b:=sb2.extBut _ _ ap.a8 (sb1.extBut _ _ ap.a2 ho);have h2b:S2 k g2:=D2.frame _ _ _ h2a λc hc o e=>sb2.extBut c o (λq=>ap.b5 (q ▸ hc)) e
  refine wg (Wr ho2 rfl ?_);refine wg (wpAny_updateSeq_pair ho2 λg3 ho3 sb3=>?_);have sb3:vB TO g2 g3:=sb3;have h2c:S2 k g3:=D2.frame _ _ _ h2b λc hc o e=>sb3.extBut c o (λq=>ap.b4 (q ▸ hc)) e
  refine wg (wpAny_letGo (wq ?_));refine wg (wg (wpAny_onRaise ?_))
  show wx _ _ (vR (.ref i2) >>= _) _ _ _;refine wg (D2.done _ _ _ h2c λg4 e sb4 he=>?_)
  obtain⟨oe,hoe,hce⟩:=he;have zz4:IsZip g4 z TI TO .ellipsis:=sb4 _ _ ap.a4.symm (sb3.extBut _ _ ap.a2.symm (sb2.extBut _ _ ap.a3.symm zz1));have hez:e≠z:=λq=>by subst q;rw[zz4]at hoe;cases hoe;simp at hce
  exact Vl zz4 .u λg5 _ sb5=>fin g5 e _ (λc o c1 c2 c3 c4 q=>sb5.extBut _ _ c1 (sb4 _ _ c4 (sb3.extBut _ _ c2 (sb2.extBut _ _ c3 (sb1.extBut _ _ c1 q))))) ⟨oe,sb5.extBut _ _ hez hoe,hce⟩
end
variable{t:Bool}{a:we}
def df(t:Bool)(K:wa)(H:Hp)(a:we)(xs:.x):Prop:=match t with
 | true=>aV K H a xs
 | false=>aE K H a xs
def j9(t:Bool)(h:wJ)(it a:we)(i:Nat):Prop:=match t with
 | true=>h.IsTupleIter it a i
 | false=>h.IsListIter it a i
def OS(t:Bool)(h:wJ)(a:we)(its:.as):Prop:=match t with
 | true=>h.IsTuple a its
 | false=>h.IsList a its
theorem rM{prog:wK}{w:wO}{A:vg}(t:Bool)(hh:A.handled=none)(it a:we)(hne:a≠it)(its:.as):Draws prog w A it [it,a] its.size (λi v=>its[i]? = some v) (λi h=>j9 t h it a i/\OS t h a its):=by
 cases t
 ·exact Draws.list hh it a hne its
 ·exact km hh it a hne its
theorem Inv.j5{X:Cx}{pins:.l}{σ : L2.St}{H:Hp}{s:wm}{xs:.x}(I:.n)(h:df t X.K H a xs):∃its:List wf,aU xs its/\OS t s.heap a its.toArray:=by
 cases t
 ·obtain⟨its,r,p,_⟩:=I.list h
  exact⟨its,r,p.isList⟩
 ·obtain⟨its,r,p,_⟩:=I.tuple h
  exact⟨its,r,p⟩
theorem Inv.Mu{X:Cx}{pins:.l}{σ : L2.St}{H:Hp}{s:wm}{xs ys:.x}(I:.n)(h:df t X.K H a xs)(k:df t X.K H a ys):xs=ys:=by
 cases t
 ·exact I.CY h k
 ·exact I.CU h k
theorem j9.obj{h:wJ}{it:we}{i:Nat}(st:j9 t h it a i):∃o,h.get? it=some o /\ ∀v,o.data≠.cell v:=by
 cases t
 ·obtain⟨o,e,_,d⟩:=st
  exact⟨o,e,λv z=>by rw[d]at z;cases z⟩
 ·obtain⟨o,e,_,d⟩:=st
  exact⟨o,e,λv z=>by rw[d]at z;cases z⟩
theorem j9.at{h h':wJ}{it:we}{i:Nat}(st:j9 t h it a i)(k:∀o,h.get? it=some o->h'.get? it=some o):j9 t h' it a i:=by
 cases t
 ·exact Heap.IsListIter.at st k
 ·exact Heap.IsTupleIter.at st k
def nk(t u:Bool)(K:wa)(a b:we):It :=
 ⟨λi H=>∃xs x ys y,df t K H a xs/\xs[i]? = some x/\df u K H b ys/\ys[i]? = some y,
  λi H v H'=>∃(c:we)(x y:V),v=.ref c/\H c=none/\(∀xs,df t K H a xs->xs[i]? = some x)/\(∀ys,df u K H b ys->ys[i]? = some y)/\H'=upd H c (.tup [x,y]),
  λi H=>∃xs ys,df t K H a xs/\df u K H b ys/\(xs.length=i\/(i<xs.length/\ys.length=i))⟩
theorem zAC{P:wK}{w:wO}{K:wa}{elts:.ak}{k1}{tpos:Pos}{u:Bool}(a b z TI TO i1 i2:we)(ap:ZA z TI TO i1 i2 [i1,a] [i2,b])(na:a≠i1)(nb:b≠i2) :
  ko P w K (.Tuple elts k1 tpos) (nk t u K a b) [z,TI,TO,i1,i2] z (λi h=>IsZip h z TI TO .none/\WM h TI (.ref i1) (.ref i2)/\(∃p q,WM h TO p q)/\j9 t h i1 a i/\j9 u h i2 b i) where
 mem:=by simp
 obj:=λi h st c hc=>by
  obtain⟨hz,hi,⟨p,q,ho⟩,s1,s2⟩:=st;simp only[wG,WO,or_false]at hc;rcases hc with rfl | rfl | rfl | rfl | rfl
  ·exact⟨_,hz,λv z=>by cases (show Data.fields _=Data.cell v from z)⟩
  ·exact⟨_,hi,λv z=>by cases (show Data.seq _ _=Data.cell v from z)⟩
  ·exact⟨_,ho,λv z=>by cases (show Data.seq _ _=Data.cell v from z)⟩
  ·exact s1.obj
  ·exact s2.obj
 keep:=λi h h' st k=>by
  obtain⟨hz,hi,⟨p,q,ho⟩,s1,s2⟩:=st;exact⟨k z .u _ hz,k TI .u _ hi,⟨p,q,k TO .u _ ho⟩,s1.at λo e=>k i1 .u o e,s2.at λo e=>k i2 .u o e⟩
 item:=by
  intro X hP hw hK hc i pins s σ H E I hf st hg;subst hP hw hK;obtain⟨hz,hi,⟨p,q,ho⟩,s1,s2⟩:=st;obtain⟨xs,x,ys,y,hq1,hx,hq2,hy⟩:=hg;obtain⟨its,r1,p1⟩:=I.j5 hq1;obtain⟨jts,r2,p2⟩:=I.j5 hq2;obtain⟨ux,hux,rux⟩:=r1.get hx;obtain⟨uy,huy,ruy⟩:=r2.get hy
  have lt1:i<its.toArray.size:=by
   rcases wE i its.length with q | q
   ·simpa using q
   ·rw[wN q]at hux;cases hux
  have lt2:i<jts.toArray.size:=by
   rcases wE i jts.length with q | q
   ·simpa using q
   ·rw[wN q]at huy;cases huy
  have hT:s.TypeIs (.ref z) "zip":=⟨_,hz,rfl⟩;unfold V2
  refine wg (VT (wpAny_callSpecial?_slot (name:=Wg "__next__") hT WB (Wp WB hT qf
   (Nv (rM (A:=X.A.in1) t .aE i1 a na its.toArray) (rM (A:=X.A.in1) u .aE i2 b nb jts.toArray) ap hz hi ho ⟨s1,p1⟩ ⟨s2,p2⟩ lt1 lt2 λv1 v2 h1 tk e1 e2 hz1 ho1 st1 st2 hT1 hk=>wq ?_) (VZ _))))
  have ev1:v1=ux:=by
   have e1':its[i]? = some v1:=by simpa using e1
   rw[hux]at e1';exact(wI e1').symm
  have ev2:v2=uy:=by
   have e2':jts[i]? = some v2:=by simpa using e2
   rw[huy]at e2';exact(wI e2').symm
  subst ev1 ev2
  have I1:Inv X pins σ (upd H s.heap.objs.size (.tup [x,y])) {s with heap:=s.heap.push {cls:=.type "tuple",data:=.seq ([v1,v2]:List wf).toArray},toks:=tk} :=
   I.laid (λc o q=>wn _ q) .Y (show d8 X.prog X.w _ _ _ (.tup [x,y])from⟨oU .u,_,.cons rux (.cons ruy .nil),QI _ _⟩)
  have ltf:∀c∈[z,TI,TO,i1,i2],c<s.heap.objs.size:=λc hc=>by
   simp only[wG,WO,or_false]at hc;rcases hc with rfl | rfl | rfl | rfl | rfl
   ·exact wF hz
   ·exact wF hi
   ·exact wF ho
   ·obtain⟨o,e,_⟩:=s1.obj;exact wF e
   ·obtain⟨o,e,_⟩:=s2.obj;exact wF e
  have hf1:∀c∈[z,TI,TO,i1,i2],fm X pins (upd H s.heap.objs.size (.tup [x,y])) c:=λc hc=>⟨by rw[eY (wT (ltf c hc))];exact(hf c hc).1,(hf c hc).2⟩
  refine⟨_,rfl,wpAny_letOwnedTupleGo_zip hz1 λh2 hz2 hs2=>?_⟩;have hs2:vB z h1 h2:=hs2
  refine⟨.ref s.heap.objs.size,_,Inv.yH (s:={s with heap:=s.heap.push {cls:=.type "tuple",data:=.seq ([v1,v2]:List wf).toArray},toks:=tk}) (ch:=[z,TI,TO,i1,i2]) I1 (λc o hc q=>?_) hf1,rfl,
   ⟨_,x,y,rfl,I.aO.fresh .Y,λzs hzs=>by rw[I.Mu hzs hq1];exact hx,λzs hzs=>by rw[I.Mu hzs hq2];exact hy,rfl⟩,
   ⟨hz2,hs2.extBut _ _ ap.a1 (hk _ _ ap.a1 ap.a5 ap.a6 ap.a7 hi),⟨_,_,hs2.extBut _ _ ap.a2 ho1⟩,st1.1.at λo e=>hs2.extBut _ _ ap.a3 e,st2.1.at λo e=>hs2.extBut _ _ ap.a4 e⟩,λc hc=>(hf1 c hc).1⟩
  have c1:c≠z:=λq=>hc (by simp[q])
  have c2:c≠TO:=λq=>hc (by simp[q])
  have c3:c≠i1:=λq=>hc (by simp[q])
  have c4:c≠i2:=λq=>hc (by simp[q])
  refine hs2.extBut _ _ c1 ?_
  by_cases hcs:c=s.heap.objs.size
  ·subst hcs
   rw[wS _ rfl]at q;cases q;exact hT1
  ·exact hk c o c1 c2 c3 c4 (by rw[xp _ _ _ hcs]at q;exact q)
 done:=by
  intro X hP hw hK hc i pins s σ H E I hf st hg;subst hP hw hK;obtain⟨hz,hi,⟨p,q,ho⟩,s1,s2⟩:=st;obtain⟨xs,ys,hq1,hq2,hend⟩:=hg;obtain⟨its,r1,p1⟩:=I.j5 hq1;obtain⟨jts,r2,p2⟩:=I.j5 hq2;have e1:=r1.length;have e2:=r2.length;have hT:s.TypeIs (.ref z) "zip":=⟨_,hz,rfl⟩;unfold V2
  refine wg (VT (wpAny_callSpecial?_slot (name:=Wg "__next__") hT WB (Wp WB hT qf
   (NA (k:=i) (rM (A:=X.A.in1) t .aE i1 a na its.toArray) (rM (A:=X.A.in1) u .aE i2 b nb jts.toArray) ap hz hi ho ⟨s1,p1⟩ ⟨s2,p2⟩ (by simp only[wP];lia) λh' y tk hk hx'=>?_) (VZ _))))
  obtain⟨o,ho',hcl⟩:=hx';refine wg (Vz (T:="StopIteration") (b:=true) ⟨o,ho',hcl⟩ isSubtype_stop (wq ⟨rfl,?_⟩));exact Inv.yH (ch:=[z,TI,TO,i1,i2]) I (λc o hc e=>hk c o (λq=>hc (by simp[q])) (λq=>hc (by simp[q])) (λq=>hc (by simp[q])) (λq=>hc (by simp[q])) e) hf
 self:=λ_ _ _ _ _ st h=>wpAny_pyIter_zip st.1 h
abbrev zm(h:wJ)(a:we):wJ:=h.push {cls:=.type "tuple_iterator",data:=.fields #[.ref a,.int 0 0]}
abbrev zU(h:wJ)(a b:we):wJ:=(zm h a).push {cls:=.type "tuple_iterator",data:=.fields #[.ref b,.int 0 0]}
abbrev yS(h:wJ)(a b:we):wJ:=(zU h a b).push {cls:=.type "tuple",data:=.seq #[.ref h.objs.size,.ref (zm h a).objs.size]}
abbrev Bx(h:wJ)(a b:we):wJ:=(yS h a b).push {cls:=.type "tuple",data:=.seq #[.none,.none]}
abbrev oV(h:wJ)(a b:we):wJ:=(Bx h a b).push {cls:=.type "zip",data:=.fields #[.none,.bool false,.bool false,.ref (zU h a b).objs.size,.ref (yS h a b).objs.size]}
theorem zwB(a b:we)(xs ys:.as):Meets (Builtin.«zip.__new__» ⟨[.type "zip",.ref a,.ref b],[]⟩) (λ_ R s=>s.heap.IsTuple a xs/\s.heap.IsTuple b ys/\R (.ok (.ret (.ref (Bx s.heap a b).objs.size))) {s with heap:=oV s.heap a b}) :=
 .of_wp λprog w A R s h=>by
  obtain⟨hp,g,d,tk,os⟩:=s;obtain⟨ha,hb,h⟩:=h;have hsub:=sub_zip;have hA:XV (ul ⟨hp,g,d,tk,os⟩) a xs:=ha;have hB:XV (ul ⟨hp.push {cls:=.type "tuple_iterator",data:=.fields #[.ref a,.int 0 0]},g,d,tk,os⟩) b ys:=hb.at λo e=>wn _ e
  wp_walk using Vk hA,Vk hB
  exact⟨_,rfl,h⟩
section
variable{prog:wK}{w:wO}{A:vg}{E:.m}{s:wm}
theorem zrH{a b:we}{xs ys:.as}{Q:.m}(ha:s.heap.IsTuple a xs)(hb:s.heap.IsTuple b ys)
  (fin:∀h',IsZip h' (s.heap.objs.size+4) (s.heap.objs.size+2) (s.heap.objs.size+3) .none->WM h' (s.heap.objs.size+2) .aa (.ref .bI)->WM h' (s.heap.objs.size+3) .none .none ->
   h'.IsTupleIter s.heap.objs.size a 0->h'.IsTupleIter .bI b 0->(∀c o,s.heap.get? c=some o->h'.get? c=some o)->Q (.ref (s.heap.objs.size+4)) {s with heap:=h'}):wx .s A (call (.type "zip") [.ref a,.ref b]) Q E s:=by
 refine callType_new F.called_zip .M (F.typeCall_zip_2 _ _) (F.newCall_zip_2 _ _) (λobj=>F.args_object_init_3 obj _ _) F.entry_zip_new (zwB a b xs ys) ⟨ha,hb,?_⟩;have z1:(zm s.heap a).objs.size=s.heap.objs.size+1:=V8 ..;have z2:(zU s.heap a b).objs.size=s.heap.objs.size+2:=by rw[V8,z1]
 have z3:(yS s.heap a b).objs.size=s.heap.objs.size+3:=by rw[V8,z2]
 have z4:(Bx s.heap a b).objs.size=s.heap.objs.size+4:=by rw[V8,z3]
 have g5:(oV s.heap a b).get? (Bx s.heap a b).objs.size=some _:=wS _ rfl;have g4:(oV s.heap a b).get? (yS s.heap a b).objs.size=some _:=wn _ (wS _ rfl);have g3:(oV s.heap a b).get? (zU s.heap a b).objs.size=some _:=wn _ (wn _ (wS _ rfl));have g2:(oV s.heap a b).get? (zm s.heap a).objs.size=some _:=wn _ (wn _ (wn _ (wS _ rfl)));have g1:(oV s.heap a b).get? s.heap.objs.size=some _:=wn _ (wn _ (wn _ (wn _ (wS _ rfl))))
 show _/\_
 rw[z2,z3,z4]at g5;rw[z1,z2]at g3;rw[z3]at g4;rw[z1]at g2;rw[z4];exact⟨⟨_,g5,rfl⟩,fin _ g5 g3 g4 ⟨_,g1,rfl,rfl⟩ ⟨_,g2,rfl,rfl⟩ λc o x=>wn _ (wn _ (wn _ (wn _ (wn _ x))))⟩
end
variable{a:we}{X:Cx}{elts:.ak}{tpos:Pos}
def AQ(t u:Bool)(K:wa)(ta:TA):TI:=λσ H R=>ta σ H λvs H1=>∃a b,vs=[.ref a,.ref b]/\(∃xs,df t K H1 a xs)/\(∃ys,df u K H1 b ys)/\R (nk t u K a b) H1
theorem Ee :vL "zip"=some (.type "zip"):=by decide +kernel
theorem pI{x b:we}(h:x≠a)(k:x≠b):x ∉ [a,b]:=by simp[h,k]
theorem YT{n a b:Nat}(la:a<n)(lb:b<n):ZA (n+4) (n+2) (n+3) n (n+1) [n,a] [n+1,b] where
 a1:=wT .a
 a2:=wT .a
 a3:=wT .a
 a4:=wT .a
 a5:=wT .a
 a6:=vv .a
 a7:=vv .a
 a8:=vv .a
 a9:=vv .a
 b0:=wT .a
 b1:=pI (vv .a) (vv .a)
 b2:=pI (vv .a) (vv .a)
 b3:=pI (vv .a) (vv .a)
 b4:=pI (vv .a) (vv .a)
 b5:=pI (wT .a) (vv .a)
 b6:=pI (vv .a) (vv .a)
theorem X_{k1}{pins:.l}{σ : L2.St}{H:Hp}{s:wm}{R:It->Hp->Prop}{h':wJ}{E:.m}{t u:Bool}{b:we}(I:.n)(la:a<s.heap.objs.size)(lb:b<s.heap.objs.size)
  (hz:IsZip h' (s.heap.objs.size+4) (s.heap.objs.size+2) (s.heap.objs.size+3) .none) (hi:WM h' (s.heap.objs.size+2) .aa (.ref .bI)) (ho:WM h' (s.heap.objs.size+3) .none .none)
  (s1:j9 t h' s.heap.objs.size a 0) (s2:j9 u h' .bI b 0) (kp:∀c o,s.heap.get? c=some o->h'.get? c=some o) (q:R (nk t u X.K a b) H):wx .o X.A (pyIter (.ref (s.heap.objs.size+4))) (EU X pins σ (.Tuple elts k1 tpos) R) E {s with heap:=h'}:=by
 refine wpAny_pyIter_zip hz ?_;refine⟨s.heap.objs.size+4,[s.heap.objs.size+4,s.heap.objs.size+2,s.heap.objs.size+3,s.heap.objs.size,s.heap.objs.size+1],_,_,H,rfl,I.kept (t':=s.toks) kp,zAC a b _ (s.heap.objs.size+2) (s.heap.objs.size+3) s.heap.objs.size .bI (YT la lb) (wT la) (wT (VY lb)),⟨hz,hi,⟨_,_,ho⟩,s1,s2⟩,λc hc=>?_,q⟩
 ·have hb':s.heap.objs.size<=c:=by
   simp only[wG,WO,or_false]at hc;rcases hc with rfl | rfl | rfl | rfl | rfl
   ·exact W5 _ 4
   ·exact W5 _ 2
   ·exact W5 _ 3
   ·exact wo _
   ·exact W5 _ 1
  exact I.kR hb' (I.aO.fresh hb')
theorem zDS{k1}{p pos:Pos}{l m:Expr}{ta:TA}(hg:Gl X "zip")(hm:X.mg "zip"=none)(ha:PA X [l,m] ta)(hs:wY [l,m] X.env=[(false,eval l X.env),(false,eval m X.env)]:=by rfl)(hs2:wY [m] X.env=[(false,eval m X.env)]:=by rfl) :
  PI X (.Tuple elts k1 tpos) (.Call (.Name "zip" p) [l,m] [] pos) (AQ true true X.K ta):=by
 intro pins s σ H R I h;refine Call_ (iL I hg hm Ee (vF (aQ (ha pos pins s σ H _ I h) λus s1 ⟨vs,H1,I1,r1,q1⟩=>?_) (by rw[hs,hs2]) (by rw[hs2];rfl)));obtain⟨a,b,rfl,⟨xs,hq1⟩,⟨ys,hq2⟩,q⟩:=q1;obtain⟨u,v,rfl,ru,rv⟩:=oo r1;cases ru;cases rv;obtain⟨its,_,p1⟩:=I1.j5 hq1;obtain⟨jts,_,p2⟩:=I1.j5 hq2;have la:a<s1.heap.objs.size:=by obtain⟨o,e,_⟩:=(show s1.heap.IsTuple a its.toArray from p1);exact wF e
 have lb:b<s1.heap.objs.size:=by obtain⟨o,e,_⟩:=(show s1.heap.IsTuple b jts.toArray from p2);exact wF e
 exact zrH p1 p2 λh' hz hi ho t1 t2 kp=>X_ (t:=true) (u:=true) I1 la lb hz hi ho t1 t2 kp q
theorem Ba{k1}{p pos:Pos}{l m:Expr}{ta:TA}(hg:Gl X "zip")(hm:X.mg "zip"=none)(ha:PA X [l,m] ta)(hs:wY [l,m] X.env=[(false,eval l X.env),(false,eval m X.env)]:=by rfl)(hs2:wY [m] X.env=[(false,eval m X.env)]:=by rfl) :
  PI X (.Tuple elts k1 tpos) (.Call (.Name "zip" p) [l,m] [] pos) (AQ false false X.K ta):=by
 intro pins s σ H R I h;refine Call_ (iL I hg hm Ee (vF (aQ (ha pos pins s σ H _ I h) λus s1 ⟨vs,H1,I1,r1,q1⟩=>?_) (by rw[hs,hs2]) (by rw[hs2];rfl)));obtain⟨a,b,rfl,⟨xs,hq1⟩,⟨ys,hq2⟩,q⟩:=q1;obtain⟨u,v,rfl,ru,rv⟩:=oo r1;cases ru;cases rv;obtain⟨its,_,p1⟩:=I1.j5 hq1;obtain⟨jts,_,p2⟩:=I1.j5 hq2;have la:a<s1.heap.objs.size:=by obtain⟨o,e,_⟩:=(show s1.heap.IsList a its.toArray from p1);exact wF e
 have lb:b<s1.heap.objs.size:=by obtain⟨o,e,_⟩:=(show s1.heap.IsList b jts.toArray from p2);exact wF e
 exact call_zip_2 p1 p2 λh' hz hi ho t1 t2 _ kp=>X_ (t:=false) (u:=false) I1 la lb hz hi ho t1 t2 kp q
theorem df.same{t:Bool}{K:wa}{H H':Hp}{xs:.x}(s:ar H H')(h:df t K H a xs):df t K H' a xs:=by
 cases t
 ·exact s.seq h
 ·exact s.j_ h
def GQ(t u:Bool)(K:wa)(g:TG)(tb:TS)(D:c_)(σ : L2.St)(vs:.x)(H1:Hp):Prop:=∃a b,vs=[.ref a,.ref b]/\(∃xs,df t K H1 a xs)/\(∃ys,df u K H1 b ys) /\
 ∃W:Nat->Nat->L2.St->Hp->Prop,(∃m,W 0 m σ H1) /\ ∀i m σ H,W i m σ H ->
  ((nk t u K a b).stop i H/\D.nx σ H)\/((nk t u K a b).go i H /\ ∃M:L2.St->Hp->Prop,(∀σ' H',M σ' H'->∃m',m'<m/\W (i+1) m' σ' H') /\ ∀x H',(nk t u K a b).fW i H x H'->g x σ H' λσ2 H2=>tb {D with nx:=M,ct:=M,bk:=D.nx} σ2 H2)
def Gv(t u:Bool)(K:wa)(g:TG)(tt:TT)(te:TE)(src:.R)(σ : L2.St)(vs:.x)(H1:Hp)(Q:VK):Prop:=∃a b,vs=[.ref a,.ref b]/\(∃xs,df t K H1 a xs)/\(∃ys,df u K H1 b ys) /\
 ∀D,H1 D=none->lY g tt te (nk t u K a b) D (eD src σ) (upd H1 D (.lst [])) (λH'=>Q .bx H')
section
variable{t u:Bool}{K:wa}{ta:TA}{g:TG}{tb:TS}{tt:TT}{te:TE}{D:c_}{σ : L2.St}{H:Hp}{Q:VK}{a b:we}{xs ys:.x}{src:.R}{o0 o0':.bf}{tl:L2.St}
theorem zDg(h:ta σ H λvs H1=>GQ t u K g tb D σ vs H1):oB (AQ t u K ta) g tb D σ H:=h
theorem zAE(h:ta σ H λvs H1=>Gv t u K g tt te src σ vs H1 Q):lR src (AQ t u K ta) g tt te σ H Q:=h
theorem zyY(hx:df t K H a xs)(hy:df u K H b ys)(hxy:.Z)(Pv:Nat->L2.St->Hp->Prop)(h0:Pv 0 σ H)(hl:∀i σ H,i<=xs.length->Pv i σ H->df t K H a xs/\df u K H b ys)
  (hs:∀i x y σ H c H',xs[i]? = some x->ys[i]? = some y->Pv i σ H->H c=none->ar H H'->H' c=some (.tup [x,y])->g (.ref c) σ H' λσ2 H2=>tb {D with nx:=Pv (i+1),ct:=Pv (i+1),bk:=D.nx} σ2 H2) (hd:∀σ H,Pv xs.length σ H->D.nx σ H):GQ t u K g tb D σ [.ref a,.ref b] H:=by
 refine⟨a,b,rfl,⟨xs,hx⟩,⟨ys,hy⟩,λi m σ H=>i+m=xs.length/\Pv i σ H,⟨xs.length,by lia,h0⟩,?_⟩;rintro i m σ H ⟨him,hp⟩;obtain⟨hq1,hq2⟩:=hl i σ H .a hp
 by_cases hm:m=0
 ·have e:i=xs.length:=by lia
  subst e;exact .inl ⟨⟨xs,ys,hq1,hq2,.inl rfl⟩,hd _ _ hp⟩
 ·have hi:i<xs.length:=by lia
  have hj:i<ys.length:=by lia
  refine .inr ⟨⟨xs,xs[i],ys,ys[i],hq1,by simp[hi],hq2,by simp[hj]⟩,λσ' H'=>Pv (i+1) σ' H',λσ' H' h=>⟨m-1,by lia,by lia,h⟩,?_⟩;rintro v H' hz;obtain⟨c,x,y,rfl,hn,hx',hy',rfl⟩:=hz;exact hs i x y σ H c _ (hx' xs hq1) (hy' ys hq2) hp hn (ar.upd hn) dk
def gL(H:Hp)(tl:L2.St)(Rel:Nat->V->Hp->Prop)(D:we)(i:Nat)(zs:.x)(σ':L2.St)(H':Hp):Prop :=
 (∃o1 o2,σ'=o1::o2::tl)/\H D=none/\ar H H'/\H' D=some (.lst zs)/\zs.length=i /\ ∀j y,zs[j]? = some y->Rel j y H'
theorem yg{Rel:Nat->V->Hp->Prop}{D:we}{i:Nat}{zs:.x}{σ' σ3:L2.St}{H1 H5:Hp}{y:V}(inv:gL H tl Rel D i zs σ' H1)(hi:i<=1000)(hk:∀i v H1 H2,bC H1 H2->Rel i v H1->Rel i v H2)(hσ : ∃o1 o2,σ3=o1::o2::tl)(s:ar H1 H5)(r:Rel i y H5):sh (gL H tl Rel) D i σ3 y H5:=by
 obtain⟨_,hn,s1,hD,hl,hr⟩:=inv;have hD5:=s _ _ hD;refine jU hD5 .a λH6 E6 e6=>⟨hσ,hn,(s1.trans s).grow hn E6,e6,by simp[hl],λj z hz=>?_⟩
 have k6:bC H5 H6:=E6.keep hD5;rcases wE j zs.length with hj | hj
 ·rw[vQ hj]at hz
  exact hk _ _ _ _ (s.keep.trans k6) (hr j z hz)
 ·have hj':j=zs.length:=by
   rcases wE zs.length j with q | q
   ·rw[wN .aL]at hz;cases hz
   ·lia
  subst hj';rw[vC .Y,Vm]at hz;cases hz;rw[hl];exact hk _ _ _ _ k6 r
theorem zxs(hx:df t K H a xs)(hy:df u K H b ys)(hxy:.Z)(hsrc:eD src σ = o0::o0'::tl)(Rel:Nat->V->Hp->Prop)(hk:∀i v H1 H2,bC H1 H2->Rel i v H1->Rel i v H2)
  (hs:∀D i x y zs o1 o2 H1 c,xs[i]? = some x->ys[i]? = some y->gL H tl Rel D i zs (o1::o2::tl) H1->H1 c=some (.tup [x,y])->jl (gL H tl Rel) g tt te D i (.ref c) (o1::o2::tl) H1)
  (hd:∀D zs H',H D=none->ar H H'->H' D=some (.lst zs)->zs.length=xs.length->(∀j y,zs[j]? = some y->Rel j y H')->Q .bx H'):Gv t u K g tt te src σ [.ref a,.ref b] H Q:=by
 refine⟨a,b,rfl,⟨xs,hx⟩,⟨ys,hy⟩,λD hD=>⟨λi m σ' H'=>i+m=xs.length /\ ∃zs,gL H tl Rel D i zs σ' H',⟨xs.length,by lia,[],⟨o0,o0',hsrc⟩,hD,ar.upd hD,dk,rfl,λj y z=>by simp at z⟩,?_⟩⟩;rintro i m σ' H' ⟨him,zs,inv⟩;have hq1:=df.same inv.2.2.1 hx;have hq2:=df.same inv.2.2.1 hy
 by_cases hm:m=0
 ·have e:i=xs.length:=by lia
  subst e;obtain⟨_,n,s,e,hl,r⟩:=inv;exact .inl ⟨⟨xs,ys,hq1,hq2,.inl rfl⟩,hd D zs H' n s e hl r⟩
 ·have hi:i<xs.length:=by lia
  have hj:i<ys.length:=by lia
  refine .inr ⟨⟨xs,xs[i],ys,ys[i],hq1,by simp[hi],hq2,by simp[hj]⟩,λσ2 H2=>∃zs,gL H tl Rel D (i+1) zs σ2 H2,λσ2 H2 h=>⟨m-1,by lia,by lia,h⟩,?_⟩;rintro v H2 hz;obtain⟨c,x,y,rfl,hn,hx',hy',rfl⟩:=hz;obtain⟨⟨o1,o2,rfl⟩,n,s,e,hl,r⟩:=inv;have su:=ar.upd (o:=.tup [x,y]) hn;exact hs D i x y zs o1 o2 _ c (hx' xs hq1) (hy' ys hq2) ⟨⟨o1,o2,rfl⟩,n,s.trans su,su _ _ e,hl,λj y hy=>hk _ _ _ _ su.keep (r j y hy)⟩ dk
end
def HK(K:wa):List V->Hp->VK->Prop:=λxs H Q=>∃(p:we)(ns:.p),xs=[.ref p]/\aV K H p .aq/\Q (.int ns.sum) H
theorem Ai:vL "sum"=some (.builtin "sum"):=by decide +kernel
open PyProof.V PySem.Calls in
theorem zzE{X:Cx}(hc:.bu):bM X (.builtin "sum") (HK X.K):=by
 intro pins s σ H xs us Q I r h;obtain⟨p,ns,rfl,hq,q⟩:=h;obtain⟨u,rfl,rx⟩:=iD r;cases rx;obtain⟨its,r',pl,hz⟩:=I.tuple hq;have hI:=BW r';have hT:s.heap.IsTuple p its.toArray:=pl;obtain⟨zs,hx⟩:=hI.allInts.items;have hn:numsOf its.toArray.toList=ns:=by rw[show its.toArray.toList=its from rfl,hI.numsOf]
 rw[hx]at hT hn;rw[nums_intItems]at hn;refine PySem.W.ktm_sumG .aE hT λh' tk t' hk=>?_
 rw[preSum_eq,WU .u,hn];exact⟨.int ns.sum,H,I.kept (t':=tk) hk,⟨_,rfl⟩,q⟩
theorem zAn{K:wa}{H:Hp}{Q:VK}{v:V}{ns:.p}(h:Is K H v (TZ ns))(q:Q (.int ns.sum) H):HK K [v] H Q:=by
 obtain⟨a,rfl,hs⟩:=rX.mp h;exact⟨a,ns,rfl,hs,q⟩
theorem zB5{α : Type}(xs:.aY)(k:Nat)(h:k<=xs.length):cutD xs (some (k:Int)) none=xs.drop k:=by
 unfold cutD;rw[HT.aar,HT.aax,Nat.min_eq_left h];exact WU (by rw[Wd];lia)
def mW(K:wa):List V->Hp->VK->Prop:=λxs H Q=>∃(p:we)(bs:List Bool),xs=[.ref p]/\aE K H p (bs.map V.bl)/\Q (.bl (bs.all id)) H
theorem pj:vL "all"=some (.builtin "all"):=by decide +kernel
theorem YN{bs:List Bool} : ∀{us:.J},aU (bs.map V.bl) us->us=bs.map Value.bool:=by
 induction bs with
 | nil=>intro us r;rw[xy]at r;cases r;rfl
 | cons b bs ih =>
  intro us r;rw[ve]at r;cases r with
  | cons r1 r2 =>
   cases r1;rw[ve,ih r2]
theorem zwE(bs:List Bool):((wp bs.length).all λi=>(bs[i]?).getD true)=bs.all id:=by
 rw[vA,Wk,Wk]
 constructor
 ·intro h b hb
  obtain⟨i,hi,rfl⟩:=wX hb;have:=h i (wH.mpr hi);rw[wc hi]at this;exact this
 ·intro h i hi
  rw[wH]at hi;rw[wc hi];exact h _ (We hi)
open PyProof.V PySem.Calls in
theorem rE{X:Cx}(hc:.bu):bM X (.builtin "all") (mW X.K):=by
 intro pins s σ H xs us Q I r h;obtain⟨p,bs,rfl,hq,q⟩:=h;obtain⟨u,rfl,rx⟩:=iD r;cases rx;obtain⟨its,r',pl,hz⟩:=I.list hq;have hi:its=bs.map Value.bool:=YN r';have hl:s.heap.IsList p its.toArray:=pl.isList;have hlt:p<s.heap.objs.size:=by obtain⟨_,e,_⟩:=hl;exact wF e
 refine call_all_walk (qA hl ?_)
 refine⟨s.heap.objs.size,[s.heap.objs.size,p],[s.heap.objs.size],its.toArray.size,_,_,λi=>(bs[i]?).getD true,rfl,u0 (A:=X.A.in1) .aE _ p (wT hlt) its.toArray,
  ⟨⟨_,wS _ rfl,rfl,rfl⟩,hl.push _⟩,λi v s' Q' E' hP hQ=>?_,λh' tk hk=>?_⟩
 ·have hP:its.toArray[i]? = some v:=hP
  rw[hi]at hP;simp only[Xh,wu,VA]at hP;obtain⟨b,e,rfl⟩:=hP;simp only[e,QF]at hQ;exact Wx hQ
 ·have e:((wp its.toArray.size).all λi=>(bs[i]?).getD true)=bs.all id:=by
   rw[wP,hi,wl];exact zwE bs
  rw[e];exact⟨.bl (bs.all id),H,I.kept (t':=tk) (λb x e=>hk b x (λhm=>by rw[vc.mp hm]at e;exact Vp _ (wF e)) (wn _ e)),rfl,q⟩
theorem oA{K:wa}{H:Hp}{Q:VK}{p:we}{bs:List Bool}(h:aE K H p (bs.map V.bl))(q:Q (.bl (bs.all id)) H):mW K [.ref p] H Q:=⟨p,bs,rfl,h,q⟩
section
variable{t u:Bool}{K:wa}{g:TG}{tt:TT}{te:TE}{σ : L2.St}{H:Hp}{Q:VK}{a b:we}{xs ys:.x}{src:.R}{o0 o0':.bf}{tl:L2.St}
theorem zAS(hx:df t K H a xs)(hy:df u K H b ys)(hxy:ys.length<xs.length)(hsrc:eD src σ = o0::o0'::tl)(Rel:Nat->V->Hp->Prop)(hk:∀i v H1 H2,bC H1 H2->Rel i v H1->Rel i v H2)
  (hs:∀D i x y zs o1 o2 H1 c,xs[i]? = some x->ys[i]? = some y->gL H tl Rel D i zs (o1::o2::tl) H1->H1 c=some (.tup [x,y])->jl (gL H tl Rel) g tt te D i (.ref c) (o1::o2::tl) H1)
  (hd:∀D zs H',H D=none->ar H H'->H' D=some (.lst zs)->zs.length=ys.length->(∀j y,zs[j]? = some y->Rel j y H')->Q .bx H'):Gv t u K g tt te src σ [.ref a,.ref b] H Q:=by
 refine⟨a,b,rfl,⟨xs,hx⟩,⟨ys,hy⟩,λD hD=>⟨λi m σ' H'=>i+m=ys.length /\ ∃zs,gL H tl Rel D i zs σ' H',⟨ys.length,by lia,[],⟨o0,o0',hsrc⟩,hD,ar.upd hD,dk,rfl,λj y z=>by simp at z⟩,?_⟩⟩;rintro i m σ' H' ⟨him,zs,inv⟩;have hq1:=df.same inv.2.2.1 hx;have hq2:=df.same inv.2.2.1 hy
 by_cases hm:m=0
 ·have e:i=ys.length:=by lia
  subst e;obtain⟨_,n,s,e,hl,r⟩:=inv;exact .inl ⟨⟨xs,ys,hq1,hq2,.inr ⟨hxy,rfl⟩⟩,hd D zs H' n s e hl r⟩
 ·have hi:i<xs.length:=by lia
  have hj:i<ys.length:=by lia
  refine .inr ⟨⟨xs,xs[i],ys,ys[i],hq1,by simp[hi],hq2,by simp[hj]⟩,λσ2 H2=>∃zs,gL H tl Rel D (i+1) zs σ2 H2,λσ2 H2 h=>⟨m-1,by lia,by lia,h⟩,?_⟩;rintro v H2 hz;obtain⟨c,x,y,rfl,hn,hx',hy',rfl⟩:=hz;obtain⟨⟨o1,o2,rfl⟩,n,s,e,hl,r⟩:=inv;have su:=ar.upd (o:=.tup [x,y]) hn;exact hs D i x y zs o1 o2 _ c (hx' xs hq1) (hy' ys hq2) ⟨⟨o1,o2,rfl⟩,n,s.trans su,su _ _ e,hl,λj y hy=>hk _ _ _ _ su.keep (r j y hy)⟩ dk
end
variable{H:Hp}
def Sf(g:TG)(tb:TS)(D:c_)(σ : L2.St)(vs:.x)(H1:Hp):Prop:=∃i j:Int,vs=[.int i,.int j]/\(-(2^62)<=i/\i<2^62 /\ -(2^62)<=j/\j<2^62) /\
 ∃W:Nat->Nat->L2.St->Hp->Prop,(∃m,W 0 m σ H1) /\ ∀k m σ H,W k m σ H ->
  ((gZ i (j-i).toNat).stop k H/\D.nx σ H)\/((gZ i (j-i).toNat).go k H /\ ∃M:L2.St->Hp->Prop,(∀σ' H',M σ' H'->∃m',m'<m/\W (k+1) m' σ' H') /\ ∀x H',(gZ i (j-i).toNat).fW k H x H'->g x σ H' λσ2 H2=>tb {D with nx:=M,ct:=M,bk:=D.nx} σ2 H2)
theorem zBB{ta:TA}{g:TG}{tb:TS}{D:c_}{σ : L2.St}(h:ta σ H λvs H1=>Sf g tb D σ vs H1):oB (TV ta) g tb D σ H:=h
theorem zvD{g:TG}{tb:TS}{D:c_}{σ : L2.St}{lo hi:Int}(h0 : -1000000000<=lo)(h1:lo<1000000000)(h2 : -1000000000<=hi)(h3:hi<1000000000)(Pv:Nat->L2.St->Hp->Prop)(p:Pv 0 σ H)
  (hs:∀(i:Nat) σ H,i<(hi-lo).toNat->Pv i σ H->g (.int (lo+(i:Int))) σ H λσ2 H2=>tb {D with nx:=Pv (i+1),ct:=Pv (i+1),bk:=D.nx} σ2 H2)
  (hd:∀σ H,Pv (hi-lo).toNat σ H->D.nx σ H):Sf g tb D σ [.int lo,.int hi] H :=
 ⟨lo,hi,rfl,⟨by lia,by lia,by lia,by lia⟩,UP (lo:=lo) Pv p hs hd⟩
def IH(K:wa):List V->Hp->VK->Prop:=λxs H Q=>∃x tp S T d b,xs=[x,.ref tp]/\aV K H tp [.ty S,.ty T]/\Is K H x d/\Ui K (.type (kindOf d)) [.type S,.type T]=some b/\Q (.bl b) H
theorem zw6{X:Cx} : bM X .ao (IH X.K):=by
 intro pins s σ H xs us Q I r h;obtain⟨x,tp,S,T,d,b,rfl,ht,hd,e,q⟩:=h;obtain⟨u,w',rfl,rx,rt⟩:=oo r;cases (show w'=Value.ref tp from rt);obtain⟨tts,rv,⟨ot,ht1,ht2,n,ht3⟩,_⟩:=I.tuple ht;obtain⟨t1,t2,rfl,r1,r2⟩:=oo rv;cases (show t1=Value.type S from r1);cases (show t2=Value.type T from r2);obtain⟨c,dd,da,sl⟩:=ot;cases ht2;cases ht3;have fin:∀tk,EP X pins σ Q (.bool b) {s with toks:=tk}:=λtk=>⟨.bl b,H,I.tok _,rfl,q⟩
 cases d with
 | none =>
  cases kK.mp hd;cases (show u=Value.none from rx);exact VO X8 I.eF True.intro ht1 e (λz=>nomatch z) fin
 | bool y =>
  cases kX.mp hd;cases (show u=Value.bool y from rx);exact VO X9 I.eF True.intro ht1 e (λz=>nomatch z) fin
 | int i =>
  cases cf.mp hd;obtain⟨t,q⟩:=(show ∃t,u=Value.int i t from rx);cases q;exact VO uF I.eF True.intro ht1 e (λz=>nomatch z) fin
 | str y =>
  cases eU.mp hd;obtain⟨t,q⟩:=(show ∃t,u=Value.str y t from rx);cases q;exact VO uG I.eF True.intro ht1 e (λz=>nomatch z) fin
 | tuple ds =>
  obtain⟨a,xs,e1,hq,_⟩:=bY.mp hd;subst e1;cases (show u=Value.ref a from rx);obtain⟨its,_,⟨o,h1,h2,_⟩,_⟩:=I.tuple hq;exact VO XS I.eF ⟨o,h1,h2⟩ ht1 e (λz=>nomatch z) fin
 | list ds =>
  obtain⟨a,xs,e1,hq,_⟩:=cq.mp hd;subst e1;cases (show u=Value.ref a from rx);obtain⟨its,_,⟨o,n,h1,h2,_⟩,_⟩:=I.list hq;exact VO ua I.eF ⟨o,h1,h2⟩ ht1 e (λz=>nomatch z) fin
 | dict kv =>
  obtain⟨a,kvs,e1,hq⟩:=BA.mp hd;subst e1;cases (show u=Value.ref a from rx);obtain⟨_,_,vs,_,o,es,ep,h1,h2,_⟩:=(show d8 X.prog X.w H s.heap a (.dK kvs)from I.aO a _ hq);exact VO ub I.eF ⟨o,h1,h2.1⟩ ht1 e (λz=>nomatch z) fin
theorem zCp{K:wa}(d:wC):Ui K (.type (kindOf d)) [.type "list",.type "tuple"]=some (mK d || jL d):=by cases d<;>rfl
theorem Jc{K:wa}{Q:VK}{v:V}{tp:we}{d:wC}(h:.bH)(t:H tp=some (.tup [.ty "list",.ty "tuple"]))(q:Q (.bl (mK d || jL d)) H):IH K [v,.ref tp] H Q :=
 ⟨v,tp,"list","tuple",d,_,rfl,.of t,h,zCp d,q⟩
section
variable{X:Cx}{tg:Expr}
def Ez(K:wa)(tl:TE):TI:=λσ H R=>tl σ H λx H1=>(∃a,x=.ref a/\(∃xs,aE K H1 a xs)/\R (kA K a) H1)\/(∃a,x=.ref a/\(∃xs,aV K H1 a xs)/\R (kC K a) H1)
theorem Hl{l:Expr}{tl:TE}(hl:PE X l tl):PI X tg l (Ez X.K tl):=by
 intro pins s σ H R I h;refine aQ (hl pins s σ H _ I h) λv s1 ⟨x,H1,I1,r1,q1⟩=>?_
 rcases q1 with⟨a,e,⟨xs,hq⟩,q⟩ | ⟨a,e,⟨xs,hq⟩,q⟩
 ·subst e
  cases r1;obtain⟨its,rv,p,hz⟩:=I1.list hq;refine qA p.isList ?_;refine⟨s1.heap.objs.size,[s1.heap.objs.size],_,_,H1,rfl,I1.kept (t':=s1.toks) λb o e=>wn _ e,zq1 a _,⟨_,wS _ rfl,rfl,rfl⟩,λb hb=>?_,q⟩;have e:b=s1.heap.objs.size:=by simpa using hb
  subst e;exact I1.kR .Y (I1.aO.fresh .Y)
 ·subst e
  cases r1;obtain⟨its,rv,p,hz⟩:=I1.tuple hq;refine Vk (show s1.heap.IsTuple a its.toArray from p) ?_;refine⟨s1.heap.objs.size,[s1.heap.objs.size],_,_,H1,rfl,I1.kept (t':=s1.toks) λb o e=>wn _ e,Sq a _,⟨_,wS _ rfl,rfl,rfl⟩,λb hb=>?_,q⟩;have e:b=s1.heap.objs.size:=by simpa using hb
  subst e;exact I1.kR .Y (I1.aO.fresh .Y)
end
section
variable{K:wa}{g:TG}{tt:TT}{te ta tb' tc:TE}{tb:TS}{D:c_}{src:.R}{σ : St}{H:Hp}{Q:VK}{r r':R2}
theorem zBV(h:ta σ H λx H1=>AU K g tt te src σ x H1 Q\/B4 K g tt te src σ x H1 Q):lR src (Ez K ta) g tt te σ H Q:=h
theorem zCj(h:te σ H λx H1=>Fn K g tb D σ x H1\/Rm K g tb D σ x H1):oB (Ez K te) g tb D σ H:=h
theorem dq28:(IF r r' ta tb' tc σ H Q)=(ta σ H λx H1=>tb' σ H1 λy H2=>r x y H2 λz H3=>∃k,z=.bl k/\(if k=true then tc σ H3 λw' H4=>r' y w' H4 Q else Q (.bl false) H3)):=rfl
theorem zB2(h:ta σ H λx H1=>tb' σ H1 λy H2=>r x y H2 λz H3=>∃k,z=.bl k/\(if k=true then tc σ H3 λw' H4=>r' y w' H4 Q else Q (.bl false) H3)):IF r r' ta tb' tc σ H Q:=h
theorem zEM{b:Bool}{P:Bool->Prop}(h:P b):∃k,V.bl b=.bl k/\P k:=⟨b,rfl,h⟩
end
def bG(a b:Rat)(xs:.c):wC:=.tuple [R a b,TN xs]
theorem zCA(a b:Rat)(xs:.c):dC (bG a b xs)=true:=by rw[bG,dC,cg,cg,cg,BB,nX];rfl
theorem zG2{x y:Rat}(h:N x=N y):x=y:=by
 have h':PyData.tuple [.int x.num,.int .S]=PyData.tuple [.int y.num,.int .bv]:=h
 injection h' with h1
 injection h1 with h2 h3
 injection h2 with h4
 injection h3 with h5 _
 injection h5 with h6
 exact Ug h4 .a
theorem mE{K:wa}{H:Hp}{us:.x}{ds:.br}{i:Nat}{x:V}(t:ai K H us ds)(h:us[i]? = some x):i<ds.length/\Is K H x (ds.getD i .none):=by
 have hl:=t.length
 have hi:i<ds.length:=by
  rcases wE i ds.length with z | z
  ·exact z
  ·rw[wN .a]at h;cases h
 obtain⟨y,e,k⟩:=t.get (i:=i) (d:=ds.getD i .none) (by rw[wb,wc hi];rfl);rw[e]at h;cases h;exact⟨hi,k⟩
def Hz:List V->Hp->VK->Prop:=λxs H Q=>∃i j,xs=[.int i,.int j]/\Q (.int (if j<i then j else i)) H
theorem zyP{X:Cx}(hc:.bu):bM X (.builtin "min") Hz:=zyA hc
theorem zFB:vL "min"=some (.builtin "min"):=by decide +kernel
theorem zDJ{i j:Int}{H:Hp}{Q:VK}(q:∀m:Int,m<=i->m<=j->(m=i\/m=j)->Q (.int m) H):Hz [.int i,.int j] H Q:=⟨i,j,rfl,by
 split
 ·exact q j .a .a (.inr rfl)
 ·exact q i .a .a .aZ⟩
def Dh(K:wa)(a:we):It :=
 ⟨λi H=>∃xs x,aE K H a xs/\xs[i]? = some x,λi H y H'=>∃t x,y=.ref t/\H t=none/\(∀xs,aE K H a xs->xs[i]? = some x)/\H'=upd H t (.tup [.int (i:Int),x]),λi H=>∃xs,aE K H a xs/\xs.length<=i⟩
theorem zwq{P:wK}{w:wO}{K:wa}{elts:.ak}{k1}{tpos:Pos}(a e it:we)(hne:e≠it):ko P w K (.Tuple elts k1 tpos) (Dh K a) [e,it] e (λi h=>(∃old,IsEnum h e it (i:Int) old)/\h.IsListIter it a i) where
 mem:=by simp
 obj:=λi h st b hb=>by
  obtain⟨⟨old,he⟩,o,eo,c,d⟩:=st;rcases wG.mp hb with rfl | hb
  ·exact⟨_,he,λv z=>by cases (show Data.fields _=Data.cell v from z)⟩
  ·rw[vc.mp hb]
   exact⟨o,eo,λv z=>by rw[d]at z;cases z⟩
 keep:=λi h h' st k=>⟨let ⟨old,he⟩:=st.1;⟨old,k e .u _ he⟩,st.2.at λo eo=>k it .u o eo⟩
 item:=by
  intro X hP hw hK hc i pins s σ H E I hf st hg;subst hP hw hK;obtain⟨⟨old,he⟩,st⟩:=st;obtain⟨xs,x,hq,hx⟩:=hg;obtain⟨its,rv,p,hz⟩:=I.list hq;obtain⟨u,hu,ru⟩:=rv.get hx;have p':s.heap.IsList a its.toArray:=p.isList
  have hai:a≠it:=λz=>by
   subst z;obtain⟨o,e1,c1,_⟩:=st;obtain⟨o',e2,c2,_⟩:=p';rw[e1]at e2;cases e2;rw[c1]at c2;exact absurd c2 .M
  have hae:e≠a:=λz=>by
   subst z;obtain⟨o',e2,c2,_⟩:=p';rw[he]at e2;cases e2;exact absurd (show Value.type "enumerate"=Value.type "list" from c2) .M
  have hlt:i<its.toArray.size:=by
   rcases wE i its.length with z | z
   ·simpa using z
   ·rw[wN z]at hu;cases hu
  refine wpAny_pyNext_enum_itemD (Draws.list (A:=X.A.in1) .aE it a hai its.toArray) he ⟨st,p'⟩ hlt hne (by simp[hne,hae]) λv h1 tk hv ho hs1 hT hsz hk=>?_
  have hvu:v=u:=by
   have hv':its[i]? = some v:=by simpa using hv
   rw[hu]at hv';exact(wI hv').symm
  subst hvu
  have I1:Inv X pins σ (upd H s.heap.objs.size (.tup [.int (i:Int),x])) {s with heap:=s.heap.push {cls:=.type "tuple",data:=.seq ([.int (i:Int) tk,v]:List wf).toArray},toks:=tk+1} :=
   I.laid (λb o q=>wn _ q) .Y (show d8 X.prog X.w _ _ _ (.tup [.int (i:Int),x])from⟨oU .u,_,.cons ⟨_,rfl⟩ (.cons ru .nil),QI _ _⟩)
  have lt1:∀b∈[e,it],b<s.heap.objs.size:=λb hb=>by
   rcases wG.mp hb with rfl | hb
   ·exact wF he
   ·rw[vc.mp hb]
    obtain⟨o,eo,_⟩:=st;exact wF eo
  have hf1:∀b∈[e,it],fm X pins (upd H s.heap.objs.size (.tup [.int (i:Int),x])) b:=λb hb=>⟨by rw[eY (wT (lt1 b hb))];exact(hf b hb).1,(hf b hb).2⟩
  refine⟨_,rfl,wpAny_letOwnedTupleGo_enum ho λh2 he2 hs2=>?_⟩;refine⟨.ref s.heap.objs.size,_,Inv.yH (s:={s with heap:=s.heap.push {cls:=.type "tuple",data:=.seq ([.int (i:Int) tk,v]:List wf).toArray},toks:=tk+1}) (ch:=[e,it]) I1 (λb o hb q=>?_) hf1,rfl,⟨_,x,rfl,I.aO.fresh .Y,λys hy=>by rw[I.CY hy hq];exact hx,rfl⟩,⟨⟨_,by simpa using he2⟩,hs1.1.at λo eo=>(hs2.2 it (WI hne)).trans eo⟩,λb hb=>(hf1 b hb).1⟩;have hbe:b≠e:=λz=>hb (by simp[z])
  have hbi:b≠it:=λz=>hb (by simp[z])
  refine(hs2.2 b hbe).trans ?_
  by_cases hb2:b=s.heap.objs.size
  ·subst hb2
   rw[wS _ rfl]at q;cases q;exact hT
  ·exact hk b o hbe hbi (by rw[xp _ _ _ hb2]at q;exact q)
 done:=by
  intro X hP hw hK hc i pins s σ H E I hf st hg;subst hP hw hK;obtain⟨⟨old,he⟩,st⟩:=st;obtain⟨xs,hq,hx⟩:=hg;obtain⟨its,rv,p,hz⟩:=I.list hq;have p':s.heap.IsList a its.toArray:=p.isList;have hl:=rv.length;have hT:s.TypeIs (.ref e) "enumerate":=⟨_,he,rfl⟩;unfold V2;refine wg (VT (wpAny_callSpecial?_slot (name:=Wg "__next__") hT qH (Wp qH hT x5 ?_ (xH _))))
  show wx _ _ (field (.ref e) 2 >>= _) _ _ _;refine wg (vH he rfl (x:=.ref it) rfl ?_)
  refine wg (wpAny_nextOf_list_end (A:=X.A.in1) .aE st p' .aL λh' y he' hx'=>?_);obtain⟨o,ho,hcl⟩:=hx';refine wg (Vz (T:="StopIteration") (b:=true) ⟨o,ho,hcl⟩ isSubtype_stop (wq ⟨rfl,?_⟩));obtain⟨f0,f1,f2,f3,f4,f5⟩:=hf it .u;exact I.turned (t':=s.toks) (λb o hb e=>he' b o hb e) f0 f1 f3 f4 f5
 self:=λ_ _ _ _ _ st h=>let ⟨_,he⟩:=st.1;wpAny_pyIter_enum he h
def PY(K:wa)(ta:TA):TI:=λσ H R=>ta σ H λvs H1=>∃a,vs=[.ref a]/\(∃xs,aE K H1 a xs)/\R (Dh K a) H1
theorem zAz{X:Cx}{elts:.ak}{k1}{tpos p pos:Pos}{l:Expr}{ta:TA}(hg:Gl X "enumerate")(hm:X.mg "enumerate"=none)(ha:PA X [l] ta)(hs:wY [l] X.env=[(false,eval l X.env)]:=by rfl) :
  PI X (.Tuple elts k1 tpos) (.Call (.Name "enumerate" p) [l] [] pos) (PY X.K ta):=by
 intro pins s σ H R I h;refine Call_ (iL I hg hm Yw (vF (aQ (ha pos pins s σ H _ I h) λus s1 ⟨vs,H1,I1,r1,q1⟩=>?_) hs rfl));obtain⟨a,rfl,⟨xs,hq⟩,q⟩:=q1;obtain⟨u,rfl,ru⟩:=iD r1;cases ru;obtain⟨its,rv,p,hz⟩:=I1.list hq;refine call_enumerate_list p.isList λh' he hit _ kp=>?_
 refine wpAny_pyIter_enum he ?_;refine⟨s1.heap.objs.size+1,[s1.heap.objs.size+1,s1.heap.objs.size],_,_,H1,rfl,I1.kept (t':=s1.toks) kp,zwq a (s1.heap.objs.size+1) s1.heap.objs.size (uI _),⟨⟨_,he⟩,hit⟩,λb hb=>?_,q⟩
 have hb':s1.heap.objs.size<=b:=by
  rcases wG.mp hb with rfl | hb
  ·lia
  ·rw[vc.mp hb];exact wo _
 exact I1.kR hb' (I1.aO.fresh hb')
def Rc(K:wa)(g:TG)(tt:TT)(te:TE)(src:.R)(σ : St)(vs:.x)(H1:Hp)(Q:VK):Prop:=∃a,vs=[.ref a]/\(∃xs,aE K H1 a xs) /\
 ∀D,H1 D=none->lY g tt te (Dh K a) D (eD src σ) (upd H1 D (.lst [])) (λH'=>Q .bx H')
section
variable{K:wa}{ta:TA}{g:TG}{tb:TS}{tt c:TT}{te:TE}{D:c_}{σ : St}{H:Hp}{Q:VK}{a:we}{xs:.x}{src:.R}{o0 o0':.bf}{tl:St}
theorem zzd(h:ta σ H λvs H1=>Rc K g tt te src σ vs H1 Q):lR src (PY K ta) g tt te σ H Q:=h
theorem zCe(hx:aE K H a xs)(hsrc:eD src σ = o0::o0'::tl)(Rel:Nat->V->Hp->Prop)(hk:∀i v H1 H2,bC H1 H2->Rel i v H1->Rel i v H2)
  (hs:∀D i x zs o1 o2 H1 c,xs[i]? = some x->gL H tl Rel D i zs (o1::o2::tl) H1->H1 c=some (.tup [.int (i:Int),x])->jl (gL H tl Rel) g tt te D i (.ref c) (o1::o2::tl) H1)
  (hd:∀D zs H',H D=none->ar H H'->H' D=some (.lst zs)->zs.length=xs.length->(∀j y,zs[j]? = some y->Rel j y H')->Q .bx H'):Rc K g tt te src σ [.ref a] H Q:=by
 refine⟨a,rfl,⟨xs,hx⟩,λD hD=>⟨λi m σ' H'=>i+m=xs.length /\ ∃zs,gL H tl Rel D i zs σ' H',⟨xs.length,by lia,[],⟨o0,o0',hsrc⟩,hD,ar.upd hD,dk,rfl,λj y z=>by simp at z⟩,?_⟩⟩;rintro i m σ' H' ⟨him,zs,inv⟩;have hq1:=inv.2.2.1.seq hx
 by_cases hm:m=0
 ·have e:i=xs.length:=by lia
  subst e;obtain⟨_,n,s,e,hl,r⟩:=inv;exact .inl ⟨⟨xs,hq1,wo _⟩,hd D zs H' n s e hl r⟩
 ·have hi:i<xs.length:=by lia
  refine .inr ⟨⟨xs,xs[i],hq1,by simp[hi]⟩,λσ2 H2=>∃zs,gL H tl Rel D (i+1) zs σ2 H2,λσ2 H2 h=>⟨m-1,by lia,by lia,h⟩,?_⟩;rintro v H2 hz;obtain⟨c,x,rfl,hn,hx',rfl⟩:=hz;obtain⟨⟨o1,o2,rfl⟩,n,s,e,hl,r⟩:=inv;have su:=ar.upd (o:=.tup [.int (i:Int),x]) hn;exact hs D i x zs o1 o2 _ c (hx' xs hq1) ⟨⟨o1,o2,rfl⟩,n,s.trans su,su _ _ e,hl,λj y hy=>hk _ _ _ _ su.keep (r j y hy)⟩ dk
def zxi(Pv:Nat->St->Hp->Prop)(m:Nat)(tb:TS)(D:c_)(σ':St)(H1:Hp):Prop :=
 ∃M:St->Hp->Prop,(∀σ2 H2,M σ2 H2->∃m',m'<m/\Pv m' σ2 H2)/\tb {D with nx:=M,ct:=M,bk:=D.nx} σ' H1
theorem rf(Pv:Nat->St->Hp->Prop)(m0:Nat)(h0:Pv m0 σ H)(hs:∀m σ' H',Pv m σ' H'->c σ' H' λb H1=>if b=true then zxi Pv m tb D σ' H1 else D.nx σ' H1):Fi c tb D σ H:=⟨Pv,⟨m0,h0⟩,hs⟩
theorem pY{Pv:Nat->St->Hp->Prop}{m:Nat}{σ':St}{H1:Hp}(h:tb {D with nx:=λσ2 H2=>∃m',m'<m/\Pv m' σ2 H2,ct:=λσ2 H2=>∃m',m'<m/\Pv m' σ2 H2,bk:=D.nx} σ' H1):zxi Pv m tb D σ' H1:=⟨_,λ_ _ q=>q,h⟩
def Ak(K:wa)(x:V)(H:Hp)(Q:Bool->Hp->Prop):Prop:=∃k,Ic K x H k/\Q k H
def So(K:wa)(te:TE):TT:=λσ H Q=>te σ H λx H'=>Ak K x H' Q
theorem A9{X:Cx}{e:Expr}{t:TE}(h:PE X e t)(he:∀whole,isTrue e X.env whole=(do let v <- whole;standAt e.pos;holding [v] (truthy v)):=by intro _;rfl):PT X e (So X.K t):=zzT h he
theorem dq24{QB:Bool->Hp->Prop}:(So K te σ H QB)=(te σ H λx H'=>Ak K x H' QB):=rfl
theorem zFb{QB:Bool->Hp->Prop}(h:te σ H λx H'=>Ak K x H' QB):So K te σ H QB:=h
theorem zDx{QB:Bool->Hp->Prop}{v:V}{ds:.br}(h:Is K H v .av)(q:QB (!ds.isEmpty) H):Ak K v H QB:=by
 obtain⟨p,us,rfl,hs,t⟩:=bY.mp h;have hl:=t.length;refine⟨_,.inr (.inl ⟨us,hs,rfl⟩),?_⟩
 have e:us.isEmpty=ds.isEmpty:=by
  cases us<;>cases ds<;>simp_all
 rw[e];exact q
theorem GY{QB:Bool->Hp->Prop}{v:V}{ds:.br}(h:Is K H v (.list ds))(q:QB (!ds.isEmpty) H):Ak K v H QB:=by
 obtain⟨p,us,rfl,hs,t⟩:=cq.mp h;have hl:=t.length;refine⟨_,.inl ⟨us,hs,rfl⟩,?_⟩
 have e:us.isEmpty=ds.isEmpty:=by
  cases us<;>cases ds<;>simp_all
 rw[e];exact q
end
theorem Sr:∀(ys:.x)(us:.J),ys.length=us.length->(∀(i:Nat) y u,ys[i]? = some y->us[i]? = some u->bK y u)->aU ys us
 | [],[],_,_=>.nil
 | [],_::_,h,_=>by simp at h
 | _::_,[],h,_=>by simp at h
 | y::ys,u::us,h,r=>.cons (r 0 y u rfl rfl) (Sr ys us (by simpa using h) λi y u h1 h2=>r (i+1) y u h1 h2)
def vz(l:.aR):List V:=l.map λ(w:Nat)=>V.int (w:Int)
theorem hZ(l:.aR):(vz l).length=l.length:=wl ..
def DZ(vs:.x)(H1:Hp)(Q:VK):Prop:=∃j:Int,vs=[.int j]/\0<=j/\j<=1000 /\ ∀l,H1 l=none->Q .al (upd H1 l (.lst (vz (wp j.toNat))))
def zo9(ta:TA):TE:=λσ H Q=>ta σ H λvs H1=>DZ vs H1 Q
theorem ztk{X:Cx}{a:Expr}{ta:TA}{p p2 pos pos2:Pos}(hc:.bu)(hg:Gl X "list")(hm:X.mg "list"=none)(hg2:Gl X "range")(hm2:X.mg "range"=none)(ha:PA X [a] ta)(hs:wY [a] X.env=[(false,eval a X.env)]:=by rfl)
  (hs2:wY [Expr.Call (.Name "range" p2) [a] [] pos2] X.env=[(false,eval (.Call (.Name "range" p2) [a] [] pos2) X.env)]:=by rfl):PE X (.Call (.Name "list" p) [.Call (.Name "range" p2) [a] [] pos2] [] pos) (zo9 ta):=by
 intro pins s σ H Q I h;refine Call_ (iL I hg hm h_ ?_);refine vF ?_ hs2 rfl;rw[hs2]
 show wx _ _ (spliced ((false,eval _ X.env)::V1 pos [])) _ _ s
 refine xc ?_;refine Call_ (iL I hg2 hm2 boot_range (vF (aQ (ha pos2 pins s σ H _ I h) λus s1 ⟨vs,H1,I1,r1,q1⟩=>?_) hs rfl));obtain⟨j,e,j0,j1,q⟩:=q1;subst e;obtain⟨u,rfl,ru⟩:=iD r1;obtain⟨t,rfl⟩:=ru;refine call_range_1 ?_;refine xo ?_;have I2:Inv X pins σ H1 {s1 with heap:=s1.heap.push {cls:=.type "range",data:=.fields #[.int 0 s1.toks,.int j t,.int 1 (s1.toks+1)]},toks:=s1.toks+1+1}:=I1.kept λb o e=>wn _ e
 refine call_list_range (n:=j.toNat) (I1.ok.hd hc) (UB ..) (small_one .a .a .a .a) (by rw[rangeSize_one];split<;>lia) .a λh' tk acc c hk hD hI=>?_
 refine⟨.ref _,_,I2.laid (t':=tk) hk .Y ?_,rfl,q _ (I2.aO.fresh .Y)⟩;refine⟨oU (by rw[hZ,vi];lia),acc.toList,c,Sr _ _ (by rw[hZ,vi,wV,hI.1]) λi y u hy hu=>?_,by simpa using hD⟩;have hu':acc[i]? = some u:=by simpa using hu
 obtain⟨t',e'⟩:=hI.2 i u hu'
 have hi:i<j.toNat:=by
  have:=(Vd.mp hu').1;rw[hI.1]at this;exact this
 have hy':y=V.int (i:Int):=by
  unfold vz at hy;rw[wu,vM hi]at hy;exact(wI hy).symm
 subst hy';exact⟨t',by rw[e'];congr 1;lia⟩
theorem dq25{ta:TA}{σ : St}{H:Hp}{Q:VK}:(zo9 ta σ H Q)=(ta σ H λvs H1=>DZ vs H1 Q):=rfl
theorem zsK{ta:TA}{σ : St}{H:Hp}{Q:VK}(h:ta σ H λvs H1=>DZ vs H1 Q):zo9 ta σ H Q:=h
theorem zyB{n:Nat}{H:Hp}{Q:VK}(hn:n<=1000)(q:∀l H',H l=none->ar H H'->H' l=some (.lst (vz (wp n)))->Q .al H'):DZ [V.int (n:Int)] H Q :=
 ⟨_,rfl,by lia,by lia,λl hl=>q l _ hl (ar.upd hl) (by rw[wD];exact dk)⟩
theorem Jj(w:Nat)(l:.aR):pM (.int (w:Int)) (vz l)=decide (w∈l):=by
 unfold pM vz
 induction l with
 | nil=>rfl
 | cons x l ih =>
  rw[ve,QC,ih]
  show((x:Int) == (w:Int) || _)=_
  by_cases h:w=x
  ·subst h;simp
  ·have h':¬ (x:Int)=(w:Int):=λz=>h .a
   simp[h,h']
theorem Di(l:.aR):(vz l).all ku=true:=by
 unfold vz;rw[Wk];intro y hy;obtain⟨w,_,rfl⟩:=wQ.mp hy
 rfl
section
variable{K:wa}{H H':Hp}{Q:VK}{v:V}{p:we}{l:.aR}{w:Nat}
theorem zw5(h:aV K H p (vz l))(q:Q (.bl (!decide (w∈l))) H):gu K true (.int (w:Int)) .aA H Q:=⟨p,vz l,rfl,.inr h,rfl,Di l,by rw[Jj];exact q⟩
theorem RF(h:aE K H p (vz l))(q:Q (.bl (decide (w∈l))) H):gu K false (.int (w:Int)) .aA H Q:=⟨p,vz l,rfl,.inl h,rfl,Di l,by rw[Jj];exact q⟩
theorem Px(h:aE K H p (vz l))(q:Q (.bl (!decide (w∈l))) H):gu K true (.int (w:Int)) .aA H Q:=⟨p,vz l,rfl,.inl h,rfl,Di l,by rw[Jj];exact q⟩
def TW(l:.aR):wC:=TZ (l.map λ(w:Nat)=>(w:Int))
theorem zE :Is K H v (TW l) ↔ ∃a,v=.ref a/\aV K H a (vz l):=by
 unfold TW vz;rw[rX,VH];exact Iff.rfl
theorem zB(l:.aR):dC (TW l)=true:=zFV _
def pX(ws:.aF):wC:=.tuple (ws.map TW)
theorem pP:∀ws:List (List Nat),cg (ws.map TW)=true
 | []=>rfl
 | w::ws=>by rw[ve,cg,zB,pP ws];rfl
theorem zCV(ws:.aF):dC (pX ws)=true:=by rw[pX,dC];exact pP ws
theorem GS{i:Nat}{x:V}(h:(vz l)[i]? = some x):∃hi:i<l.length,x=.int ((l[i]:Nat):Int):=by
 have hi:i<l.length:=by
  rcases wE i l.length with z | z
  ·exact z
  ·rw[wN (by rw[hZ];exact z)]at h;cases h
 refine⟨hi,?_⟩;unfold vz at h;rw[wu,wc hi]at h;exact(wI h).symm
def GD(a b:Rat)(xs:.c):wC:=.tuple [N (1-a_ xs),pX (cK a b xs),bG a b (dh a b xs)]
def Bi(h:Rat)(ws:.aF)(xs:.c):wC:=.tuple [N h,pX ws,TN xs]
theorem S_(h:Rat)(ws:.aF)(xs:.c):dC (Bi h ws xs)=true:=by rw[Bi,dC,cg,cg,cg,cg,lH,zCV,nX];rfl
def Yv(a b:Rat)(xs:.c)(k:Nat):wC:=Bi (aF a b xs (k+1)) (cK a b (ag a b xs k)) (ag a b xs (k+1))
def ja(a b:Rat)(xs:.c)(n:Nat):List wC:=(wp n).map (Yv a b xs)
theorem sL{α : Type}(f : α -> wC)(hf:∀x,dC (f x)=true):∀l:List α,cg (l.map f)=true
 | []=>rfl
 | x::l=>by rw[ve,cg,hf,sL f hf l];rfl
theorem ai.snoc{vs:.x}{ds:.br}{d:wC}(h:ai K H vs ds)(k:.bH):ai K H (vs++[v]) (ds++[d]):=h.append (.cons k .nil)
theorem v_{i:Nat}(h:i<l.length):l.take (i+1)=l.take i++[l[i]]:=by
 rw[Qo,wc h];rfl
theorem Y8{ds:.br}{d:wC}{j:Nat}(h:Is K H v (.list ds))(e:ds[j]? = some d)(q:∀x,Is K H x d->Q x H):du K v (.int (j:Int)) H Q:=by
 obtain⟨a,xs,rfl,h,t⟩:=cq.mp h;obtain⟨x,e1,hx⟩:=t.get e;exact jA h (m5 e1) (q x hx)
theorem OL(h:Is K H v (TW l))(q:Q (.int (l.length:Int)) H):kr K [v] H Q:=Gb h (by rw[wl];exact q)
end
variable{l:.aR}{n w:Nat}{ds:.br}
theorem O5:∀ns:List Int,Wl (ns.map PyData.int)=true
 | []=>by simp[Wl]
 | n::ns=>by rw[ve,Wl,O5 ns];simp[vy]
theorem Zj:∀ns:List Int,Wt (ns.map PyData.int)<=1
 | []=>by simp[Wt]
 | n::ns=>by
  have:=Zj ns;rw[ve,Wt];simp[WL]
  lia
theorem zy6(a b:Rat)(xs:.c)(n:Nat):(ja a b xs n).length=n:=by simp[ja]
theorem F5(a b:Rat)(xs:.c)(n:Nat):ja a b xs (n+1)=ja a b xs n++[Yv a b xs n]:=by
 unfold ja;rw[QP,w5];rfl
theorem zrQ(a b:Rat)(xs:.c)(n:Nat):cg (ja a b xs n)=true:=sL _ (λk=>S_ _ _ _) _
theorem zzX{ps:.c}(h:¬ ps.getD w 0<1):aC ps (l++[w])=aC ps l++[w]:=by
 unfold aC;rw[Wq,Ww,decide_eq_false h];rfl
theorem zyH{ps:.c}(h:ps.getD w 0<1):aC ps (l++[w])=aC ps l:=by
 unfold aC;rw[Wq,Ww,decide_eq_true h];exact vS _
theorem zzM{wave:.aR}(h:¬ w∈wave):bV (l++[w]) wave=bV l wave++[w]:=by
 unfold bV;rw[Wq];simp[Ww,h]
theorem zwc{wave:.aR}(h:w∈wave):bV (l++[w]) wave=bV l wave:=by
 unfold bV;rw[Wq];simp[Ww,h]
theorem tT(l:.aR)(w:Nat):vz (l++[w])=vz l++[V.int (w:Int)]:=by unfold vz;rw[w5];rfl
theorem Ii{xs:.c}{j:Nat}(h:j<xs.length):(bN xs).getD j 0=xs.getD j 0+(1-a_ xs):=by
 unfold bN;rw[wb,wu,wc h,wb,wc h];rfl
theorem Ib:∀ds:List wC,(∀d∈ds,wR d d=true)->WT ds ds=true
 | [],_=>by simp[WT]
 | d::ds,h=>by rw[WT,h d .bn,Ib ds λe he=>h e (wt _ he)];rfl
theorem zQ(h:∀d∈ds,wR d d=true):wR .av .av=true:=by rw[wR];exact Ib ds h
theorem zFn(h:∀d∈ds,wR d d=true):wR (.list ds) (.list ds)=true:=by rw[wR];exact Ib ds h
theorem Ys(x:Rat):wR (N x) (N x)=true:=by rw[tJ];exact decide_eq_true rfl
theorem Yc(xs:.c):wR (TN xs) (TN xs)=true:=by rw[HY];exact decide_eq_true rfl
theorem oj{P:wC->Prop}{a b:wC}(ha:P a)(hb:P b):∀d∈[a,b],P d:=λd hd=>by
 simp only[wG,WO,or_false]at hd;rcases hd with rfl | rfl
 ·exact ha
 ·exact hb
def Sh(n:Nat)(d:wC):Prop:=d.canLay0=true/\d.depth<=n
theorem C_{n:Nat} : ∀ds:List wC,(∀d∈ds,Sh n d)->Wl ds=true/\Wt ds<=n
 | [],_=>by simp[Wl,Wt]
 | d::ds,h=>by
  have h1:=h d .bn;have h2:=C_ ds λe he=>h e (wt _ he)
  rw[Wl,Wt,h1.1,h2.1];exact⟨rfl,by have:=h1.2;have:=h2.2;lia⟩
theorem nY(h:∀d∈ds,Sh n d):Sh (n+1) .av:=by
 have:=C_ ds h;unfold Sh;rw[vy,WL];exact⟨this.1,by have:=this.2;lia⟩
theorem F7(h:∀d∈ds,Sh n d):Sh (n+1) (.list ds):=by
 have:=C_ ds h;unfold Sh;rw[vy,WL];exact⟨this.1,by have:=this.2;lia⟩
theorem Sh.mono{m:Nat}{d:wC}(h:Sh m d)(e:m<=n):Sh n d:=⟨h.1,Wb h.2 e⟩
theorem Sh.shaped{d:wC}(h:Sh n d)(e:n<=64):vT d=true:=by
 unfold vT;rw[h.1,Ve];exact decide_eq_true (Wb h.2 e)
theorem oq(i:Int):Sh 1 (.int i):=⟨by simp[vy],by simp[WL]⟩
theorem pQ(x:Rat):Sh 2 (N x):=nY (oj (oq _) (oq _))
theorem Yq(xs:.c):Sh 3 (TN xs):=nY λd hd=>by
 obtain⟨x,_,rfl⟩:=wQ.mp hd;exact pQ x
theorem zDq{K:wa}{H:Hp}{Q:VK}{v w:V}{d:wC}(h:.bH)(k:Is K H w d)(s:Sh n d)(e:n<=64)(r:wR d d=true)(q:Q (.bl false) H):lZ K v w H Q:=sQ h k (s.shaped e) (s.shaped e) (by rw[r];exact q)
section
variable{K:wa}{H H':Hp}{Q:VK}{D:c_}{σ : St}{td ty tv:TE}{a:we}{kvs:List (Key × V)}{k:Int}{v:V}
theorem zEQ{p r:we}{l:.aR}(h:H p=some (.lst (vz l)))(e:H r=some (.lst []))(q:Q (.bl (decide (l≠[]))) H):lZ K .aA (.ref r) H Q:=by
 have i1:Is K H .aA (.list ((l.map λ(w:Nat)=>(w:Int)).map PyData.int)):=cq.mpr ⟨p,vz l,rfl,.of h,by
  have e1:vz l=(l.map λ(w:Nat)=>(w:Int)).map V.int:=by unfold vz;rw[VH];rfl
  rw[e1];exact nz.mpr rfl⟩
 have i2:Is K H (.ref r) (.list []):=cq.mpr ⟨r,[],rfl,.of e,.nil⟩;refine sQ i1 i2 ?_ rfl ?_
 ·unfold vT
  rw[vy,O5,WL,Ve];have:=Zj (l.map λ(w:Nat)=>(w:Int));exact decide_eq_true .a
 ·cases l with
  | nil=>simpa [wR,WT] using q
  | cons x l=>simpa [wR,WT] using q
end
theorem NT:∀{ts:.p}{ys:.x},ys.length=ts.length->(∀(j:Nat)(y:V),ys[j]? = some y->y=V.int (ts.getD j 0))->ys=ts.map V.int
 | [],[],_,_=>rfl
 | [],_::_,h,_=>by simp at h
 | _::_,[],h,_=>by simp at h
 | t::ts,y::ys,h,e=>by
  rw[ve,e 0 y rfl,NT (ts:=ts) (ys:=ys) (by simpa using h) λj z hz=>e (j+1) z hz]
  rfl
theorem lP{n:Nat}(p:Nat->Bool)(i:Nat):(wp (i+1)).filter p=(wp i).filter p++(if p i then [i]else []):=by
 rw[QP,Wq];cases h:p i<;>simp[h]
def Ss(K:wa)(g:TG)(tt:TT)(te:TE)(src:.R)(σ : St)(vs:.x)(H1:Hp)(Q:VK):Prop:=∃a,vs=[.ref a]/\(∃xs,aV K H1 a xs) /\
 ∀D,H1 D=none->lY g tt te (p5 K a) D (eD src σ) (upd H1 D (.lst [])) (λH'=>Q .bx H')
section
variable{K:wa}{ta:TA}{g:TG}{tt:TT}{te:TE}{σ : St}{H:Hp}{Q:VK}{a:we}{xs:.x}{src:.R}
theorem zzN(h:ta σ H λvs H1=>Ss K g tt te src σ vs H1 Q):lR src (FD K ta) g tt te σ H Q:=h
theorem zuv(hx:aV K H a xs)(Pv:we->Nat->List V->St->Hp->Prop)(h0:∀D H',H D=none->ar H H'->H' D=some (.lst [])->Pv D 0 [] (eD src σ) H')(hl:∀D i ys σ' H',Pv D i ys σ' H'->aV K H' a xs)
  (hs:∀D i x ys σ' H1 c H2,xs[i]? = some x->Pv D i ys σ' H1->H1 c=none->ar H1 H2->H2 c=some (.tup [.int (i:Int),x])->jl Pv g tt te D i (.ref c) σ' H2) (hd:∀D ys σ' H',Pv D xs.length ys σ' H'->Q .bx H'):Ss K g tt te src σ [.ref a] H Q:=by
 refine⟨a,rfl,⟨xs,hx⟩,λD hD=>⟨λi m σ' H'=>i+m=xs.length /\ ∃ys,Pv D i ys σ' H',⟨xs.length,by lia,[],h0 D _ hD (ar.upd hD) dk⟩,?_⟩⟩;rintro i m σ' H' ⟨him,ys,inv⟩;have hq:=hl _ _ _ _ _ inv
 by_cases hm:m=0
 ·have e:i=xs.length:=by lia
  subst e;exact .inl ⟨⟨xs,hq,wo _⟩,hd _ _ _ _ inv⟩
 ·have hi:i<xs.length:=by lia
  refine .inr ⟨⟨xs,xs[i],hq,by simp[hi]⟩,λσ2 H2=>∃ys,Pv D (i+1) ys σ2 H2,λσ2 H2 h=>⟨m-1,by lia,by lia,h⟩,?_⟩;rintro v H2 hz;obtain⟨c,x,rfl,hn,hx',rfl⟩:=hz;exact hs D i x ys σ' H' c _ (hx' xs hq) inv hn (ar.upd hn) dk
end
def rZ(K:wa):R2:=λx y H Q=>∃d ds,Is K H x d/\Is K H y .av/\Sh 60 d/\vy .av=true/\Q (.bl (ds.any λe=>wR e d)) H
theorem ND{X:Cx}(hu:X.A.units+64<WC):bL X (vG .In) (rZ X.K):=by
 intro pins s σ H x y v u Q I rx ry h;obtain⟨d,ds,hd,he,sd,se,q⟩:=h;obtain⟨as,h1⟩:=I.reads d x v sd.1 hd rx;obtain⟨bs,h2⟩:=I.reads .av y u se he ry;have sd2:=sd.2;have hm:=xx (Wt ds) d.depth;exact SeqAt.in_tuple_reads h2 h1 (by rw[vy]at se;exact se) sd.1 .a ⟨.bl _,H,I,rfl,q⟩
theorem V_(xs:.c)(x:Rat):((xs.map N).any λe=>wR e (N x))=decide (x∈xs):=by
 induction xs with
 | nil=>rfl
 | cons y xs ih =>
  rw[ve,QC,ih,tJ]
  by_cases h:x=y
  ·subst h;simp
  ·have h':¬ y=x:=λz=>h z.symm
   simp[h,h']
theorem zCX{K:wa}{H:Hp}{Q:VK}{v w:V}{xs:.c}{x:Rat}(h:Is K H v (N x))(k:Is K H w (TN xs))(q:Q (.bl (decide (x∈xs))) H):rZ K v w H Q :=
 ⟨N x,xs.map N,h,k,(pQ x).mono .M,by rw[vy];exact yf xs,by rw[V_];exact q⟩
def lu(xs:.c)(v:Rat):wC:=.tuple [N v,TW (fc xs v)]
theorem Th(xs:.c)(v:Rat):dC (lu xs v)=true:=by rw[lu,dC,cg,cg,cg,lH,zB];rfl
theorem zyr(xs:.c)(l:.c):cg (l.map (lu xs))=true:=sL _ (Th xs) l
theorem zBc(ds:.br):wR (.list ds) (.list [])=ds.isEmpty:=by cases ds<;>simp[wR,WT]
section
variable{K:wa}{H:Hp}{Q:VK}{v w:V}{ds:.br}{n:Nat}{l b:we}{xs zs:.x}
theorem zCf(h:Is K H v (.list ds))(k:Is K H w (.list []))(s:Sh n (.list ds))(e:n<=64)(q:Q (.bl (!ds.isEmpty)) H):lZ K v w H Q :=
 sQ h k (s.shaped e) ((F7 (n:=1) (ds:=[]) .u).shaped .M) (by rw[zBc];exact q)
theorem Gw{d:wC}(h:.bH)(k:Is K H w d)(s:Sh n d)(e:n<=64)(r:wR d d=true)(q:Q (.bl true) H):iE K v w H Q:=mC h k (s.shaped e) (s.shaped e) (by rw[r];exact q)
theorem zAg(a b:Bool):wR (.bool a) (.bool b)=(a == b):=by rw[wR]
theorem zxO(b:Bool):Sh 1 (.bool b):=⟨by simp[vy],by simp[WL]⟩
theorem zF2{a b:Bool}(q:Q (.bl (a == b)) H):iE K (.bl a) (.bl b) H Q:=mC (kX.mpr rfl) (kX.mpr rfl) ((zxO a).shaped .M) ((zxO b).shaped .M) (by rw[zAg];exact q)
theorem zFR{k:Int}(h:H l=some (.lst xs))(h0 : -1000<=k)(h1:k<=1000)(z:xs.length*k.toNat<=1000)(q:∀p H',H p=none->ar H H'->H' p=some (.lst (vj k.toNat xs).flatten)->Q .aA H'):rA .al (.int k) H Q :=
 ⟨l,k,xs,rfl,rfl,h,by lia,by lia,by have:=gW z;lia,λp hp=>q p _ hp (ar.upd hp) dk⟩
theorem ai.Ny{d:wC}(h:.bH):∀n:Nat,ai K H (vj n v) (vj n d)
 | 0=>.nil
 | n+1=>.cons h (ai.Ny h n)
end
theorem nB{K:wa}{H:Hp}{Q:VK}{v:V}{ds:.br}{d:wC}(h:Is K H v (.list (ds++[d])))(q:∀x,Is K H x d->Q x H):du K v (.int (-1)) H Q:=by
 obtain⟨a,xs,rfl,hs,t⟩:=cq.mp h;have hl:=t.length;rw[wL,vX]at hl;obtain⟨x,e1,hx⟩:=t.get (i:=ds.length) (d:=d) (by rw[vC .Y,Vm];rfl);exact jA hs (IQ (by rw[hl];exact e1)) (q x hx)
def El(K:wa):List V->Hp->VK->Prop:=λxs H Q=>∃(p:we)(bs:List Bool),xs=[.ref p]/\aE K H p (bs.map V.bl)/\Q (.bl (bs.any id)) H
theorem zFO:vL "any"=some (.builtin "any"):=by decide +kernel
theorem zvU(bs:List Bool):((wp bs.length).any λi=>(bs[i]?).getD true)=bs.any id:=by
 rw[vA,QG,QG]
 constructor
 ·rintro ⟨i,hi,h⟩
  rw[wH]at hi;rw[wc hi]at h;exact⟨bs[i],We hi,h⟩
 ·rintro ⟨b,hb,h⟩
  obtain⟨i,hi,rfl⟩:=wX hb;exact⟨i,wH.mpr hi,by rw[wc hi];exact h⟩
open PyProof.V PySem.Calls in
theorem zyq{X:Cx}(hc:.bu):bM X (.builtin "any") (El X.K):=by
 intro pins s σ H xs us Q I r h;obtain⟨p,bs,rfl,hq,q⟩:=h;obtain⟨u,rfl,rx⟩:=iD r;cases rx;obtain⟨its,r',pl,hz⟩:=I.list hq;have hi:its=bs.map Value.bool:=YN r';have hl:s.heap.IsList p its.toArray:=pl.isList;have hlt:p<s.heap.objs.size:=by obtain⟨_,e,_⟩:=hl;exact wF e
 refine call_any_walk (qA hl ?_)
 refine⟨s.heap.objs.size,[s.heap.objs.size,p],[s.heap.objs.size],its.toArray.size,_,_,λi=>(bs[i]?).getD true,rfl,u0 (A:=X.A.in1) .aE _ p (wT hlt) its.toArray,
  ⟨⟨_,wS _ rfl,rfl,rfl⟩,hl.push _⟩,λi v s' Q' E' hP hQ=>?_,λh' tk hk=>?_⟩
 ·have hP:its.toArray[i]? = some v:=hP
  rw[hi]at hP;simp only[Xh,wu,VA]at hP;obtain⟨b,e,rfl⟩:=hP;simp only[e,QF]at hQ;exact Wx hQ
 ·have e:((wp its.toArray.size).any λi=>(bs[i]?).getD true)=bs.any id:=by
   rw[wP,hi,wl];exact zvU bs
  rw[e];exact⟨.bl (bs.any id),H,I.kept (t':=tk) (λb x e=>hk b x (λhm=>by rw[vc.mp hm]at e;exact Vp _ (wF e)) (wn _ e)),rfl,q⟩
theorem zCl{K:wa}{H:Hp}{Q:VK}{p:we}{bs:List Bool}(h:aE K H p (bs.map V.bl))(q:Q (.bl (bs.any id)) H):El K [.ref p] H Q:=⟨p,bs,rfl,h,q⟩
def w_(K:wa):List V->Hp->VK->Prop:=λxs H Q=>∃(p:we)(ns:.p),xs=[.ref p]/\aE K H p .aq/\Q (.int ns.sum) H
section
open PyProof.V PySem.Calls PySem.W
variable{prog:wK}{w:wO}{A:vg}{E:.m}{s:wm}
theorem zDI{t:we}{xs:Array (Int × Tok)}{Q:.m}(hh:A.handled=none)(ht:s.heap.IsList t (intItems xs))
  (h:∀h' tk t',(∀b o,s.heap.get? b=some o->h'.get? b=some o)->Q (.int (preSum (numAt xs) xs.size) t') {s with heap:=h',toks:=tk}) :
  wx .s A (call (.builtin "sum") [.ref t]) Q E s:=by
 obtain⟨o,ho,hc,n,hd⟩:=id ht;have hne:t≠s.heap.objs.size:=wT (wF ho);have hsz:(intItems xs).size=xs.size:=by simp[intItems]
 have W:=(u0 (prog:=prog) (w:=w) (A:=A.in1) hh s.heap.objs.size t hne (intItems xs)).toS;rw[hsz]at W;refine call_sum_walkAnyS (qA ht ?_);refine⟨s.heap.objs.size,_,_,_,_,_,_,numAt xs,rfl,W,⟨⟨_,wS _ rfl,rfl,rfl⟩,ht.at λo e=>wn _ e⟩,λb hb=>?_,λi v hP=>intItems_at hP,λs' t' hm=>?_⟩
 ·rcases wG.mp hb with rfl | hb
  ·exact wF (wS _ rfl)
  ·obtain rfl:=vc.mp hb
   exact wF (wn _ ho)
 ·obtain⟨h',g',d',tk',os'⟩:=s'
  have e1:g'=s.gens:=hm.gens;have e2:d'=s.drawn:=hm.drawn;have e3:os'=s.os:=hm.os;subst e1 e2 e3;exact h h' tk' t' λb o e=>hm.heap b o (λhb=>absurd (wF e) ((vc.mp hb) ▸ Vp _)) (wn _ e)
theorem Fd{X:Cx}(hc:.bu):bM X (.builtin "sum") (w_ X.K):=by
 intro pins s σ H xs us Q I r h;obtain⟨p,ns,rfl,hq,q⟩:=h;obtain⟨u,rfl,rx⟩:=iD r;cases rx;obtain⟨its,r',pl,hz⟩:=I.list hq;have hI:=BW r';have hT:s.heap.IsList p its.toArray:=pl.isList;obtain⟨zs,hx⟩:=hI.allInts.items;have hn:numsOf its.toArray.toList=ns:=by rw[show its.toArray.toList=its from rfl,hI.numsOf]
 rw[hx]at hT hn;rw[nums_intItems]at hn;refine zDI .aE hT λh' tk t' hk=>?_
 rw[preSum_eq,WU .u,hn];exact⟨.int ns.sum,H,I.kept (t':=tk) hk,⟨_,rfl⟩,q⟩
end
theorem DB{K:wa}{H:Hp}{Q:VK}{p:we}{ns:.p}(h:aE K H p .aq)(q:Q (.int ns.sum) H):w_ K [.ref p] H Q:=⟨p,ns,rfl,h,q⟩
abbrev UM(h:wJ)(a:we):wJ:=h.push {cls:=.type "tuple_iterator",data:=.fields #[.ref a,.int 0 0]}
abbrev zM2(h:wJ)(a b:we):wJ:=(UM h a).push {cls:=.type "list_iterator",data:=.fields #[.ref b,.int 0 0]}
abbrev YZ(h:wJ)(a b:we):wJ:=(zM2 h a b).push {cls:=.type "tuple",data:=.seq #[.ref h.objs.size,.ref (UM h a).objs.size]}
abbrev zM4(h:wJ)(a b:we):wJ:=(YZ h a b).push {cls:=.type "tuple",data:=.seq #[.none,.none]}
abbrev zM5(h:wJ)(a b:we):wJ:=(zM4 h a b).push {cls:=.type "zip",data:=.fields #[.none,.bool false,.bool false,.ref (zM2 h a b).objs.size,.ref (YZ h a b).objs.size]}
section
variable{prog:wK}{w:wO}{A:vg}{E:.m}{s:wm}
end
theorem rF{K:wa}{H:Hp}{Q:VK}{v:V}{ds:.br}(h:Is K H v (.list ds)\/Is K H v .av)(q:∀l H' ys,H l=none->ar H H'->H' l=some (.lst ys)->ai K H' ys ds->Q .al H'):gc K [v] H Q:=by
 rcases h with h | h
 ·exact EC h q
 ·exact rV h q
def SI(K:wa)(G:wf)(tb:(St->XK)->TS)(th:TS):TS:=λD σ H=>∃W:St->XK,tb W D σ H /\ ∀σ' C o H',W σ' C o H'->qI K C G=some true/\th D σ' H'
section
variable{X:Cx}{x:Str}{G:wf}{b₀ : w6}{body suite:List w6}{np hpos pos:Pos}{tb:(St->XK)->TS}{th:TS}
theorem zCz(hs:X.stack=X.env::X.outer)(hf:X.env.frame=some X.env.locals)(hg:Gl X x)(hG:X.mg x=some G)
  (hb:∀(W:St->XK)(pn:.l)(E':.m),UK (fE X.prog X.w) (X.at pn E') W->fZ (X.at pn E') body (tb W))
  (hh:∀(pn:.l)(ex:we)(oe:Obj),fZ (X.yN pn ex oe) (b₀ :: suite) th) (hdb:.ay=false:=by decide) :
  PS X (.Try body [.ExceptHandler (some (.Name x np)) none (b₀ :: suite) hpos] [] [] pos) (SI X.K G tb th):=by
 intro pins s σ H D I h;obtain⟨W,hB,hH⟩:=h;refine wpAny_Try_except ?_;have I':=I.aaK λe s1=>∃σ1 H1 s0,Inv X pins σ1 H1 s0/\fE X.prog X.w X.stack H1 s0 (W σ1) e s1
 have key:=hb W (X.pn++pins) (λe s1=>∃σ1 H1 s0,Inv X pins σ1 H1 s0/\fE X.prog X.w X.stack H1 s0 (W σ1) e s1) (λpins1 σ1 H1 s0 e s1 I1 q=>⟨σ1,H1,s0,I1.rP,q⟩) [] s σ H D I' hB;refine WP key (λf s1 hq=>?_) λe s1 he=>?_
 ·cases f with
  | next=>obtain⟨σ',H',J,q⟩:=hq;exact qV ⟨σ',H',J.rP,q⟩
  | brk=>obtain⟨σ',H',J,q⟩:=hq;exact⟨σ',H',J.rP,q⟩
  | cont=>obtain⟨σ',H',J,q⟩:=hq;exact⟨σ',H',J.rP,q⟩
  | ret u=>obtain⟨v,σ',H',J,r,q⟩:=hq;exact⟨v,σ',H',J.rP,r,q⟩
 obtain⟨σ1,H1,s0,I1,ex,C,H',B,rfl,os,bare,un,aO,F,ov,q⟩:=he;obtain⟨hm,hS⟩:=hH σ1 C none H' q;have hfs:∀b∈eH X.stack,H1 b=none /\ ∃o,s0.heap.get? b=some o /\ ∀vs,o.data≠.fields vs:=λb hb=>⟨I1.yG b hb,(I1.stack.mem hb).2⟩
 have hfr:=I.ok.frames.trans (congrArg some hs)
 have hex:H' ex=none:=by
  obtain⟨_,_,_,_,_,_,_,_,_,_,_,_,_,be,_⟩:=F;cases z:H' ex with
  | none=>rfl
  | some o =>
   obtain⟨u,e1⟩:=ov.jM ex o z;rw[be]at e1;cases e1
 have st1:=F.st;rw[hs]at F
 have exc:∀{h4:wJ},fR B (X.env::X.outer) ex C .none h4->s1.heap.UpToSlots h4->∃oe,h4.get? ex=some oe/\Pk C oe/\Inv (X.yN (X.pn++pins) ex oe) [] σ1 H' {s1 with heap:=h4}:=λ{h4} F4 sm=>by
  have J:Inv X pins σ1 H' {s1 with heap:=h4}:=I1.Nk (s':={s1 with heap:=h4}) (ch:=[]) os (ov.un un hfs F4.st sm) (ov.aO aO st1 F4.st) bare (λ_ z=>nomatch z);obtain⟨_,_,oe,vs,T,oT,ts,he,hc,hd,h1,h2,hdi,_⟩:=F4;refine⟨oe,he,⟨hc,⟨vs,hd,h2⟩,hdi⟩,J.aaI he hex (λz=>?_) (λz=>?_) λv z=>?_⟩
  ·obtain⟨m,⟨o,es,ep,ho,hdd,_⟩,_⟩:=J.loc
   rw[<- z]at ho;have:(some oe:Option Obj)=some o:=he.symm.trans ho;cases this;rw[hd]at hdd;cases hdd
  ·obtain⟨_,o,ho,nr⟩:=J.fH.mem z
   have:(some oe:Option Obj)=some o:=he.symm.trans ho;cases this;exact nr vs hd
  ·rw[hd]at z;cases z
 refine F.note hfr hf λh2 F2 sm2=>F2.land λh3 F3 sm3=>?_
 obtain⟨oe3,g3,x3,K3⟩:=exc F3 (sm2.trans sm3);refine wpAny_handleBy_cons (codeAny_handlers_test (sN K3 hg hG ?_ hdb)) (by intro z;cases z);have LT:PySem.W.Looks .o h3 (typeOf (.ref ex)) C:=x3.cls ▸ (UE g3).andThen .now;refine(PySem.W.exm_one (h:=h3) K3.eF LT hm).here ?_;refine codeAny_handlers_suite ?_;refine F3.land λh4 F4 sm4=>?_
 obtain⟨oe,g4,x4,K4⟩:=exc F4 ((sm2.trans sm3).trans sm4);refine WP (hh _ ex oe [] _ _ H' _ K4 hS) (λf s6 h6=>?_) λ_ _ z=>z.elim
 cases f with
 | next=>obtain⟨σ',H6,J,q6⟩:=h6;exact⟨_,H6,J.yO I.ok,q6⟩
 | brk=>obtain⟨σ',H6,J,q6⟩:=h6;exact⟨_,H6,J.yO I.ok,q6⟩
 | cont=>obtain⟨σ',H6,J,q6⟩:=h6;exact⟨_,H6,J.yO I.ok,q6⟩
 | ret u=>obtain⟨v,σ',H6,J,r,q6⟩:=h6;exact⟨v,_,H6,J.yO I.ok,r,q6⟩
end
theorem zC7{K:wa}{σ : St}{H:Hp}{D:c_}{G:wf}{tb:(St->XK)->TS}{th:TS}(W:St->XK)(h:tb W D σ H)(k:∀σ' C o H',W σ' C o H'->qI K C G=some true/\th D σ' H'):SI K G tb th D σ H:=⟨W,h,k⟩
theorem kB{K:wa}{H:Hp}{Q:VK}(s t:.ar)(r:Bool)(e:wR (.str (Wg s)) (.str (Wg t))=r)(q:Q (.bl r) H):iE K (.str (Wg s)) (.str (Wg t)) H Q :=
 mC (d:=.str (Wg s)) (e:=.str (Wg t)) (eU.mpr rfl) (eU.mpr rfl) (Be s) (Be t) (by rw[e];exact q)
theorem zFw:vL "set"=some (.type "set"):=by decide +kernel
section
variable{K:wa}{H:Hp}{Q:VK}{p:we}{ns:.p}
end
def LZ(ns:.p):wC:=.list (ns.map .int)
theorem zGB{K:wa}{H:Hp}{l:we}{ns:.p}(h:H l=some (.lst .aq)):Is K H .al (LZ ns):=cq.mpr ⟨l,_,rfl,.of h,nz.mpr rfl⟩
def LW(ws:.aF):wC:=.list (ws.map TW)
abbrev Yu(h:wJ)(a:we):wJ:=h.push {cls:=.type "list_iterator",data:=.fields #[.ref a,.int 0 0]}
abbrev OA(h:wJ)(a b:we):wJ:=(Yu h a).push {cls:=.type "tuple_iterator",data:=.fields #[.ref b,.int 0 0]}
abbrev zN3(h:wJ)(a b:we):wJ:=(OA h a b).push {cls:=.type "tuple",data:=.seq #[.ref h.objs.size,.ref (Yu h a).objs.size]}
abbrev zN4(h:wJ)(a b:we):wJ:=(zN3 h a b).push {cls:=.type "tuple",data:=.seq #[.none,.none]}
abbrev zN5(h:wJ)(a b:we):wJ:=(zN4 h a b).push {cls:=.type "zip",data:=.fields #[.none,.bool false,.bool false,.ref (OA h a b).objs.size,.ref (zN3 h a b).objs.size]}
section
variable{prog:wK}{w:wO}{A:vg}{E:.m}{s:wm}
end
end L2
namespace TB
open PySem
def kU(xs:Array Nat):Prop:=∀i j,i<j->j<xs.size->xs.getD i 0<xs.getD j 0
theorem zBr{xs:Array Nat}{i:Nat}(h:i<xs.size)(d e:Nat):xs.getD i d=xs.getD i e:=by
 simp[u3,h]
theorem FG(xs:Array Nat)(j:Nat)(R:kU xs):∀(fuel lo hi:Nat),hi<=xs.size->lo<=hi->hi-lo<=fuel->(∀k,k<lo->xs.getD k 0<j)->(∀k,hi<=k->k<xs.size->j<=xs.getD k 0) ->
  (Qr xs j fuel lo hi<=xs.size/\(∀k,k<Qr xs j fuel lo hi->xs.getD k 0<j)/\(∀k,Qr xs j fuel lo hi<=k->k<xs.size->j<=xs.getD k 0))
 | 0,lo,hi,h1,h2,h3,a,b=>by
  have:lo=hi:=by lia
  subst this;exact⟨h1,a,b⟩
 | fuel+1,lo,hi,h1,h2,h3,a,b=>by
  unfold Qr
  by_cases c:lo<hi
  ·rw[if_pos c]
   have m1:(lo+hi) / 2<hi:=by lia
   have m2:lo<=(lo+hi) / 2:=by lia
   dsimp only;rw[zBr (wW m1 h1) j 0]
   by_cases d:xs.getD ((lo+hi) / 2) 0<j
   ·rw[if_pos d]
    refine FG xs j R fuel _ hi h1 m1 .a (λk hk=>?_) b;rcases wE k ((lo+hi) / 2)with q | q
    ·exact XO (R k _ q .a) d
    ·have:k=(lo+hi) / 2:=by lia
     rw[this];exact d
   ·rw[if_neg d]
    refine FG xs j R fuel lo _ .a m2 .a a (λk hk hk'=>?_);rcases Vi hk with q | q
    ·rw[<- q];lia
    ·have:=R _ k q hk';lia
  ·rw[if_neg c]
   have:lo=hi:=by lia
   subst this;exact⟨h1,a,b⟩
theorem N3{xs:Array Nat}(R:kU xs)(j:Nat):WW xs j<=xs.size/\(∀k,k<WW xs j->xs.getD k 0<j)/\(∀k,WW xs j<=k->k<xs.size->j<=xs.getD k 0) :=
 FG xs j R xs.size 0 xs.size .Y (WN _) .a (λk h=>absurd h (W0 k)) (λk h h'=>absurd h' .a)
theorem zHl{xs:Array Nat}{i:Nat}(h:i<xs.size):xs[i]? = some .ai:=by simp[u3,h]
theorem ZP{t:WR}(R:kU t.place)(D:t.dummies = #[])(j:Nat) :
  (∃i,i<t.place.size/\t.place.getD i 0=j/\t.slot j=.live i)\/((∀i,i<t.place.size->t.place.getD i 0≠j)/\t.slot j=.empty):=by
 obtain⟨h1,h2,h3⟩:=N3 R j;unfold SetTable.slot;dsimp only;have hd:XW t.dummies j=false:=by rw[D];rfl
 rw[hd];rcases wE (WW t.place j) t.place.size with q | q
 ·rw[zHl q]
  by_cases e:t.place.getD (WW t.place j) 0=j
  ·exact .inl ⟨_,q,e,by simp[e]⟩
  ·refine .inr ⟨λi hi he=>?_,by generalize t.place.getD (WW t.place j) 0=z at e;simp[e]⟩
   rcases wE i (WW t.place j)with a | a
   ·have:=h2 i a;lia
   ·rcases Vi a with b | b
    ·rw[<- b]at he;exact e he
    ·have:=R _ i b hi
     have:=h3 _ .Y q
     lia
 ·have:t.place[WW t.place j]? = none:=Qy q
  rw[this];refine .inr ⟨λi hi he=>?_,by simp⟩;have:=h2 i .a;lia
def g(x:Nat):Nat:=x*5+1
def it(n x:Nat):Nat:=match n with | 0=>x | n+1=>g (it n x)
def s:Nat->Nat | 0=>0 | n+1=>5*s n+1
theorem Oh(n:Nat):5^n=4*s n+1:=by
 induction n with
 | zero=>rfl
 | succ n ih=>rw[VD,ih];show _=4*(5*s n+1)+1;lia
theorem zGW(n x:Nat):it n x=5^n*x+s n:=by
 induction n with
 | zero=>show x=5^0*x+0;simp
 | succ n ih =>
  show g (it n x)=5^(n+1)*x+(5*s n+1)
  rw[ih,VD];unfold g;rw[VS,ud (5^n) 5 x];lia
theorem zF1(m n x:Nat):it (m+n) x=it m (it n x):=by
 induction m with
 | zero=>rw[xD];rfl
 | succ m ih=>rw[Nat.succ_add];show g (it (m+n) x)=g (it m (it n x));rw[ih]
theorem zGt(m n:Nat):s (m+n)=5^m*s n+s m:=by
 induction m with
 | zero=>simp[s]
 | succ m ih =>
  rw[Nat.succ_add]
  show 5*s (m+n)+1=5^(m+1)*s n+(5*s m+1)
  rw[ih,VD,VS,ud (5^m) 5];lia
theorem zG9(k:Nat):∃o,s (2^k)=2^k*(2*o+1):=by
 induction k with
 | zero=>exact⟨0,rfl⟩
 | succ k ih =>
  obtain⟨o,ho⟩:=ih
  have e:s (2^(k+1))=2^(k+1)*((2*o+1)*(2*s (2^k)+1)):=by
   have:2^(k+1)=2^k+2^k:=by rw[VD];lia
   rw[this,zGt,Oh];generalize hs:s (2^k)=S at *
   have h2:(2^k+2^k)*((2*o+1)*(2*S+1))=2*(2^k*(2*o+1))*(2*S+1):=by
    rw[<- Nat.two_mul,<- VS,VS 2]
   rw[h2,<- ho];generalize S*S=z at *;have:(4*S+1)*S=4*(S*S)+S:=by rw[um,VS,uo]
   rw[this]
   have:2*S*(2*S+1)=4*(S*S)+2*S:=by
    rw[Q9,Nat.mul_one,Nat.mul_mul_mul_comm]
   rw[this];lia
  refine⟨o*(2*s (2^k)+1)+s (2^k),?_⟩;rw[e]
  congr 1
  rw[um,uo,VS]
  lia
theorem zG7(M c a:Nat):(4*(M*c)+1)*a+M*c=a+M*(c*(4*a+1)):=by
 rw[um,uo,Q9 c,Nat.mul_one,Q9 M];have:4*(M*c)*a=M*(c*(4*a)):=by rw[xz 4,VS,VS]
 lia
theorem zGY(k:Nat):∀x y:Nat,∃n,n<2^k/\it n x % 2^k=y % 2^k:=by
 induction k with
 | zero=>intro x y;exact⟨0,by decide,by simp[Nat.mod_one]⟩
 | succ k ih =>
  intro x y;obtain⟨n,hn,e⟩:=ih x y;have hp:0<2^k:=Nat.pow_pos .M;have h2:2^(k+1)=2^k*2:=VD ..;obtain⟨o,ho⟩:=zG9 k;generalize hM:2^k=M at *;rw[h2]
  by_cases c:it n x / M % 2=y / M % 2
  ·refine⟨n,by lia,?_⟩
   rw[x6,x6,e,c]
  ·refine⟨M+n,by lia,?_⟩
   rw[zF1,zGW,Oh,ho];generalize it n x=a at *;rw[zG7,x6,x6,Nat.add_mul_mod_self_left,e,Nat.add_mul_div_left _ _ hp]
   have:(2*o+1)*(4*a+1) % 2=1:=by
    rw[ur];have h1:(2*o+1) % 2=1:=by lia
    have h2:(4*a+1) % 2=1:=by lia
    rw[h1,h2]
   congr 2
   lia
open SetTable (Probe leap runEnd bits turns)
variable{i j k mask p:Nat}{t:WR}{hs:.p}{α:Type}
def jr(mask:Nat)(p:Probe):Probe :=
 if p.more > 0 then {p with j:=p.j+1,more:=p.more-1}else
 {p with j:=(leap mask p.i p.perturb).1,more:=runEnd mask (leap mask p.i p.perturb).1-(leap mask p.i p.perturb).1,i:=(leap mask p.i p.perturb).1,perturb:=(leap mask p.i p.perturb).2}
def way(mask:Nat)(p:Probe):Nat->Probe | 0=>p | n+1=>jr mask (way mask p n)
def iW(mask i b:Nat):Probe:={j:=i,more:=runEnd mask i-i,i:=i,perturb:=b,dummy:=none}
def start(mask:Nat)(h:Int):Probe:=iW mask (bits h % (mask+1)) (bits h)
def lp(mask i b:Nat):Nat->Nat × Nat | 0=>(i,b) | n+1=>leap mask (lp mask i b n).1 (lp mask i b n).2
theorem zc(mask:Nat)(p:Probe)(m:Nat):∀n,way mask p (m+n)=way mask (way mask p m) n
 | 0=>rfl
 | n+1=>by show jr mask (way mask p (m+n))=jr mask (way mask (way mask p m) n);rw[zc mask p m n]
theorem YC(mask:Nat)(p:Probe):∀n,(way mask p n).dummy=p.dummy
 | 0=>rfl
 | n+1=>by
  show(jr mask (way mask p n)).dummy=p.dummy
  rw[<- YC mask p n];unfold jr;split<;>rfl
theorem tG(mask i b:Nat):∀n,n<=runEnd mask i-i->way mask (iW mask i b) n = {j:=i+n,more:=runEnd mask i-i-n,i:=i,perturb:=b,dummy:=none}
 | 0,_=>rfl
 | n+1,h=>by
  show jr mask (way mask (iW mask i b) n)=_
  rw[tG mask i b n .a];unfold jr;dsimp only;rw[if_pos .a]
  congr 1
theorem Ft(mask i b:Nat):way mask (iW mask i b) (runEnd mask i-i+1)=iW mask (leap mask i b).1 (leap mask i b).2:=by
 show jr mask (way mask (iW mask i b) (runEnd mask i-i))=_
 rw[tG mask i b _ .Y];unfold jr;dsimp only;rw[if_neg .a]
 rfl
theorem zE6(mask i:Nat):runEnd mask i-i<=9:=by unfold runEnd;split<;>lia
theorem Sg(mask i b:Nat):∀m,∃n,n<=10*m/\way mask (iW mask i b) n=iW mask (lp mask i b m).1 (lp mask i b m).2
 | 0=>⟨0,wo _,rfl⟩
 | m+1=>by
  obtain⟨n,hn,e⟩:=Sg mask i b m;have:=zE6 mask (lp mask i b m).1;refine⟨n+(runEnd mask (lp mask i b m).1-(lp mask i b m).1+1),by lia,?_⟩;rw[zc,e,Ft];rfl
theorem U1(mask i b:Nat):∀n,(lp mask i b n).2=b / 32^n
 | 0=>by simp[lp]
 | n+1=>by
  show(lp mask i b n).2 / 32=_
  rw[U1 mask i b n,VD,Xa]
theorem zEc(mask i b c:Nat)(h:b / 32^c=0):∀n,(lp mask i b (c+1+n)).1=it n (lp mask i b (c+1)).1 % (mask+1)
 | 0=>by
  show(lp mask i b (c+1)).1=(lp mask i b (c+1)).1 % (mask+1)
  show _ % _=_ % _ % _
  rw[Nat.mod_mod]
 | n+1=>by
  show((lp mask i b (c+1+n)).1*5+1+(lp mask i b (c+1+n)).2 / 32) % (mask+1)=g (it n _) % _
  have:(lp mask i b (c+1+n)).2 / 32=0:=by
   rw[U1]
   have:b / 32^(c+1+n)=0:=by
    rw[Vq,xV,<- Xa,h,Nat.zero_div]
   rw[this]
  rw[this,zEc mask i b c h n];unfold g;rw[xB,Nat.add_mod,ur,Nat.mod_mod,<- ur,<- Nat.add_mod]
theorem Tz(h:Int):bits h<2^64:=by unfold bits;lia
theorem Py(hm:mask+1=2^k){b:Nat}(hb:b<2^64)(hj:j<=mask):∃m,m<=mask+14/\(lp mask i b m).1=j:=by
 have h0:b / 32^13=0:=Nat.div_eq_of_lt (wW hb .M);obtain⟨n,hn,e⟩:=zGY k (lp mask i b 14).1 j;refine⟨13+1+n,by lia,?_⟩;rw[zEc mask i b 13 h0,hm,e,xC .a]
theorem zze(hm:mask+1=2^k){b:Nat}(hb:b<2^64)(hj:j<=mask):∃n,n<10*turns mask/\(way mask (iW mask i b) n).j=j:=by
 obtain⟨m,hm',e⟩:=Py hm (i:=i) hb hj;obtain⟨n,hn,e'⟩:=Sg mask i b m;refine⟨n,by unfold turns;lia,?_⟩;rw[e'];exact e
theorem Gr(h:i<=mask):i<=runEnd mask i/\runEnd mask i<=mask:=by unfold runEnd;split<;>lia
theorem Zv{mask:Nat}{p:Probe}(h:p.j+p.more<=mask):∀n,(way mask p n).j+(way mask p n).more<=mask
 | 0=>h
 | n+1=>by
  have ih:=Zv h n
  show(jr mask (way mask p n)).j+(jr mask (way mask p n)).more<=mask
  unfold jr
  split
  ·dsimp only;lia
  ·dsimp only
   have:(leap mask (way mask p n).i (way mask p n).perturb).1<=mask:=by
    unfold leap;dsimp only;exact V0 (qr _ (QN _))
   have:=Gr this
   lia
theorem zAh(mask:Nat)(h:Int)(n:Nat):(way mask (start mask h) n).j<=mask:=by
 have h1:bits h % (mask+1)<=mask:=V0 (qr _ (QN _));have h2:=Gr h1;have:=Zv (mask:=mask) (p:=start mask h) (by unfold start iW;dsimp only;lia) n
 lia
def In(t:WR)(j:Nat):Prop:=∃i,i<t.place.size/\t.place.getD i 0=j
structure Tb(t:WR)(hs:.p):Prop where
 kh:kU t.place
 size:t.place.size=hs.length
 oP:t.dummies = #[]
 two:∃k,3<=k/\t.mask+1=2^k
 le:∀i,i<t.place.size->t.place.getD i 0<=t.mask
 room:t.place.size<=t.mask
 path:∀i,i<t.place.size->∃n,(way t.mask (start t.mask (hs.getD i 0)) n).j=t.place.getD i 0 /\ ∀m,m<n->In t (way t.mask (start t.mask (hs.getD i 0)) m).j
theorem zGf{P:Nat->Prop}{n:Nat}(h:P n):∃m,m<=n/\P m /\ ∀k,k<m->¬ P k:=by
 induction n using u4 with
 | _ n ih =>
  by_cases c:∃k,k<n/\P k
  ·obtain⟨k,hk,hp⟩:=c
   obtain⟨m,h1,h2,h3⟩:=ih k hk hp;exact⟨m,by lia,h2,h3⟩
  ·exact⟨n,wo _,h,λk hk hp=>c ⟨k,hk,hp⟩⟩
theorem Es{xs:Array Nat}(R:kU xs)(hi:i<xs.size)(hj:j<xs.size)(e:xs.getD i 0=xs.getD j 0):i=j:=by
 rcases Va i j with q | q | q
 ·have:=R i j q hj;lia
 ·exact q
 ·have:=R j i q hi;lia
theorem zBS{t:WR}(R:kU t.place):∀j,(∀j',j'<=j->In t j')->∃i,i<t.place.size/\t.place.getD i 0=j/\j<=i
 | 0,h=>by obtain⟨i,hi,e⟩:=h 0 .Y;exact⟨i,hi,e,WN _⟩
 | j+1,h=>by
  obtain⟨i,hi,e,hle⟩:=zBS R j λj' hj'=>h j' .a
  obtain⟨i',hi',e'⟩:=h (j+1) .Y;refine⟨i',hi',e',?_⟩;rcases Va i i' with q | q | q
  ·lia
  ·subst q;lia
  ·have:=R i' i q hi;lia
theorem Tb.gap(b:Tb t hs):∃j,j<=t.mask /\ ¬ In t j:=by
 refine V6 λc=>?_
 obtain⟨i,hi,e,hle⟩:=zBS b.kh t.place.size λj' hj'=>V6 λd=>c ⟨j',Wb hj' b.room,d⟩
 lia
theorem Tb.free(b:Tb t hs)(h:Int):∃n,n<10*turns t.mask /\ ¬ In t (way t.mask (start t.mask h) n).j /\ ∀m,m<n->In t (way t.mask (start t.mask h) m).j:=by
 obtain⟨j,hj,hn⟩:=b.gap;obtain⟨k,_,hk⟩:=b.two;obtain⟨n,hn',e⟩:=zze hk (i:=bits h % (t.mask+1)) (Tz h) hj;obtain⟨m,h1,h2,h3⟩:=zGf (P:=λn=>¬ In t (way t.mask (start t.mask h) n).j) (n:=n) (by show ¬ In t _;unfold start;rw[e];exact hn);exact⟨m,by lia,h2,λk hk=>V6 (h3 k hk)⟩
theorem TF{t:WR}(R:kU t.place)(D:t.dummies = #[])(hashAt:Nat->Int)(h:Int){p:Probe}(dm:p.dummy=none){n0:Nat}(hE:¬ In t (way t.mask p n0).j)(hF:∀m,m<n0->In t (way t.mask p m).j) :
  ∀fuel n,n<=n0->n0-n<fuel ->
   (∃m i,n<=m/\m<n0/\i<t.place.size/\t.place.getD i 0=(way t.mask p m).j/\hashAt i=h/\(∀k,n<=k->k<m->∀i',i'<t.place.size->t.place.getD i' 0=(way t.mask p k).j->hashAt i'≠h) /\
    xq t hashAt h fuel (way t.mask p n)=some (.candidate (way t.mask p m).j i (way t.mask p (m+1)))) \/
   ((∀k,n<=k->k<n0->∀i',i'<t.place.size->t.place.getD i' 0=(way t.mask p k).j->hashAt i'≠h) /\
    xq t hashAt h fuel (way t.mask p n)=some (.empty (way t.mask p n0).j none))
 | 0,n,_,hf=>absurd hf (W0 _)
 | fuel+1,n,hn,hf=>by
  unfold xq;rcases ZP R D (way t.mask p n).j with⟨i,hi,e,es⟩ | ⟨no,es⟩
  ·rw[es]
   dsimp only
   have hlt:n<n0:=by
    rcases wE n n0 with q | q
    ·exact q
    ·have:n=n0:=by lia
     subst this;exact absurd ⟨i,hi,e⟩ hE
   by_cases c:hashAt i=h
   ·rw[if_pos (by simpa using c)]
    exact .inl ⟨n,i,wo _,hlt,hi,e,c,λk h1 h2=>absurd h1 .a,rfl⟩
   ·rw[if_neg (by simpa using c)]
    have here:∀i',i'<t.place.size->t.place.getD i' 0=(way t.mask p n).j->hashAt i'≠h:=λi' hi' e'=>by
     rw[Es R hi' hi (e'.trans e.symm)];exact c
    rcases TF R D hashAt h dm hE hF fuel (n+1) hlt (by lia)with⟨m,i2,a1,a2,a3,a4,a5,a6,a7⟩ | ⟨a1,a2⟩
    ·refine .inl ⟨m,i2,by lia,a2,a3,a4,a5,λk h1 h2 i' hi' e'=>?_,a7⟩
     rcases Vi h1 with q | q
     ·subst q;exact here i' hi' e'
     ·exact a6 k q h2 i' hi' e'
    ·refine .inr ⟨λk h1 h2 i' hi' e'=>?_,a2⟩
     rcases Vi h1 with q | q
     ·subst q;exact here i' hi' e'
     ·exact a1 k q h2 i' hi' e'
  ·rw[es]
   dsimp only
   have:n=n0:=by
    rcases wE n n0 with q | q
    ·obtain⟨i,hi,e⟩:=hF n q
     exact absurd e (no i hi)
    ·lia
   subst this;refine .inr ⟨λk h1 h2=>absurd h1 .a,?_⟩;rw[YC,dm]
def fq{α : Type}(l:.aY)(p:Nat)(x : α):List α:=l.take p++x::l.drop p
theorem AS{l:.aY}(x : α)(hp:p<=l.length)(i:Nat):(fq l p x)[i]? = if i<p then l[i]? else if i=p then some x else l[i-1]?:=by
 unfold fq;have hl:(l.take p).length=p:=by rw[Wi];lia
 by_cases a:i<p
 ·rw[if_pos a,vQ .a,xw a]
 ·rw[if_neg a,vC .a,hl]
  by_cases b:i=p
  ·rw[if_pos b,b,Vm];rfl
  ·rw[if_neg b]
   have:i-p=(i-1-p)+1:=by lia
   rw[this,Ql,xg]
   congr 1;lia
theorem r_{l:.aY}(x : α)(hp:p<=l.length):(fq l p x).length=l.length+1:=by
 unfold fq;rw[wL,Wi,vK,Wd];lia
theorem sy(xs:Array α)(p:Nat)(x : α):(WF xs p x).toList=fq xs.toList p x:=by
 unfold WF fq;simp;exact WU .u
theorem rm{xs:Array Nat}(x:Nat)(hp:p<=xs.size)(i:Nat):(WF xs p x).getD i 0=if i<p then xs.getD i 0 else if i=p then x else xs.getD (i-1) 0:=by
 rw[Wn,<- Vj,sy,AS x (by simpa using hp)]
 split
 ·rw[Wn,<- Vj]
 ·split
  ·rfl
  ·rw[Wn,<- Vj]
theorem ZH{xs:Array Nat}(x:Nat)(hp:p<=xs.size):(WF xs p x).size=xs.size+1:=by
 rw[<- wV,sy,r_ x (by simpa using hp),wV]
theorem zzl{l:.p}(x:Int)(hp:p<=l.length)(i:Nat):(fq l p x).getD i 0=if i<p then l.getD i 0 else if i=p then x else l.getD (i-1) 0:=by
 rw[wb,AS x hp]
 split
 ·rw[wb]
 ·split
  ·rfl
  ·rw[wb]
theorem Tb.put(b:Tb t hs){h:Int}{n:Nat}(hE:¬ In t (way t.mask (start t.mask h) n).j)(hF:∀m,m<n->In t (way t.mask (start t.mask h) m).j)(hr:t.place.size+1<=t.mask) :
  (t.put (way t.mask (start t.mask h) n).j).2<=hs.length/\Tb (t.put (way t.mask (start t.mask h) n).j).1 (fq hs (t.put (way t.mask (start t.mask h) n).j).2 h):=by
 generalize hj:(way t.mask (start t.mask h) n).j=j at *;have hjm:j<=t.mask:=by rw[<- hj];exact zAh t.mask h n
 obtain⟨q1,q2,q3⟩:=N3 b.kh j;have hd:XW t.dummies j=false:=by rw[b.oP];rfl
 have e2:(t.put j).2=WW t.place j:=rfl;have ep:(t.put j).1.place=WF t.place (WW t.place j) j:=rfl;have em:(t.put j).1.mask=t.mask:=rfl
 have edm:(t.put j).1.dummies = #[]:=by
  show(if XW t.dummies j=true then _ else t.dummies)=_
  rw[hd];exact b.oP
 rw[e2];generalize WW t.place j=p at *;have hp:p<=hs.length:=by rw[<- b.size];exact q1
 have inn:∀x,In t x->In (t.put j).1 x:=λx ⟨i,hi,e⟩=>by
  unfold In;rw[ep,ZH j q1];rcases wE i p with a | a
  ·exact⟨i,by lia,by rw[rm j q1,if_pos a];exact e⟩
  ·exact⟨i+1,by lia,by rw[rm j q1,if_neg .a,if_neg .a];exact e⟩
 have ns:(t.put j).1.place.size=t.place.size+1:=by rw[ep,ZH j q1]
 have gt:∀k,p<=k->k<t.place.size->j<t.place.getD k 0:=λk h1 h2=>by
  have:=q3 k h1 h2;have:t.place.getD k 0≠j:=λe=>hE ⟨k,h2,e⟩
  lia
 refine⟨hp,⟨?_,?_,edm,em ▸ b.two,?_,?_,?_⟩⟩
 ·intro i k hik hk
  rw[ns]at hk;rw[ep,rm j q1,rm j q1]
  by_cases a:k<p
  ·rw[if_pos .a,if_pos a];exact b.kh i k hik .a
  ·rw[if_neg a]
   by_cases c:k=p
   ·rw[if_pos c,if_pos .a];exact q2 i .a
   ·rw[if_neg c]
    by_cases d:i<p
    ·rw[if_pos d];exact XO (q2 i d) (gt (k-1) .a .a)
    ·rw[if_neg d]
     by_cases f:i=p
     ·rw[if_pos f];exact gt (k-1) .a .a
     ·rw[if_neg f];exact b.kh (i-1) (k-1) .a .a
 ·rw[ns,r_ h hp,b.size]
 ·intro i hi
  rw[ns]at hi;rw[ep,rm j q1,em]
  split
  ·exact b.le i .a
  ·split
   ·exact hjm
   ·exact b.le (i-1) .a
 ·rw[ns,em];exact hr
 ·intro i hi
  rw[ns]at hi;rw[ep,rm j q1,em,zzl h hp]
  split
  ·obtain⟨m,h1,h2⟩:=b.path i .a
   exact⟨m,h1,λk hk=>inn _ (h2 k hk)⟩
  ·split
   ·exact⟨n,hj,λk hk=>inn _ (hF k hk)⟩
   ·obtain⟨m,h1,h2⟩:=b.path (i-1) .a
    exact⟨m,h1,λk hk=>inn _ (h2 k hk)⟩
structure Ow(mask:Nat)(ow:Array (Option Nat))(hs:.p):Prop where
 size:ow.size=mask+1
 cnt:ow.toList.countP Ut=hs.length
 inj:∀j j' k,ow.getD j none=some k->ow.getD j' none=some k->j=j'
 lt:∀j k,ow.getD j none=some k->k<hs.length
 has:∀k,k<hs.length->∃j,ow.getD j none=some k
 path:∀k j,ow.getD j none=some k->∃n,(way mask (start mask (hs.getD k 0)) n).j=j /\ ∀m,m<n->ow.getD (way mask (start mask (hs.getD k 0)) m).j none≠none
theorem ZM(mask i b:Nat):∀m,lp mask i b (m+1)=lp mask (leap mask i b).1 (leap mask i b).2 m
 | 0=>rfl
 | m+1=>by
  show leap mask (lp mask i b (m+1)).1 (lp mask i b (m+1)).2=leap mask (lp mask (leap mask i b).1 (leap mask i b).2 m).1 _
  rw[ZM mask i b m]
theorem Dz{ow:Array (Option Nat)}(h:j<ow.size)(d e:Option Nat):ow.getD j d=ow.getD j e:=by simp[u3,h]
theorem Tc{mask:Nat}{ow:Array (Option Nat)}(hz:ow.size=mask+1):∀fuel i b,i<=mask->(∃m,m<fuel/\ow.getD (lp mask i b m).1 none=none/\(lp mask i b m).1<=mask) ->
  ∃j n,Qz mask ow fuel i b=some j/\(way mask (iW mask i b) n).j=j/\j<=mask/\ow.getD j none=none /\ ∀m,m<n->ow.getD (way mask (iW mask i b) m).j none≠none
 | 0,i,b,_,⟨m,h,_⟩=>absurd h (W0 _)
 | fuel+1,i,b,hi,⟨m,hm,hn,hle⟩=>by
  unfold Qz;have hr:=Gr hi;cases hf:(wp (runEnd mask i+1-i)).find? λk=>(ow.getD (i+k) (some 0)).isNone with
  | some k =>
   rw[List.find?_range_eq_some]at hf;obtain⟨h1,h2,h3⟩:=hf;have h2:k<runEnd mask i+1-i:=by simpa using h2
   refine⟨i+k,k,rfl,?_,by lia,?_,λm hm=>?_⟩
   ·rw[tG mask i b k .a]
   ·rw[Dz .a none (some 0)];simpa using h1
   ·rw[tG mask i b m .a]
    have:=h3 m hm
    show ow.getD (i+m) none≠none
    rw[Dz .a none (some 0)];intro e;rw[e]at this;exact absurd this .M
  | none =>
   rw[List.find?_range_eq_none]at hf
   have all:∀k,k<=runEnd mask i-i->ow.getD (i+k) none≠none:=λk hk e=>by
    have:=hf k .a;rw[Dz .a (some 0) none,e]at this;exact absurd this .M
   cases m with
   | zero=>exact absurd hn (all 0 (WN _))
   | succ m =>
    rw[ZM]at hn hle;have hi':(leap mask i b).1<=mask:=by unfold leap;dsimp only;exact V0 (qr _ (QN _))
    obtain⟨j,n,e1,e2,e3,e4,e5⟩:=Tc hz fuel (leap mask i b).1 (leap mask i b).2 hi' ⟨m,by lia,hn,hle⟩;refine⟨j,runEnd mask i-i+1+n,e1,by rw[zc,Ft];exact e2,e3,e4,λm' hm'=>?_⟩;rcases wE m' (runEnd mask i-i+1)with q | q
    ·rw[tG mask i b m' .a];exact all m' .a
    ·have:m'=runEnd mask i-i+1+(m'-(runEnd mask i-i+1)):=by lia
     rw[this,zc,Ft];exact e5 _ .a
theorem Ow.gap{ow:Array (Option Nat)}(o:Ow mask ow hs)(h:hs.length<=mask):∃j,j<=mask/\ow.getD j none=none:=by
 refine V6 λc=>?_
 have:ow.toList.countP Ut=ow.toList.length:=List.countP_eq_length.mpr λa ha=>by
  obtain⟨j,hj,e⟩:=wX ha;rw[wV,o.size]at hj;cases a with
  | some _=>rfl
  | none =>
   refine absurd ⟨j,by lia,?_⟩ c;rw[Wn,<- Vj,wc (by rw[wV,o.size];exact hj),e]
   rfl
 have h2:ow.toList.length=mask+1:=by rw[wV,o.size]
 have:=o.cnt
 lia
theorem zAl{ow:Array (Option Nat)}(h:j<ow.size)(v:Option Nat)(x:Nat):(ow.setIfInBounds j v).getD x none=if x=j then v else ow.getD x none:=by
 rw[Wn,Array.getElem?_setIfInBounds]
 by_cases e:j=x
 ·subst e;rw[if_pos rfl,if_pos rfl,if_pos h];rfl
 ·rw[if_neg e,if_neg (λq=>e q.symm),Wn]
theorem Ow.step(hm:mask+1=2^k){ow:Array (Option Nat)}(o:Ow mask ow hs)(hl:hs.length<=mask)(h:Int) :
  ∃j,Qz mask ow (turns mask) (bits h % (mask+1)) (bits h)=some j/\Ow mask (ow.setIfInBounds j (some hs.length)) (hs++[h]):=by
 obtain⟨j0,hj0,e0⟩:=o.gap hl;obtain⟨m,hm',em⟩:=Py hm (i:=bits h % (mask+1)) (Tz h) hj0;obtain⟨j,n,e1,e2,e3,e4,e5⟩:=Tc o.size (turns mask) (bits h % (mask+1)) (bits h) (V0 (qr _ (QN _))) ⟨m,by unfold turns;lia,by rw[em];exact e0,by rw[em];exact hj0⟩;have hjs:j<ow.size:=by rw[o.size];lia
 have G:=zAl hjs (some hs.length);have hlen:(hs++[h]).length=hs.length+1:=by simp
 have old:∀k,k<hs.length->(hs++[h]).getD k 0=hs.getD k 0:=λk hk=>by
  rw[wb,wb,vQ hk]
 refine⟨j,e1,⟨by simpa using o.size,?_,?_,?_,?_,?_⟩⟩
 ·rw[Array.toList_setIfInBounds,List.countP_set (by simpa using hjs),o.cnt,hlen]
  have:ow.toList[j]'(by simpa using hjs)=none:=by
   rw[Wn,W1 hjs]at e4
   simpa using e4
  simp[this]
 ·intro x x' k h1 h2
  rw[G]at h1 h2
  split at h1
  ·split at h2
   ·rename_i a b;rw[a,b]
   ·have:=o.lt _ _ h2;have:=wI h1;lia
  ·split at h2
   ·have:=o.lt _ _ h1;have:=wI h2;lia
   ·exact o.inj _ _ _ h1 h2
 ·intro x k h1
  rw[G]at h1;rw[hlen]
  split at h1
  ·have:=wI h1;lia
  ·have:=o.lt _ _ h1;lia
 ·intro k hk
  rw[hlen]at hk;rcases wE k hs.length with q | q
  ·obtain⟨x,hx⟩:=o.has k q
   refine⟨x,?_⟩;rw[G,if_neg]
   ·exact hx
   ·intro e;rw[e,e4]at hx;cases hx
  ·refine⟨j,?_⟩
   rw[G,if_pos rfl];congr 1;lia
 ·intro k x h1
  rw[G]at h1
  have keep:∀y,ow.getD y none≠none->(ow.setIfInBounds j (some hs.length)).getD y none≠none:=λy hy=>by
   rw[G];split
   ·exact λz=>nomatch z
   ·exact hy
  split at h1
  ·rename_i ex
   have ek:k=hs.length:=(wI h1).symm;have:(hs++[h]).getD k 0=h:=by rw[ek,wb,vC .Y,Vm];rfl
   rw[this,ex];exact⟨n,e2,λm hm=>keep _ (e5 m hm)⟩
  ·rw[old k (o.lt _ _ h1)]
   obtain⟨n',a1,a2⟩:=o.path k x h1;exact⟨n',a1,λm hm=>keep _ (a2 m hm)⟩
theorem Ow.nil(mask:Nat):Ow mask (u5 (mask+1) none) []:=by
 have G:∀j,(u5 (mask+1) (none:Option Nat)).getD j none=none:=λj=>by
  rw[Wn,Array.getElem?_replicate];split<;>rfl
 refine⟨by simp,?_,λj j' k h=>?_,λj k h=>?_,λk h=>absurd h (W0 _),λk j h=>?_⟩
 ·rw[Array.toList_replicate,List.countP_replicate];rfl
 all_goals(rw[G]at h;cases h)
def live(mask:Nat)(ow:Array (Option Nat)):List (Nat × Nat):=(wp (mask+1)).filterMap λj=>(ow.getD j none).map (j,·)
section
variable{prog:wK}{w:wO}{K:Type}[DecidableEq K]{knd:KeyKind prog w K}{U:we->List K->Prop}{A:vg}{E:.m}{s:wm}
variable{a x:we}{t:WR}{h:wJ}{o:Obj}{ep:Nat}
def Ent(knd:KeyKind prog w K)(U:we->List K->Prop)(h:wJ)(e:Int × wf)(k:List K):Prop:=∃a,e.2=.ref a/\vO knd h k a/\e.1=vn knd k/\U a k
theorem zqq(n:Nat){v:wf}(h:carriedByValue v=true):qB n v=pure false:=by
 cases v with
 | ref a=>simp[carriedByValue]at h
 | _=>first | rfl | simp[qB] | (unfold qB;rfl)
theorem T_{k:List K}(hx:vO knd s.heap k x){Q:Bool->wm->Prop}(q:Q false s):wx .s A (qB 8 (.ref x)) Q E s:=by
 have hT:=hx.typeIs;obtain⟨o,items,n,ho,hc,hd,hi⟩:=hx;unfold qB;refine wg (wpAny_typeOf hT ?_);dsimp only;rw[if_pos .M];refine wg (wq ?_);simp only[WG,vf,if_false];refine wg (Wr ho hd ?_);refine wg ?_
 show wx _ _ (forIn items _ _) _ _ s
 rw[<- VI];refine qj _ (λdM r s'=>r.1=none/\s'=s /\ ∀v∈dM,carriedByValue v=true) _ ?_ ?_ _ _ ⟨rfl,rfl,hi.byValue⟩
 ·rintro v dM r s' ⟨hr,rfl,hall⟩
  rw[zqq _ (hall v wz)];refine wg (wq ?_);simp only[vf,if_false];exact wq ⟨rfl,rfl,λu hu'=>hall u (wt _ hu')⟩
 ·rintro ⟨r1,r2⟩ s' ⟨hr,rfl,_⟩
  simp only at hr;subst hr;exact wq q
theorem zyy{k:List K}(hx:vO knd s.heap k x):∀(l:.J),(∀v∈l,∃y k',v=.ref y/\vO knd s.heap k' y)->∀{Q:Bool->wm->Prop},Q false s->wx .s A (searchCouldBeSeen (.ref x) l) Q E s:=by
 intro l hl Q q;unfold searchCouldBeSeen;refine wg ?_;refine qj _ (λdM r s'=>r.1=none/\s'=s /\ ∀v∈dM,∃y k',v=.ref y/\vO knd s.heap k' y) _ ?_ ?_ _ _ ⟨rfl,rfl,hl⟩
 ·rintro v dM r s' ⟨hr,rfl,hall⟩
  obtain⟨y,k',rfl,hy⟩:=hall v wz;have rst:∀v∈dM,∃y k',v=.ref y/\vO knd s'.heap k' y:=λu hu'=>hall u (wt _ hu')
  dsimp only
  split
  ·exact wq ⟨rfl,rfl,rst⟩
  ·refine wg (wpAny_eqIsQuiet_tuple hx ?_)
   simp only[WG,vf,if_false];refine wg (wpAny_eqIsQuiet_tuple hy ?_);simp only[WG,vf,if_false];refine wg (T_ hx ?_);simp only[WG,vf,if_false];refine wg (T_ hy ?_);simp only[WG,vf,if_false];exact wq ⟨rfl,rfl,rst⟩
 ·rintro ⟨r1,r2⟩ s' ⟨hr,rfl,_⟩
  simp only at hr;subst hr;exact wq q
theorem zCo(R:kU t.place)(D:t.dummies = #[]){i j:Nat}(hi:i<t.place.size)(e:t.place.getD i 0=j):t.slot j=.live i:=by
 rcases ZP R D j with⟨i',h1,h2,h3⟩ | ⟨no,_⟩
 ·rw[h3,Es R h1 hi (h2.trans e.symm)]
 ·exact absurd e (no i hi)
theorem Ent.inj{e:Int × wf}{k k':List K}(a:Ent knd U h e k)(b:Ent knd U h e k'):k=k':=by
 obtain⟨x,h1,h2,_⟩:=a;obtain⟨y,h3,h4,_⟩:=b;rw[h1]at h3;cases h3;exact h2.inj h4
theorem Tb.fits{hs:.p}(b:Tb t hs):t.fits hs.length=true:=by
 unfold SetTable.fits Uu;rw[b.oP,b.size];have:=b.room;rw[b.size]at this
 simpa using this
theorem Tb.aas{hs:.p}(b:Tb t hs):t.gaveWay=false:=by
 obtain⟨k',h3,e⟩:=b.two;unfold SetTable.gaveWay;have:2^k'=2*2^(k'-1):=by rw[<- Nat.pow_succ'];congr 1;lia
 have:t.mask % 2=1:=by lia
 rw[this];rfl
theorem zrK{a xa:we}{k:List K}{o:Obj}{es:Array (Int × wf)}{ep:Nat}{t:WR}(hu:A.units<WC)(hx:vO knd s.heap k xa)
  (ho:s.heap.get? a=some o) (hd:o.data=.set es ep t) (b:Tb t (es.toList.map (·.1))) (he:∀i (h:i<es.size),∃k',Ent knd U s.heap es[i] k') (n0:Nat) (hE:¬ In t (way t.mask .aT n0).j) (hF:∀m,m<n0->In t (way t.mask .aT m).j) (hf0:n0<10*Xi t.mask)
  {Q:SetFound->wm->Prop} (yes:(∃i,∃h:i<es.size,Ent knd U s.heap es[i] k)->Q (.there none) s) (no:(∀i (h:i<es.size),¬ Ent knd U s.heap es[i] k)->Q (.free (way t.mask .aT n0).j false) s) :
  ∀(fuel n:Nat)(st:Option SetTable.Probe),n<=n0->n0-n<fuel->st.getD (t.probeStart (vn knd k))=way t.mask .aT n ->
   (∀m,m<n->∀i (h:i<es.size),t.place.getD i 0=(way t.mask .aT m).j->¬ Ent knd U s.heap es[i] k) ->
   wx .s A (setSearchFrom a (.ref xa) (vn knd k) true fuel st) Q E s
 | 0,n,st,_,hlt,_,_=>absurd hlt (W0 _)
 | fuel+1,n,st,hn,hlt,hst,hno=>by
  have hsz:t.place.size=es.size:=by rw[b.size,wl,wV]
  have hfit:t.fits es.size=true:=by have:=b.fits;rwa[wl,wV]at this
  unfold setSearchFrom;refine wg (qC ho hd hfit ?_);dsimp only;rw[b.aas,hst];simp only[vf,if_false];have hp:=TF b.kh b.oP (λi=>(es[i]?.map (·.1)).getD 0) (vn knd k) (p:=start t.mask (vn knd k)) rfl hE hF (10*Xi t.mask) n hn .a;rcases hp with⟨m,i,m1,m2,i1,i2,i3,i4,e⟩ | ⟨a1,e⟩
  ·generalize hP:t.probe _ (vn knd k) (way t.mask .aT n)=P
   have eP:=hP.symm.trans e;rw[eP];clear eP hP P e;dsimp only;have ies:i<es.size:=by rw[<- hsz];exact i1
   obtain⟨k',a',e1,e2,e3,e4⟩:=he i ies;have eg:es[i]? = some es[i]:=W1 ies;have hent:Ent knd U s.heap es[i] k':=⟨a',e1,e2,e3,e4⟩
   have next:k'≠k->wx .s A (setSearchFrom a (.ref xa) (vn knd k) true fuel (some (way t.mask .aT (m+1)))) Q E s:=λc=>by
    refine zrK hu hx ho hd b he n0 hE hF hf0 yes no fuel (m+1) _ m2 .a rfl λm' hm' i' hi' ep' hent'=>?_
    rcases wE m' n with q | q
    ·exact hno m' q i' hi' ep' hent'
    ·rcases Vi (V0 hm')with q' | q'
     ·subst q'
      have:i'=i:=Es b.kh (by rw[hsz];exact hi') i1 (ep'.trans i2.symm);subst this;exact c (hent.inj hent')
     ·refine i4 m' q q' i' (by rw[hsz];exact hi') ep' ?_
      show(es[i']?.map (·.1)).getD 0=_
      rw[W1 hi'];obtain⟨_,_,_,e5,_⟩:=hent';exact e5
   have hsl:t.slot (way t.mask .aT m).j=.live i:=zCo b.kh b.oP i1 i2;have hsm:t.sameMemory t.moves t.mask=some true:=by unfold SetTable.sameMemory;rw[if_pos .u]
   have unseen:∀v∈(es.filter λx=>x.1 == vn knd k).toList.map (λx=>x.2),∃y k',v=.ref y/\vO knd s.heap k' y:=λv hv=>by
    obtain⟨e0,h0,rfl⟩:=wQ.mp hv;rw[Array.toList_filter,wZ]at h0;obtain⟨j,hj,ej⟩:=wX h0.1;obtain⟨k2,y2,f1,f2,_⟩:=he j (by simpa using hj);refine⟨y2,k2,?_,f2⟩;rw[<- ej,<- f1,Array.getElem_toList]
   have eg':es[i]? = some (es[i].1,.ref a'):=by rw[eg,<- e1]
   clear eg;generalize es[i].1=h' at *;have tail:k'=k->Q (.there none) s:=λc=>yes ⟨i,ies,c ▸ hent⟩
   cases hl:t.led
   ·simp only[Q0,if_true]
    refine wg (zyy hx _ unseen ?_);simp only[vf,if_false];rw[eg'];dsimp only;refine wg (Wv (wpAny_eqBool_tuple hu e2 hx ?_));refine wg (qC ho hd hfit ?_);dsimp only
    by_cases c:k'=k
    ·rw[decide_eq_true c]
     exact wq (tail c)
    ·rw[decide_eq_false c,hsm]
     simp only[Q5,vf,if_false,if_true];rw[hsl];dsimp only;rw[eg'];dsimp only;refine wg (wpAny_isSame_ref_self ?_);refine wg (wq ?_);simp only[if_true];exact next c
   ·simp only[WG,vf,if_false]
    rw[eg'];dsimp only;refine wg (Wv (wpAny_eqBool_tuple hu e2 hx ?_));refine wg (qC ho hd hfit ?_);dsimp only
    by_cases c:k'=k
    ·rw[decide_eq_true c]
     exact wq (tail c)
    ·rw[decide_eq_false c,hsm]
     simp only[Q5,vf,if_false,if_true];rw[hsl];dsimp only;rw[eg'];dsimp only;refine wg (wpAny_isSame_ref_self ?_);refine wg (wq ?_);simp only[if_true];exact next c
  ·generalize hP:t.probe _ (vn knd k) (way t.mask .aT n)=P
   have eP:=hP.symm.trans e;rw[eP];dsimp only;refine wq (no λi hi hent=>?_);have hi':i<t.place.size:=by rw[hsz];exact hi
   obtain⟨m,p1,p2⟩:=b.path i hi'
   have hh:(es.toList.map (·.1)).getD i 0=vn knd k:=by
    obtain⟨_,_,_,e3,_⟩:=hent;rw[wb,wu,Vj,W1 hi];exact e3
   rw[hh]at p1 p2;rcases wE m n0 with q | q
   ·rcases wE m n with q' | q'
    ·exact hno m q' i hi p1.symm hent
    ·refine a1 m q' q i hi' p1.symm ?_
     show(es[i]?.map (·.1)).getD 0=_
     rw[W1 hi];obtain⟨_,_,_,e3,_⟩:=hent;exact e3
   ·rcases Vi q with q' | q'
    ·subst q';exact hE ⟨i,hi',p1.symm⟩
    ·exact hE (p2 n0 q')
theorem zyG{α : Type}(l:.aY)(p:Nat)(x : α):(fq l p x).Perm (x::l):=by
 unfold fq;refine List.perm_middle.trans (List.Perm.cons x ?_);rw[Xe]
theorem Cn{g:wJ}{k:List K}(x:vO knd h k a)(e:∀o,h.get? a=some o->g.get? a=some o):vO knd g k a:=by
 obtain⟨o,its,n,h1,r⟩:=x;exact⟨o,its,n,e o h1,r⟩
theorem YW{g:wJ}{k:List K}{d:we}{es:Array (Int × wf)}(x:vO knd h k a)(ho:h.get? d=some o)(hd:o.data=.set es ep t)(hs:vB d h g):vO knd g k a:=by
 refine Cn x λu eu=>(hs.2 a λad=>?_).trans eu
 obtain⟨u',_,_,e1,_,e2,_⟩:=x;rw[ad,ho]at e1;cases e1;rw[hd]at e2;cases e2
def lJ(knd:KeyKind prog w K)(U:we->List K->Prop)(h:wJ)(es:List (Int × wf))(ks:List (List K)):Prop:=es.length=ks.length /\ ∀(i:Nat)(e:Int × wf)(k:List K),es[i]? = some e->ks[i]? = some k->Ent knd U h e k
def TS(knd:KeyKind prog w K)(U:we->List K->Prop)(h:wJ)(a:we)(led:Bool)(ks:List (List K)):Prop :=
 ∃o es ep t,h.get? a=some o/\o.ExactSet/\o.data=.set es ep t/\Tb t (es.toList.map (·.1))/\es.size*5<t.mask*3/\t.mask=7/\t.led=led/\t.plain=true/\lJ knd U h es.toList ks/\ks.Nodup
theorem zyX(hv:∀k v,knd.is k v=true->∃i t,v=.int i t){k:List K}(hx:vO knd s.heap k x){Q:Bool->wm->Prop}(q:Q true s):wx .s A (hashByValue 8 (.ref x)) Q E s:=by
 have hT:=hx.typeIs;obtain⟨o,items,n,ho,hc,hd,hi⟩:=hx
 have hints:∀{ks:List K}{vs:.J},ItemsAre knd ks vs->∀v∈vs,∃i t,v=.int i t:=λh=>by
  induction h with
  | nil=>intro v hv;simp at hv
  | cons h1 _ ih =>
   intro v hm;rcases wG.mp hm with rfl | hm
   ·exact hv _ _ h1
   ·exact ih v hm
 unfold hashByValue;refine wg (qX hT qz.lookup ?_);dsimp only;refine wg (Wr ho hd ?_);refine wg ?_
 show wx _ _ (forIn items _ _) _ _ s
 rw[<- VI];refine qj _ (λdM r s'=>r.1=none/\s'=s /\ ∀v∈dM,∃i t,v=.int i t) _ ?_ ?_ _ _ ⟨rfl,rfl,hints hi⟩
 ·rintro v dM r s' ⟨hr,rfl,hall⟩
  obtain⟨i,t,rfl⟩:=hall v wz
  show wx _ _ (pure true >>= _) _ _ _
  refine wg (wq ?_);simp only[WG,vf,if_false];exact wq ⟨rfl,rfl,λu hu'=>hall u (wt _ hu')⟩
 ·rintro ⟨r1,r2⟩ s' ⟨hr,rfl,_⟩
  simp only at hr;subst hr;exact wq q
theorem zAV{α β : Type}(f : α -> β)(l:.aY)(p:Nat)(x : α):(fq l p x).map f=fq (l.map f) p (f x):=by
 unfold fq;rw[w5,ve,Uq,Xy]
theorem lJ.keeps{h':wJ}{es:List (Int × wf)}{ks:List (List K)}{d:we}{es0:Array (Int × wf)}(x:lJ knd U h es ks)(ho:h.get? d=some o)(hd:o.data=.set es0 ep t)(hs:vB d h h'):lJ knd U h' es ks :=
 ⟨x.1,λi e k h1 h2=>by obtain⟨a,e1,e2,e3⟩:=x.2 i e k h1 h2;exact⟨a,e1,YW e2 ho hd hs,e3⟩⟩
theorem lJ.ins{es:List (Int × wf)}{ks:List (List K)}(x:lJ knd U h es ks){p:Nat}(hp:p<=ks.length){e:Int × wf}{k:List K}(c:Ent knd U h e k):lJ knd U h (fq es p e) (fq ks p k):=by
 have hp':p<=es.length:=by rw[x.1];exact hp
 refine⟨by rw[r_ e hp',r_ k hp,x.1],λi e' k' h1 h2=>?_⟩;rw[AS e hp']at h1;rw[AS k hp]at h2
 split at h1
 ·rename_i a;rw[if_pos a]at h2;exact x.2 i e' k' h1 h2
 ·rename_i a;rw[if_neg a]at h2
  split at h1
  ·rename_i b;rw[if_pos b]at h2
   cases h1;cases h2;exact c
  ·rename_i b;rw[if_neg b]at h2;exact x.2 (i-1) e' k' h1 h2
theorem zC0{es:Array (Int × wf)}(ho:h.get? a=some o)(hd:o.data=.set es ep t)(es':Array (Int × wf))(t':WR) :
  (h.update a (u6 es' t')).get? a=some {o with data:=.set es' (ep+1) t'}:=by
 have:=VL (u6 es' t') ho (by rw[putSet_of es' t' hd];rfl);rw[putSet_of es' t' hd]at this;exact this
theorem zF7(hv:∀k v,knd.is k v=true->∃i t,v=.int i t){xa:we}{k:List K}{led:Bool}{ks:List (List K)}(hu:A.units<WC)(hS:TS knd U s.heap a led ks)(hx:vO knd s.heap k xa)(hU:U xa k)(hz:ks.length+1<=4)
  {Q:Bool->wm->Prop} (q:∀h' ks',vB a s.heap h'->TS knd U h' a led ks'->(k∈ks->ks'=ks)->(k ∉ ks->ks'.Perm (k::ks))->∀b,Q b {s with heap:=h'}) :
  wx .s A (setAddHashed a (.ref xa) (vn knd k)) Q E s:=by
 obtain⟨o,es,ep,t,ho,hex,hd,b,hfew,hmask,hled,hpl,⟨hkl,hke⟩,hnd⟩:=hS;rw[wV]at hkl;have hfit:t.fits es.size=true:=by have:=b.fits;rwa[wl,wV]at this
 have hsz:t.place.size=es.size:=by rw[b.size,wl,wV]
 have hent:∀i (h:i<es.size),Ent knd U s.heap es[i] (ks[i]'(by lia)):=λi h=>hke i _ _ (by rw[Vj,W1 h]) (wc _)
 unfold setAddHashed setAddHashedIn;refine Wv (wg (qC ho hd hfit ?_));dsimp only;rw[show byScan (.ref xa) es=false from rfl];simp only[vf,if_false];obtain⟨n0,hf0,hE,hF⟩:=b.free (vn knd k);have hmm:t.mask<=8000:=by lia
 refine wg (zrK hu hx ho hd b (λi h=>⟨_,hent i h⟩) n0 hE hF hf0 (λhy=>?yes) (λhn=>?no) 100000 0 none (WN _) (by unfold Xi at hf0;lia) rfl (λm hm=>absurd hm (W0 _)))
 case yes =>
  dsimp only;obtain⟨i,hi,he⟩:=hy;have hk:k∈ks:=by rw[he.inj (hent i hi)];exact We _
  exact wq (q s.heap ks (ue a s.heap) ⟨o,es,ep,t,ho,hex,hd,b,hfew,hmask,hled,hpl,⟨by rw[wV];exact hkl,hke⟩,hnd⟩ (λ_=>rfl) (λh=>absurd hk h) _)
 case no =>
  dsimp only
  have hk:k ∉ ks:=λhm=>by
   obtain⟨i,hi,e⟩:=wX hm;exact hn i .a (e ▸ hent i .a)
  refine wg (qC ho hd hfit ?_);dsimp only;obtain⟨k8,k3,kk⟩:=b.two
  have m7:7<=t.mask:=by
   have:2^3<=2^k8:=Xn .M k3
   lia
  obtain⟨hp,tb⟩:=b.put hE hF (by rw[hsz];lia);rw[wl,wV,hkl]at hp;have q1:(t.put (way t.mask .aT n0).j).1.plain=t.plain:=rfl;have q2:(t.put (way t.mask .aT n0).j).1.led=t.led:=rfl;have q3:(t.put (way t.mask .aT n0).j).1.mask=t.mask:=rfl;generalize (t.put (way t.mask .aT n0).j).2=p at *;generalize (t.put (way t.mask .aT n0).j).1=t1 at *;rw[if_pos (q1.trans hpl)];refine wg (zyX hv hx ?_);simp only[if_true];have en:Ent knd U s.heap (vn knd k,.ref xa) k:=⟨xa,rfl,hx,rfl,hU⟩
  have hkk:lJ knd U s.heap (WF es p (vn knd k,.ref xa)).toList (fq ks p k):=by
   rw[sy];exact lJ.ins ⟨by rw[wV];exact hkl,hke⟩ hp en
  have tb':Tb t1 ((WF es p (vn knd k,.ref xa)).toList.map (·.1)):=by
   rw[sy,zAV];exact tb
  have z1:(WF es p (vn knd k,.ref xa)).size=es.size+1:=by
   rw[<- wV,sy,r_ _ (by rw[wV,hkl];exact hp),wV]
  have pm:(fq ks p k).Perm (k::ks):=zyG ks p k;have nd:(fq ks p k).Nodup:=pm.nodup_iff.mpr (Vb.mpr ⟨hk,hnd⟩);refine wg (wpAny_storeSet_of ho hd ?_ (by rw[z1,sizeLine_eq];lia));have hsb:=QY s.heap a (u6 (WF es p (vn knd k,.ref xa)) t1);have ho1:=zC0 ho hd (WF es p (vn knd k,.ref xa)) t1
  have pz:t1.fill=es.size+1:=by
   unfold Uu;rw[tb'.oP,tb'.size,wl,wV,z1];rfl
  split
  ·rename_i c
   unfold uK at c;rw[pz]at c;have:t1.mask*3<=(es.size+1)*5:=by simpa using c
   have:t1.mask=7:=q3.trans hmask
   lia
  ·rename_i c
   have c:¬ t1.tooFull=true:=by simpa using c
   unfold uK at c;rw[pz]at c;refine wq (q _ (fq ks p k) hsb ⟨_,_,_,t1,ho1,hex,rfl,tb',?_,?_,q2.trans hled,q1.trans hpl,hkk.keeps ho hd hsb,nd⟩ (λh=>absurd h hk) (λ_=>pm) _)
   ·rw[z1]
    have:¬ t1.mask*3<=(es.size+1)*5:=by simpa using c
    lia
   ·exact q3.trans hmask
end
section
variable{prog:wK}{w:wO}{K:Type}[DecidableEq K]{knd:KeyKind prog w K}{U:we->List K->Prop}
theorem TS.same{h g:wJ}{S:we}{led:Bool}{ks:List (List K)}(x:TS knd U h S led ks)(e:∀o,h.get? S=some o->g.get? S=some o)(f:∀k a,vO knd h k a->vO knd g k a):TS knd U g S led ks:=by
 obtain⟨o,es,ep,t,c1,c2,c3,c4,c5,c6,c7,c8,⟨d1,d2⟩,c9⟩:=x;refine⟨o,es,ep,t,e o c1,c2,c3,c4,c5,c6,c7,c8,⟨d1,λi y k y1 y2=>?_⟩,c9⟩;obtain⟨a,z1,z2,z3⟩:=d2 i y k y1 y2;exact⟨a,z1,f k a z2,z3⟩
theorem TS.new{h:wJ}{S:we}{led:Bool}(e:h.get? S=some {cls:=.type "set",dict:=none,data:=.set #[] 0 (.fresh 0 0 led)}):TS knd U h S led [] :=
 ⟨_,#[],0,_,e,⟨rfl,rfl,rfl⟩,rfl,⟨λi j _ hj=>absurd hj (W0 _),rfl,rfl,⟨3,wo _,rfl⟩,λi hi=>absurd hi (W0 _),WN _,λi hi=>absurd hi (W0 _)⟩,(by show 0*5<7*3;decide),rfl,rfl,rfl,⟨rfl,λi y k y1=>by simp at y1⟩,List.nodup_nil⟩
variable{A:vg}{R:Result->wm->Prop}{I:we}{fp wr:.bp}{G:Array GenState->Array GenState->Prop}{n:Nat}{P:Nat->wf->Prop}{St:Nat->wm->Prop}
theorem zGT(hv:∀k v,knd.is k v=true->∃i t,v=.int i t)(W:WalksS prog w A.in1 I fp wr G n P St){S:we}(hSf:S ∉ fp)(hu:A.units+1<WC){led:Bool}{key:Nat->List K}{ad:Nat->we}
  (hval:∀i v,P i v->v=.ref (ad i)) (hI:∀i s a k,St i s->vO knd s.heap k a->a ∉ wr) (hn:n<=4) (hU:∀j,j<n->U (ad j) (key j)) :
  ∀(c i:Nat)(s:wm)(ks:List (List K)),n-i=c->i<=n->St i s->(∀j,j<n->vO knd s.heap (key j) (ad j))->TS knd U s.heap S led ks->(∀x,x∈ks ↔ ∃j,j<i/\key j=x)->ks.length<=i ->
   (∀s' ks',Moved (S::wr) G s s'->(∀k a,vO knd s.heap k a->vO knd s'.heap k a)->TS knd U s'.heap S led ks'->(∀x,x∈ks' ↔ ∃j,j<n/\key j=x)->R (.ok (.ret .none)) s') ->
   codeAny .s A (.builtin "set.update.loop" ⟨[.ref S,.ref I],[]⟩) R s:=by
 have nw:S ∉ wr:=λx=>hSf (W.sub _ x)
 intro c
 induction c with
 | zero =>
  intro i s ks ec ei st ht hs hx hl r;obtain rfl:i=n:=by lia
  refine Vn Qd ?_;rw[W7 VJ _];refine wg (m:=V2 (.ref I)) (W.done s _ _ st λs' mv=>?_);have f:∀k a,vO knd s.heap k a->vO knd s'.heap k a:=λk a x=>Cn x λo eo=>mv.heap a o (hI i s a k st x) eo
  exact wq (r s' ks (mv.mono λ_ q=>.tail _ q) f (hs.same (λo eo=>mv.heap S o nw eo) f) hx)
 | succ c ih =>
  intro i s ks ec ei st ht hs hx hl r;have lt:i<n:=by lia
  refine Vn Qd ?_;rw[W7 VJ _];refine wg (m:=V2 (.ref I)) (W.item i s _ _ lt st λv s' pv st' mv=>?_);obtain rfl:=hval i v pv;have f:∀k a,vO knd s.heap k a->vO knd s'.heap k a:=λk a x=>Cn x λo eo=>mv.heap a o (hI i s a k st x) eo
  have hs':=hs.same (λo eo=>mv.heap S o nw eo) f;refine wg (m:=holding [Value.ref (ad i)] (setAdd S (.ref (ad i)))) (Wv ?_);unfold setAdd;refine Wv (wg (wpAny_pyHash_tuple (by exact hu) (f _ _ (ht i lt)) ?_));refine zF7 hv (s:={s' with toks:=s'.toks+((key i).length+1)}) (by exact hu) hs' (f _ _ (ht i lt)) (hU i lt) .a λh2 ks2 sb ts2 y1 y2 b=>?_
  have so:=hs';obtain⟨o9,_,_,_,g1,_,g2,_⟩:=so;have f2:∀k a,vO knd s'.heap k a->vO knd h2 k a:=λk a x=>YW x g1 g2 sb
  have oj:∀x,x∈ks2 ↔ ∃j,j<i+1/\key j=x:=λx=>by
   have old:x∈ks2 ↔ x=key i\/x∈ks:=by
    by_cases d:key i∈ks
    ·rw[y1 d];exact⟨.inr,λq=>q.elim (λe=>e ▸ d) id⟩
    ·rw[(y2 d).mem_iff,wG]
   rw[old,hx]
   constructor
   ·rintro (rfl | ⟨j,j1,j2⟩)
    ·exact⟨i,by lia,rfl⟩
    ·exact⟨j,by lia,j2⟩
   ·rintro ⟨j,j1,j2⟩
    rcases Vi (V0 j1)with e | e
    ·subst e;exact .inl j2.symm
    ·exact .inr ⟨j,e,j2⟩
  have len2:ks2.length<=i+1:=by
   by_cases d:key i∈ks
   ·rw[y1 d];lia
   ·rw[(y2 d).length_eq,vK];lia
  refine wq ⟨qO VJ _,ih (i+1) _ ks2 .a lt (W.frame _ s' _ _ st' (W5 _ _) λz hz o e=>?_) (λj hj=>f2 _ _ (f _ _ (ht j hj))) ts2 oj len2 λs3 ks3 mv3 f3 ts3 m3=>?_⟩
  ·rw[sb.2 z (λq=>hSf (q ▸ hz))];exact e
  ·refine r s3 ks3 (Moved.trans W.gtrans ((mv.mono λ_ q=>.tail _ q).then_heap (W5 _ _) λz o hz e=>?_) mv3) (λk a x=>f3 k a (f2 k a (f k a x))) ts3 m3
   rw[sb.2 z (λq=>hz (q ▸ .head _))];exact e
end
def jV(led:Bool):Obj:={cls:=.type "set",dict:=none,data:=.set #[] 0 (.fresh 0 0 led)}
def gk(w:wO):Bool:=!(w.params.followText "set-order")
section
variable{prog:wK}{w:wO}{K:Type}[DecidableEq K]{knd:KeyKind prog w K}{U:we->List K->Prop}{A:vg}{E:.m}{s:wm}
theorem zCm(x:wf){Q:.m}(q:Q .aa {s with heap:=s.heap.push (jV (gk w))}) :
  codeAny .s A (.call (.builtin "set.__new__") ⟨[.type "set",x],[]⟩) (wants Q E) s:=by
 refine codeAny_of_tree ?_;refine wg (m:=checkBuiltinCall "set.__new__" ⟨[.type "set",x],[]⟩) (wpAny_of_eq (F.newCall_set_1 x) (wq ?_));refine⟨qO u7 _,Vn F.entry_set_new ?_⟩;rw[W7 u7 _];unfold Builtin.«set.__new__» Uv;have sub:=sub_set_self;obtain⟨z1,z2,z3,z4,z5⟩:=s;dsimp only
 wp_walk
 refine wpAny_askSetting (wq ?_);dsimp only;simp only[newObj];exact wg (wpAny_alloc (wq (wq q)))
end
end TB
namespace TB
open PySem PySem.W PyProof.Rows
section
variable{n:Nat}(h1:1<=n)
include h1
end
section
variable{prog:wK}{w:wO}{A:vg}{E:.m}{s:wm}
end
structure yK(w:wO)(h:wJ)(a:we)(es:Array (Int × wf))(ep:Nat)(t:WR):Prop where
 at':∃o,h.get? a=some o/\o.ExactSet/\o.data=.set es ep t
 fits:t.fits es.size=true
 size:t.place.size=es.size
 kh:kU t.place
 plain:t.plain=true
 led:t.led=gk w
 bS:es.size<=4000
theorem yK.same{w:wO}{h g:wJ}{a:we}{es:Array (Int × wf)}{ep:Nat}{t:WR}(x:yK w h a es ep t)(e:∀o,h.get? a=some o->g.get? a=some o):yK w g a es ep t :=
 ⟨let ⟨o,h1,r⟩:=x.at';⟨o,e o h1,r⟩,x.fits,x.size,x.kh,x.plain,x.led,x.bS⟩
section
variable{prog:wK}{w:wO}{A:vg}{E:.m}{s:wm}{a:we}{es:Array (Int × wf)}{ep:Nat}{t:WR}
end
section
variable{prog:wK}{w:wO}{A:vg}{E:.m}{s:wm}{a it:we}{es:Array (Int × wf)}{ep:Nat}{t:WR}{i:Nat}
end
section
variable{prog:wK}{w:wO}{A:vg}{E:.m}{s:wm}
end
end TB
namespace L2
open PySem PySem.Spec PyProof.Rows GM
def oM(w:wO)(a:we)(ws:.x):HO:=.ext λh=>∃es ep t,TB.yK w h a es ep t/\aU ws (es.toList.map (·.2))
def tR(K:wa)(H:Hp)(v:V)(k:.p):Prop:=∃q,v=.ref q/\aV K H q (k.map V.int)
theorem items_int{P:wK}{w:wO} : ∀{us:.J}{ns:.p},IntsAre us ns->ItemsAre (intKind P w) ns us
 | _,_,.nil=>.nil
 | _,_,.cons n t r=>.cons (by show Q7 n (Value.int n t)=true;simp[Q7]) (items_int r)
theorem zzh{P:wK}{w:wO}(k:Int)(v:wf)(h:(intKind P w).is k v=true):∃i t,v=.int i t:=by
 have h:Q7 k v=true:=h;cases v with
 | int i t=>exact⟨i,t,rfl⟩
 | _=>exact absurd h (by simp[Q7])
theorem Inv.key{X:Cx}{pins:.l}{σ : List (Option V)}{H:Hp}{s:wm}(I:.n){q:we}{k:.p}(h:aV X.K H q (k.map V.int)):vO (intKind X.prog X.w) s.heap k q:=by
 obtain⟨its,r,⟨o,e,hc,n,hd⟩,_⟩:=I.tuple h;exact⟨o,its.toArray,n,e,hc,hd,items_int (BW r)⟩
theorem HB:∀{ws:.x}{us:.J},aU ws us->∀{i:Nat}{q:we},ws[i]? = some (.ref q)->us[i]? = some (.ref q)
 | _,_,.nil,i,q,h=>by simp at h
 | _,_,.cons r1 r2,0,q,h=>by
  simp only[xI,Qq]at h ⊢;subst h;exact r1
 | _,_,.cons r1 r2,i+1,q,h=>by
  simp only[Ql]at h ⊢;exact HB r2 h
def zM:wf->V
 | .ref a=>.ref a
 | _=>.bE
theorem Pq:∀(us:.J),(∀u∈us,∃a,u=.ref a)->aU (us.map zM) us
 | [],_=>.nil
 | u::us,h=>by
  obtain⟨a,rfl⟩:=h u .bn;exact .cons rfl (Pq us λu hu=>h u (wt _ hu))
theorem zr2(es:List (Int × wf))(h:∀e∈es,∃a,e.2=.ref a):aU (es.map λe=>zM e.2) (es.map (·.2)):=by
 have:=Pq (es.map (·.2)) λu hu=>by
  obtain⟨e,he,rfl⟩:=wQ.mp hu;exact h e he
 rwa[VH]at this
theorem oZ{α : Type}[DecidableEq α]:∀{ks l:.aY},ks.Nodup->(∀x∈ks,x∈l)->ks.length<=l.length
 | [],l,_,_=>WN _
 | k::ks,l,h,hs=>by
  rw[Vb]at h;have hk:=hs k .bn;have:=oZ (l:=l.erase k) h.2 λx hx=>(Xr (λe=>h.1 (by rw[<- e];exact hx))).mpr (hs x (wt _ hx))
  rw[xE hk]at this;have:=qx hk;rw[vK]
  lia
def Sm(w:wO):List V->Hp->VK->Prop:=λxs H Q=>∃(p:we)(ws:.x),xs=[.ref p]/\H p=some (oM w p ws)/\Q (.int (ws.length:Int)) H
theorem zzg{X:Cx} : bM X (.builtin "len") (Sm X.w):=by
 intro pins s σ H xs us Q I r h;obtain⟨p,ws,rfl,hp,q⟩:=h;obtain⟨u,rfl,rx⟩:=iD r;cases rx;obtain⟨⟨es,ep,t,y,r'⟩,_,_⟩:=I.aO p _ hp;obtain⟨o,h1,h2,h3⟩:=y.at';have hl:ws.length=es.size:=by have:=r'.length;simpa using this
 have:=y.bS;exact PySem.call_len_set h1 h2 h3 y.fits .a ⟨.int (ws.length:Int),H,I.tok _,⟨s.toks+1,by rw[hl]⟩,q⟩
end L2
namespace TB
open PySem PySem.W PyProof.Rows MeetsSeq
section
variable{prog:wK}{w:wO}{A:vg}{s:wm}{R:Result->wm->Prop}
end
end TB
namespace L2
open PySem PySem.Spec PyProof.Rows GM
section
variable{K:wa}{w:wO}{H H':Hp}{Q:VK}{v:V}{p l:we}{xs ys:.c}{us ws:.x}
theorem zN{r:Rat} : Is K H v (N r) ↔ tR K H v [r.num,(r.den:Int)]:=pk
theorem Hq{r s:Rat}(h:([r.num,(r.den:Int)]:List Int)=[s.num,(s.den:Int)]):r=s:=by
 simp only[uY,and_true]at h;exact Ug h.1 .a
theorem NM:∀(ks:.aQ),(∀k∈ks,∃r:Rat,k=[r.num,(r.den:Int)])->∃ys:List Rat,ks=ys.map λr=>[r.num,(r.den:Int)]
 | [],_=>⟨[],rfl⟩
 | k::ks,h=>by
  obtain⟨r,rfl⟩:=h k .bn;obtain⟨ys,rfl⟩:=NM ks λk hk=>h k (wt _ hk)
  exact⟨r::ys,rfl⟩
theorem N2:∀{ws:.x}{ys:.c},ws.length=ys.length->(∀(i:Nat)(v:V)(r:Rat),ws[i]? = some v->ys[i]? = some r->Is K H v (N r))->ai K H ws (ys.map N)
 | [],[],_,_=>.nil
 | [],_::_,h,_=>absurd h .u
 | _::_,[],h,_=>absurd h .u
 | v::ws,y::ys,h,hh=>.cons (hh 0 v y rfl rfl) (N2 (by simpa using h) λi v r h1 h2=>hh (i+1) v r (by simpa using h1) (by simpa using h2))
end
end L2
namespace TB
open PySem
section
variable{prog:wK}{w:wO}{K:Type}[DecidableEq K]{knd:KeyKind prog w K}{U:we->List K->Prop}{A:vg}{E:.m}{s:wm}
set_option maxHeartbeats 3200000 in
theorem aam(hv:∀k v,knd.is k v=true->∃i t,v=.int i t){l:we}{its:.J}{key:Nat->List K}{ad:Nat->we}(hh:A.handled=none)(hu:A.units+64<WC)(hl:s.heap.IsTuple l its.toArray)
  (hi:∀(i:Nat) v,its[i]? = some v->v=.ref (ad i)) (hk:∀i,i<its.length->vO knd s.heap (key i) (ad i)) (hn:its.length<=4) (hU:∀j,j<its.length->U (ad j) (key j)) {Q:.m}
  (q:∀(g:wJ)(tk:Nat)(ks:List (List K)),TS knd U g s.heap.objs.size (gk w) ks->(∀x,x∈ks ↔ ∃j,j<its.length/\key j=x)->(∀b o,s.heap.get? b=some o->g.get? b=some o)->Q .aa {s with heap:=g,toks:=tk}) :
  wx .s A (call (.type "set") [.ref l]) Q E s:=by
 obtain⟨c1,c2,mro⟩:=qg.mro;have f1:=qg.made;have f2:=qg.sub;have f3:=qg.notType;have f4:=qg.canCreate;have f5:=F.typeCall_set_1 .al;refine wpAny_call (codeAny_of_tree (show wx _ _ (callAny (.type "set") _) _ _ _ from ?_));refine wq ⟨Code.quiet_builtin _ (by decide +kernel),Vn F.entry_type_call ?_⟩;rw[Around.under_plain (weight_type_call_type "set" [.ref l] []) rfl]
 repeat(any_goals(first | assumption | wp_step))
 have nd:=zCm (prog:=prog) (w:=w) (A:=A.in1) (E:=E) (s:=s) .al (Q:=λv s1=>v=.ref s.heap.objs.size/\s1 = {s with heap:=s.heap.push (jV (gk w))}) ⟨rfl,rfl⟩;refine codeAny_mono nd λr s1 hr=>?_
 cases r with
 | error e=>exact hr
 | ok fl =>
  cases fl with
  | ret obj =>
   obtain⟨rfl,rfl⟩:=hr;have gS:(s.heap.push (jV (gk w))).get? s.heap.objs.size=some (jV (gk w)):=wS _ rfl;have tS:Shared.TypeIs {s with heap:=s.heap.push (jV (gk w))} .aa "set":=⟨_,gS,rfl⟩;have g1:=qg.init.lookup;have g2:=qg.init.bind .aa
   repeat(any_goals(first | assumption | wp_step))
   refine codeAny_mono (codeAny_call_builtin (R:=wants (λv s2=>v=.none /\ ∃g tk ks,s2 = {s with heap:=g,toks:=tk}/\TS knd U g s.heap.objs.size (gk w) ks/\(∀x,x∈ks ↔ ∃j,j<its.length/\key j=x) /\ ∀b o,s.heap.get? b=some o->g.get? b=some o) E)
    qg.init.plain F.entry_set_init (check_set_init_1 tS ?_)) λr2 s2 hr2=>?_
   ·obtain⟨ol,e1,e2,nl,e3⟩:=hl
    obtain⟨y1,y2,y3,y4⟩:=ol;dsimp only at e2 e3;subst e2;subst e3;have gl:(s.heap.push (jV (gk w))).get? l=some {cls:=.type "tuple",dict:=y2,data:=.seq its.toArray nl,slots:=y4}:=wn _ e1;have n1:=F.sub_tuple_set;have n2:=F.sub_tuple_frozenset;have n3:(Value.type "tuple" == Value.type "dict")=false:=by decide
    have il:(s.heap.push (jV (gk w))).IsTuple l its.toArray:=⟨_,gl,rfl,nl,rfl⟩;unfold Builtin.«set.__init__» noKeywords Uj;generalize hPI:pyIter=PI
    wp_walk
    subst hPI;refine Vk il ?_;refine wg (wpAny_runValue ?_);have ls:l<s.heap.objs.size:=wF e1;have zs:(s.heap.push (jV (gk w))).objs.size=s.heap.objs.size+1:=V8 ..;have ne:l≠(s.heap.push (jV (gk w))).objs.size:=by rw[zs];exact wT (VY ls)
    have nf:s.heap.objs.size ∉ [(s.heap.push (jV (gk w))).objs.size,l]:=by
     rw[zs];intro hm;rcases wG.mp hm with e | hm
     ·exact absurd e (wT (Nat.lt_succ_self _))
     ·rcases wG.mp hm with e | hm
      ·exact absurd e (vv ls)
      ·cases hm
    have kp:∀b o,s.heap.get? b=some o->((s.heap.push (jV (gk w))).push {cls:=.type "tuple_iterator",data:=.fields #[.ref l,.int 0 0]}).get? b=some o:=λb o e=>wn _ (wn _ e)
    refine zGT hv ((Walks.tuple (by simp[hh]) _ l ne its.toArray).toS) (S:=s.heap.objs.size) nf (by show A.units+1+1+1<_;lia) (led:=gk w) (key:=key) (ad:=ad)
     (λi v hp=>hi i v (by simpa using hp)) ?hI (by simpa using hn) (λj hj=>hU j (by simpa using hj)) (its.toArray.size-0) 0 _ [] rfl (WN _) ⟨⟨_,wS _ rfl,rfl,rfl⟩,il.at λo e=>wn _ e⟩
     (λj hj=>Cn (hk j (by simpa using hj)) λo eo=>kp _ o eo) (TS.new (wn _ gS)) (λx=>⟨λh=>absurd h WO,λ⟨j,j1,_⟩=>absurd j1 (W0 _)⟩) .Y ?fin
    case hI =>
     intro i s9 a9 k9 st9 x9 hm;obtain⟨⟨o8,u1,u2,_⟩,_⟩:=st9;obtain⟨o9,_,_,v1,v2,_⟩:=x9;rcases wG.mp hm with e | hm
     ·subst e
      rw[u1]at v1;cases v1;rw[u2]at v2;exact absurd (Value.type.inj v2) .M
     ·cases hm
    case fin =>
     intro s9 ks9 mv f9 ts9 m9;obtain⟨g,x1,x2,x3,x4⟩:=s9;obtain rfl:x1=s.gens:=mv.gens;obtain rfl:x2=s.drawn:=mv.drawn;obtain rfl:x4=s.os:=mv.os;refine wq (wq ⟨rfl,g,x3,ks9,rfl,ts9,by simpa using m9,λb o e=>?_⟩);have lb:b<s.heap.objs.size:=wF e;refine mv.heap b o (λhm=>?_) (kp b o e);rcases wG.mp hm with e' | hm
     ·exact absurd e' (wT lb)
     ·rcases wG.mp hm with e' | hm
      ·rw[zs]at e';exact absurd e' (wT (VY lb))
      ·cases hm
   ·cases r2 with
    | error e=>exact hr2
    | ok fl2 =>
     cases fl2 with
     | ret v =>
      obtain⟨rfl,g,tk,ks,rfl,a1,a2,a3⟩:=hr2
      repeat(any_goals(first | assumption | wp_step))
      exact q g tk ks a1 a2 a3
     | _=>exact hr2.elim
  | _=>exact hr.elim
end
end TB
namespace L2
open PySem PySem.Spec PyProof.Rows GM
def Ji(K:wa)(w:wO):List V->Hp->VK->Prop:=λxs H Q=>∃(p:we)(vs:.x)(key:Nat->List Int),xs=[.ref p]/\aV K H p vs/\vs.length<=4/\(∀j v,vs[j]? = some v->tR K H v (key j)) /\
 ∀(l:we)(ws:.x)(ks:.aQ),H l=none->ws.length=ks.length->(∀(i:Nat)(v:V)(k:.p),ws[i]? = some v->ks[i]? = some k->tR K H v k)->ks.Nodup->(∀x,x∈ks ↔ ∃j,j<vs.length/\key j=x) ->
  Q .al (upd H l (oM w l ws))
theorem zwF{X:Cx}(hu:X.A.units+64<WC)(hc:.bu):bM X (.type "set") (Ji X.K X.w):=by
 intro pins s σ H xs us Q I r h;obtain⟨p,vs,key,rfl,hq,hn,hk,q⟩:=h;obtain⟨u,rfl,rx⟩:=iD r;cases rx;obtain⟨its,r',pl,hz⟩:=I.tuple hq;have hlen:=r'.length
 have hx:∀j:Nat,∃ad:we,∀v,vs[j]? = some v->v=.ref ad/\aV X.K H ad ((key j).map V.int):=λj=>by
  cases e:vs[j]? with
  | none=>exact⟨0,λv h=>by cases h⟩
  | some v =>
   obtain⟨ad,h1,h2⟩:=hk j v e;exact⟨ad,λv' h=>by cases h;exact⟨h1,h2⟩⟩
 obtain⟨ad,had⟩:∃ad:Nat->we,∀j v,vs[j]? = some v->v=.ref (ad j)/\aV X.K H (ad j) ((key j).map V.int):=⟨λj=>(hx j).choose,λj=>(hx j).choose_spec⟩;have hg:∀j,j<its.length->∃v,vs[j]? = some v:=λj hj=>⟨vs[j]'(by lia),wc _⟩
 refine TB.aam (knd:=intKind X.prog X.w) (U:=λa k=>aV X.K H a (k.map V.int)) zzh (key:=key) (ad:=ad) .aE hu (let ⟨o,e,hc,n,hd⟩:=pl;⟨o,e,hc,n,hd⟩) (λj v hv=>?_) (λj hj=>?_) .a (λj hj=>?_) λg tk ks hS hm kp=>?_
 ·obtain⟨v',hv'⟩:=hg j (by rcases wE j its.length with h | h;exact h;rw[wN h]at hv;cases hv)
  obtain⟨rfl,_⟩:=had j v' hv';have:=HB r' hv';rw[hv]at this;exact wI this
 ·obtain⟨v',hv'⟩:=hg j hj
  exact I.key (had j v' hv').2
 ·obtain⟨v',hv'⟩:=hg j hj
  exact(had j v' hv').2
 ·obtain⟨o,es,ep,t,e1,e2,e3,e4,e5,e6,e7,e8,e9,e10⟩:=hS
  obtain⟨f1,f2⟩:=e9
  have kl:ks.length<=4:=Wb (oZ e10 (l:=(wp its.length).map key) λx hx=>by
   obtain⟨j,h1,h2⟩:=(hm x).mp hx;exact wQ.mpr ⟨j,wH.mpr h1,h2⟩) (by rw[wl,vi];lia)
  have hz':es.size=ks.length:=by rw[<- f1,wV]
  have hr:∀e∈es.toList,∃a,e.2=.ref a:=λe he=>by
   obtain⟨i,hi⟩:=Xg.mp he;obtain⟨k,hk'⟩:∃k,ks[i]? = some k:=⟨_,wc (by rw[<- f1];exact(WZ.mp hi).1)⟩;obtain⟨a,h1,_⟩:=f2 i e k hi hk';exact⟨a,h1⟩
  refine⟨.ref s.heap.objs.size,_,I.laid (t':=tk) kp .Y (show d8 X.prog X.w _ _ _ (oM X.w s.heap.objs.size (es.toList.map λe=>zM e.2))from⟨⟨es,ep,t,⟨⟨o,e1,e2,e3⟩,?_,?_,e4.kh,e8,e7,by lia⟩,?_⟩,⟨o,e1⟩,?_⟩),rfl,
   q _ _ ks (I.aO.fresh .Y) (by rw[wl];exact f1) (λi v k hv hk'=>?_) e10 λx=>by rw[hlen];exact hm x⟩
  ·have:=e4.fits
   rwa[wl,wV]at this
  ·rw[e4.size,wl,wV]
  ·exact zr2 _ hr
  ·rintro h1 h2 ⟨es',ep',t',a1,a2⟩ hh
   exact⟨es',ep',t',a1.same hh,a2⟩
  ·rw[wu]at hv
   cases e:es.toList[i]? with
   | none=>rw[e]at hv;cases hv
   | some x =>
    rw[e]at hv;cases hv;obtain⟨a,h1,_,_,h2⟩:=f2 i x k e hk';exact⟨a,by show zM x.2=_;rw[h1];rfl,h2⟩
section
variable{K:wa}{w:wO}{H H':Hp}{Q:VK}{v:V}{p l:we}{xs ys:.c}{us ws:.x}
theorem zAj(h:Is K H v (TN xs))(hn:xs.length<=4)(q:∀(l:we)(H':Hp)(ws:.x)(ys:.c),H l=none->ar H H'->H' l=some (oM w l ws)->ai K H' ws (ys.map N)->ys.Nodup->(∀y,y∈ys ↔ y∈xs)->Q .al H'):Ji K w [v] H Q:=by
 obtain⟨p,vs,rfl,hs,t⟩:=bY.mp h;have hl:=t.length;rw[wl]at hl;refine⟨p,vs,λj=>[(xs.getD j 0).num,((xs.getD j 0).den:Int)],rfl,hs,by lia,λj v hv=>zN.mp (cw t hv).2,λl ws ks h1 h2 h3 h4 h5=>?_⟩
 obtain⟨ys,rfl⟩:=NM ks λk hk=>by
  obtain⟨j,_,e⟩:=(h5 k).mp hk;exact⟨_,e.symm⟩
 have S:ar H (upd H l (oM w l ws)):=ar.upd h1;rw[wl]at h2;refine q l _ ws ys h1 S dk (N2 h2 λi v r hv hr=>(zN.mpr (h3 i v _ hv (by rw[wu,hr];rfl))).by S) ?_ λy=>?_
 ·unfold List.Nodup at h4 ⊢
  rw[Qp]at h4;exact h4.imp λ{a b} h e=>h (by rw[e])
 ·have:=h5 [y.num,.bv]
  constructor
  ·intro hy
   obtain⟨j,hj,e⟩:=this.mp (wQ.mpr ⟨y,hy,rfl⟩);rw[<- Hq e];exact getD_mem .a
  ·intro hy
   obtain⟨j,hj,e⟩:=wX hy;obtain⟨r,hr,er⟩:=wQ.mp (this.mpr ⟨j,by lia,by show [(xs.getD j 0).num,((xs.getD j 0).den:Int)]=_;rw[wb,wc hj,QF,e]⟩);rw[<- Hq er];exact hr
end
end L2
namespace GM
section
variable(rs:.p)(us ts:.aQ)(ps cs:.p)
end
section
variable{rs:.p}{us ts:.aQ}{ps cs:.p}
end
section
variable(rs:.p)(us ts:.aQ)(ps cs:.p)
end
section
variable{rs:.p}{us ts:.aQ}{ps cs:.p}{f:Nat}{g:.aR}{acc:.aF}
end
section
variable(rs:.p)(us ts:.aQ)(ps:.p)(cm:.aQ)
end
section
variable{rs:.p}{us ts:.aQ}{ps:.p}{cm:.aQ}
end
end GM
namespace L2
open PySem PySem.Spec PyProof.Rows GM
section
variable{K:wa}{H H':Hp}{Q:VK}{v:V}{rs ps:.p}{us ts cm rows:.aQ}{m:Int}{ws:.aF}
end
theorem zEU{i:Nat}{te:TE}{ti:tX}{D:c_}{σ : L2.St}{H:Hp}(h:∃x,σ[i]? = some (some x)/\te σ H λy H1=>ti x y H1 λz H2=>D.nx (σ.set i (some z)) H2):Yp i te ti D σ H:=h
theorem zCS{v:V}{P:V->Prop}{o:Option (Option V)}(h:o=some (some v))(q:P v):∃x,o=some (some x)/\P x:=⟨v,h,q⟩
theorem zFk{f:Int->Int->Int}{m n:Int}{H:Hp}{Q:VK}(q:Q (.int (f m n)) H):YI f (.int m) (.int n) H Q:=⟨m,n,rfl,rfl,q⟩
end L2
namespace TB
open PySem PySem.W PyProof.Rows
inductive eO{α β : Type}(R : α -> β -> Prop):List α -> List β -> Prop
 | nil:eO R [] []
 | cons {a : α} {b : β} {l:.aY} {m:List β} : R a b->eO R l m->eO R (a::l) (b::m)
structure HV(prog:wK)(w:wO)(K:Type)[DecidableEq K] where
 is:wJ->K->wf->Prop
 hash:K->Int
 draws:K->Nat
 deep:Nat
 inj:∀{h:wJ}{v:wf}{x y:K},is h x v->is h y v->x=y
 keeps:∀{h h':wJ}{k:K}{v:wf}{d:we}{o:Obj}{es ep},is h k v->h.get? d=some o->o.data=.dict es ep->vB d h h'->is h' k v
 pyHash:∀{A:vg}{E:.m}{s:wm}{k:K}{v:wf}{Q:Int->wm->Prop},A.units+deep<WC->is s.heap k v->Q (hash k) {s with toks:=s.toks+draws k}->wx .s A (PySem.pyHash v) Q E s
 eqBool:∀{A:vg}{E:.m}{s:wm}{x y:K}{u v:wf}{Q:Bool->wm->Prop},A.units+deep<WC->is s.heap x u->is s.heap y v->Q (decide (x=y)) s->wx .s A (PySem.eqBool u v) Q E s
 quiet:∀{A:vg}{E:.m}{s:wm}{k:K}{v:wf}{Q:Bool->wm->Prop}(n:Nat),deep<=n->is s.heap k v->Q true s->wx .s A (eqIsQuiet n v) Q E s
section
variable{prog:wK}{w:wO}{A:vg}{E:.m}{s:wm}
variable{a:we}
theorem Rw{o:Obj}{items:.as}{n:Nat}{hs:List (Int × Nat)}{Q:Int->wm->Prop}(hu:A.units<WC)(ho:s.heap.get? a=some o)(hc:o.cls=.type "tuple")(hd:o.data=.seq items n)
  (hi:eO (λv (x:Int × Nat)=>∀(E:.m)(Q:Int->wm->Prop)(s':wm),s'.heap=s.heap->Q x.1 {s' with toks:=s'.toks+x.2}->wx .s A.in1 (pyHash v) Q E s') items.toList hs)
  (h:Q (reduceHash (Wh (hs.map (·.1)))) {s with toks:=s.toks+((hs.map (·.2)).sum+1)}) :
  wx .s A (pyHash .bq) Q E s:=by
 have hT:s.TypeIs .bq "tuple":=⟨o,ho,hc⟩;unfold pyHash
 first | unfold pyHashByItsType | skip
 first | refine wg (wpAny_cRoomFor_or (.inr hu) ?_) | skip
 refine wg (qX hT qz.lookup ?_)
 show wx _ _ (if(some (Value.builtin "tuple.__hash__") == some Value.none)=true then _ else _) Q E s
 rw[if_neg (by rw[beq_builtin_none];exact vJ)];refine wg (qX hT qz.lookup ?_)
 show wx _ _ (callSpecialIfBoundUnlessNone? .bq "__hash__" _ >>= _) Q E s
 refine wg (wpAny_callSpecialIfBoundUnlessNone?_slot hT qz (Wp qz hT F.entry_tuple_hash ?_ (F.args_tuple_hash_1 _)))
 show wx _ _ (xk .bq >>= _) _ _ s
 refine wg (wpAny_tupleItemsOf ho hd ?_);refine wg ?_;rw[<- VI]
 refine qj _
  (λdM (b:Array Int) s'=>∃done left,hs=done++left/\eO (λv (x:Int × Nat)=>∀(E:.m)(Q:Int->wm->Prop)(s':wm),s'.heap=s.heap->Q x.1 {s' with toks:=s'.toks+x.2}->wx .s A.in1 (pyHash v) Q E s') dM left/\b.toList=done.map (·.1)/\s' = {s with toks:=s.toks+(done.map (·.2)).sum})
  _ ?_ ?_ _ _ ⟨[],hs,rfl,hi,rfl,rfl⟩
 ·rintro x dM b s' hz;obtain⟨done,left,rfl,hl,hb,rfl⟩:=hz
  cases hl with
  | @cons _ k _ ks' h1 hl' =>
   refine wg (h1 _ _ _ rfl ?_)
   first
    | exact wq ⟨done++[k],ks',by simp,hl',by simp[hb],by simp[Vq]⟩
    | exact wg (wq (wq ⟨done++[k],ks',by simp,hl',by simp[hb],by simp[Vq]⟩))
 ·rintro b s' hz;obtain⟨done,left,rfl,hl,hb,rfl⟩:=hz
  cases hl;rw[vS]at h
  show wx _ _ (retInt (Wh b.toList)) _ _ _
  rw[hb];refine wpAny_ret_mkInt ?_
  show wx _ _ (if(decide (-(2:Int)^63<=Wh (done.map (·.1)))&&decide (Wh (done.map (·.1))<2^63))=true then _ else _) Q E _
  unfold reduceHash at h
  by_cases hr:(decide (-(2:Int)^63<=Wh (done.map (·.1)))&&decide (Wh (done.map (·.1))<2^63))=true
  ·rw[if_pos hr]
   rw[if_pos hr]at h;exact wq (by simpa [Vq] using h)
  ·rw[if_neg hr]
   rw[if_neg hr]at h;exact wg (wpAny_rule (wq (by simpa [Vq] using h)))
theorem zEV{b:we}{oa ob:Obj}{xs ys:.as}{na nb:Nat}{bs:List Bool}{P:PySem.Fin->wm->Prop}(hoa:s.heap.get? a=some oa)(hda:oa.data=.seq xs na)(hob:s.heap.get? b=some ob)(hcb:ob.cls=.type "tuple")(hdb:ob.data=.seq ys nb)
  (hi:eO (λ(p:wf × wf)(c:Bool)=>∀(E:.m)(Q:Bool->wm->Prop),Q c s->wx .s A (eqBool p.1 p.2) Q E s) (xs.toList.zip ys.toList) bs)
  (h:P (.done (.ret (.bool (bs.all id&&xs.size == ys.size)))) s) :
  wx .s A (Builtin.«tuple.__eq__» ⟨[.ref a,.ref b],[]⟩) P E s:=by
 have hTb:s.TypeIs (.ref b) "tuple":=⟨ob,hob,hcb⟩
 show wx _ _ (isInstance (.ref b) (.type "tuple") >>= _) _ _ s
 refine wg (Vz hTb isSubtype_tuple_tuple ?_);simp only[WG,vf,if_false];refine wg (wpAny_tupleItemsOf hoa hda ?_);refine wg (wpAny_tupleItemsOf hob hdb ?_);refine wg ?_
 refine qj _
  (λdM r s'=>r.1=none/\s'=s /\ ∃cs,eO (λ(p:wf × wf)(c:Bool)=>∀(E:.m)(Q:Bool->wm->Prop),Q c s->wx .s A (eqBool p.1 p.2) Q E s) dM cs/\bs.all id=cs.all id)
  _ ?_ ?_ _ _ ⟨rfl,rfl,bs,hi,rfl⟩
 ·rintro ⟨u,v⟩ dM r s' ⟨hr,rfl,cs,hcs,hall⟩
  cases hcs with
  | @cons _ c _ cs' h1 h2 =>
   refine wg (h1 _ _ ?_);cases c with
   | true =>
    simp only[WG,vf,if_false];exact wq ⟨rfl,rfl,cs',h2,by rw[hall];simp⟩
   | false =>
    simp only[Q0,if_true];have hf:bs.all id=false:=by rw[hall];simp
    rw[hf,WJ]at h;exact wg (wq (wq (wq h)))
 ·rintro ⟨r1,r2⟩ s' ⟨hr,rfl,cs,hcs,hall⟩
  simp only at hr;subst hr;refine wq ?_;cases hcs;rw[hall]at h;have h':P (.done (.ret (.bool (xs.size == ys.size)))) s':=by simpa using h
  exact h'
theorem Y1{o:Obj}{items:.as}{n m:Nat}{Q:Bool->wm->Prop}(ho:s.heap.get? a=some o)(hc:o.cls=.type "tuple")(hd:o.data=.seq items n)
  (hi:∀v∈items.toList,∀(E:.m)(Q:Bool->wm->Prop),Q true s->wx .s A (eqIsQuiet m v) Q E s) (h:Q true s):wx .s A (eqIsQuiet (m+1) .bq) Q E s:=by
 have hT:s.TypeIs .bq "tuple":=⟨o,ho,hc⟩;unfold eqIsQuiet;refine wg (qX hT xN.lookup ?_)
 show wx _ _ (isInstance .bq (.type "tuple") >>= _) _ _ s
 refine wg (Vz hT isSubtype_tuple_tuple ?_);simp only[WG,vf,if_false];refine wg (Wr ho hd ?_);refine wg ?_
 show wx _ _ (forIn items _ _) _ _ s
 rw[<- VI];refine qj _ (λdM r s'=>r.1=none/\s'=s /\ ∀v∈dM,v∈items.toList) _ ?_ ?_ _ _ ⟨rfl,rfl,λ_ h=>h⟩
 ·rintro v dM r s' ⟨hr,rfl,hall⟩
  refine wg (hi v (hall v wz) _ _ ?_);simp only[WG,vf,if_false];exact wq ⟨rfl,rfl,λu hu'=>hall u (wt _ hu')⟩
 ·rintro ⟨r1,r2⟩ s' ⟨hr,rfl,_⟩
  simp only at hr;subst hr;exact wq h
theorem zyc{b:we}{oa ob:Obj}{xs ys:.as}{na nb:Nat}{bs:List Bool}{Q:Bool->wm->Prop}(hu:A.units<WC)(hoa:s.heap.get? a=some oa)(hca:oa.cls=.type "tuple")(hda:oa.data=.seq xs na)(hob:s.heap.get? b=some ob)(hcb:ob.cls=.type "tuple")(hdb:ob.data=.seq ys nb)
  (he:a=b->(bs.all id&&xs.size == ys.size)=true)
  (hi:eO (λ(p:wf × wf)(c:Bool)=>∀(E:.m)(Q:Bool->wm->Prop),Q c s->wx .s A.in1 (eqBool p.1 p.2) Q E s) (xs.toList.zip ys.toList) bs)
  (h:Q (bs.all id&&xs.size == ys.size) s):wx .s A (eqBool .bq (.ref b)) Q E s:=by
 unfold eqBool
 try with_reducible refine Wv ?_
 show wx _ _ (if(Value.ref a == Value.ref b)=true then _ else _) Q E s
 by_cases hab:(Value.ref a == Value.ref b)=true
 ·rw[if_pos hab]
  have e:a=b:=by have:=eq_of_beq hab;injection this
  rw[he e]at h;exact wg (wpAny_rule (wq h))
 ·rw[if_neg hab]
  have ta:s.TypeIs .bq "tuple":=⟨oa,hoa,hca⟩;have tb:s.TypeIs (.ref b) "tuple":=⟨ob,hob,hcb⟩
  exact wg (wpAny_richCompare_same_room (op:=.Eq) ta tb xN
   (Wp xN ta F.entry_tuple_eq (zEV hoa hda hob hcb hdb hi ⟨_,rfl,(λe=>nomatch e),Wx h⟩) (F.args_tuple_eq_2 _ _)) hu)
end
def mV(R:List wf->Prop)(h:wJ)(v:wf):Prop:=∃a o items n,v=.ref a/\h.get? a=some o/\o.cls=.type "tuple"/\o.data=.seq items n/\R items.toList
theorem mV.inj{R S:List wf->Prop}{h:wJ}{v:wf}(x:mV R h v)(y:mV S h v):∃l,R l/\S l:=by
 obtain⟨a,o,items,n,rfl,ho,_,hd,hi⟩:=x;obtain⟨a',o',items',n',e,ho',_,hd',hi'⟩:=y;cases e;obtain rfl:o=o':=wI (ho.symm.trans ho');rw[hd]at hd'
 injection hd' with h1 _
 subst h1;exact⟨_,hi,hi'⟩
theorem mV.keeps{R S:List wf->Prop}{h h':wJ}{v:wf}{d:we}{o:Obj}{es ep}(x:mV R h v)(ho:h.get? d=some o)(hd:o.data=.dict es ep)(hs:vB d h h')(r:∀l,R l->S l):mV S h' v:=by
 obtain⟨a,o',items,n,rfl,ho',hc,hd',hi⟩:=x
 have hne:a≠d:=by
  rintro rfl;obtain rfl:o'=o:=wI (ho'.symm.trans ho);rw[hd]at hd';exact nomatch hd'
 exact⟨a,o',items,n,rfl,(hs.2 a hne).trans ho',hc,hd',r _ hi⟩
def gm(prog:wK)(w:wO):HV prog w Int where
 is:=λ_ k v=>∃t,v=.int k t
 hash:=hashInt
 draws:=λ_=>1
 deep:=0
 inj:=λ⟨t,e⟩ ⟨u,f⟩=>by subst e;injection f
 keeps:=λh _ _ _=>h
 pyHash:=λ_ ⟨t,e⟩ h=>by subst e;exact wpAny_pyHash_int h
 eqBool:=λ_ ⟨t,e⟩ ⟨u,f⟩ h=>by subst e f;exact wpAny_eqBool_int h
 quiet:=λn _ ⟨t,e⟩ h=>by subst e;rw[eqIsQuiet_byValue n rfl];exact wq h
section
variable{prog:wK}{w:wO}{K:Type}[DecidableEq K](e:HV prog w K)
theorem zt4{A:vg}{s:wm}(hu:A.in1.units+e.deep<WC):∀{ks:List K}{vs:.J},eO (e.is s.heap) ks vs ->
  eO (λv (x:Int × Nat)=>∀(E:.m)(Q:Int->wm->Prop)(s':wm),s'.heap=s.heap->Q x.1 {s' with toks:=s'.toks+x.2}->wx .s A.in1 (pyHash v) Q E s') vs (ks.map λk=>(e.hash k,e.draws k))
 | _,_,.nil=>.nil
 | _,_,.cons h t=>.cons (λE Q s' he q=>e.pyHash hu (he ▸ h) q) (zt4 hu t)
theorem Zc{A:vg}{s:wm}(hu:A.in1.units+e.deep<WC):∀{ks js:List K}{us vs:.J},eO (e.is s.heap) ks us->eO (e.is s.heap) js vs ->
  ∃bs,eO (λ(p:wf × wf)(c:Bool)=>∀(E:.m)(Q:Bool->wm->Prop),Q c s->wx .s A.in1 (eqBool p.1 p.2) Q E s) (us.zip vs) bs/\(bs.all id&&us.length == vs.length)=decide (ks=js)
 | _,_,_,_,.nil,.nil=>⟨[],.nil,by simp⟩
 | _,_,_,_,.nil,.cons _ _=>⟨[],.nil,by simp⟩
 | _,_,_,_,.cons _ _,.nil=>⟨[],.nil,by simp⟩
 | k::ks,j::js,_,_,.cons h t,.cons h' t'=>by
  obtain⟨bs,b1,b2⟩:=Zc hu t t';refine⟨decide (k=j)::bs,.cons (λE Q q=>e.eqBool hu h h' q) b1,?_⟩;rw[Xw,Bool.and_assoc,vK,vK,show ∀a b:Nat,(a+1 == b+1)=(a == b)from λa b=>by simp,b2]
  by_cases h1:k=j<;>by_cases h2:ks=js<;>simp[h1,h2]
theorem HZ{h:wJ} : ∀{ks js:List K}{vs:.J},eO (e.is h) ks vs->eO (e.is h) js vs->ks=js
 | _,_,_,.nil,.nil=>rfl
 | _,_,_,.cons h t,.cons h' t'=>by rw[e.inj h h',HZ t t']
theorem RN{α β : Type}{R S : α -> β -> Prop}(f:∀a b,R a b->S a b):∀{l:.aY}{m:List β},eO R l m->eO S l m
 | _,_,.nil=>.nil
 | _,_,.cons h t=>.cons (f _ _ h) (RN f t)
theorem zxz{α β : Type}{R : α -> β -> Prop} : ∀{l:.aY}{m:List β},eO R l m->∀y∈m,∃x,R x y
 | _,_,.nil,y,hy=>by cases hy
 | _,_,.cons h t,y,hy=>by
  rcases wG.mp hy with rfl | hy
  ·exact⟨_,h⟩
  ·exact zxz t y hy
def gB:HV prog w (List K) where
 is:=λh ks v=>mV (eO (e.is h) ks) h v
 hash:=λks=>reduceHash (Wh ((ks.map λk=>(e.hash k,e.draws k)).map (·.1)))
 draws:=λks=>((ks.map λk=>(e.hash k,e.draws k)).map (·.2)).sum+1
 deep:=e.deep+1
 inj:=λx y=>by
  obtain⟨l,h1,h2⟩:=x.inj y;exact HZ e h1 h2
 keeps:=λx ho hd hs=>x.keeps ho hd hs λl h=>RN (λa b r=>e.keeps r ho hd hs) h
 pyHash:=λ{A E s k v Q} hu x h=>by
  obtain⟨a,o,items,n,rfl,ho,hc,hd,hi⟩:=x;exact Rw .a ho hc hd (zt4 e (show A.units+1+e.deep<WC by lia) hi) h
 eqBool:=λ{A E s x y u v Q} hu hx hy h=>by
  have hj:u=v->x=y:=λev=>by
   subst ev;obtain⟨l,h1,h2⟩:=hx.inj hy;exact HZ e h1 h2
  obtain⟨a,o,items,n,rfl,ho,hc,hd,hi⟩:=hx;obtain⟨a',o',items',n',rfl,ho',hc',hd',hi'⟩:=hy;obtain⟨bs,b1,b2⟩:=Zc e (A:=A) (show A.units+1+e.deep<WC by lia) hi hi';have b3:(bs.all id&&items.size == items'.size)=decide (x=y):=by rw[<- b2];rfl
  refine zyc .a ho hc hd ho' hc' hd' (λea=>?_) b1 (by rw[b3];exact h);rw[b3];exact decide_eq_true (hj (by rw[ea]))
 quiet:=λ{A E s k v Q} n hn x h=>by
  obtain⟨a,o,items,m,rfl,ho,hc,hd,hi⟩:=x;obtain⟨j,rfl⟩:∃j,n=j+1:=⟨n-1,by lia⟩
  exact Y1 ho hc hd (λu hu E Q q=>by
   obtain⟨x,hx⟩:=zxz hi u hu;exact e.quiet j .a hx q) h
end
section
variable{prog:wK}{w:wO}{J K:Type}[DecidableEq J][DecidableEq K](d:HV prog w J)(e:HV prog w K)
def Two(h:wJ)(k:J × K)(l:.J):Prop:=∃u v,l=[u,v]/\d.is h k.1 u/\e.is h k.2 v
def ZD:HV prog w (J × K) where
 is:=λh k v=>mV (Two d e h k) h v
 hash:=λk=>reduceHash (Wh ([(d.hash k.1,d.draws k.1),(e.hash k.2,e.draws k.2)].map (·.1)))
 draws:=λk=>([(d.hash k.1,d.draws k.1),(e.hash k.2,e.draws k.2)].map (·.2)).sum+1
 deep:=max d.deep e.deep+1
 inj:=λ{h v x y} hx hy=>by
  obtain⟨l,⟨u,v,rfl,h1,h2⟩,u',v',e',h3,h4⟩:=hx.inj hy;cases e';exact VQ (d.inj h1 h3) (e.inj h2 h4)
 keeps:=λx ho hd hs=>x.keeps ho hd hs λl ⟨u,v,r,h1,h2⟩=>⟨u,v,r,d.keeps h1 ho hd hs,e.keeps h2 ho hd hs⟩
 pyHash:=λ{A E s k v Q} hu x h=>by
  obtain⟨a,o,items,n,rfl,ho,hc,hd,u,v,hl,h1,h2⟩:=x
  exact Rw .a ho hc hd (by
   rw[hl];exact .cons (λE Q s' he q=>d.pyHash (show A.units+1+d.deep<WC by lia) (he ▸ h1) q) (.cons (λE Q s' he q=>e.pyHash (show A.units+1+e.deep<WC by lia) (he ▸ h2) q) .nil)) h
 eqBool:=λ{A E s x y u v Q} hu hx hy h=>by
  have hj:u=v->x=y:=λev=>by
   subst ev;obtain⟨l,⟨u,v,rfl,h1,h2⟩,u',v',e',h3,h4⟩:=hx.inj hy;cases e';exact VQ (d.inj h1 h3) (e.inj h2 h4)
  obtain⟨a,o,items,n,rfl,ho,hc,hd,u,v,hl,h1,h2⟩:=hx;obtain⟨a',o',items',n',rfl,ho',hc',hd',u',v',hl',h1',h2'⟩:=hy
  have b3:([decide (x.1=y.1),decide (x.2=y.2)].all id&&items.size == items'.size)=decide (x=y):=by
   rw[<- wV,<- wV,hl,hl'];obtain⟨x1,x2⟩:=x;obtain⟨y1,y2⟩:=y
   by_cases h1:x1=y1<;>by_cases h2:x2=y2<;>simp[h1,h2]
  refine zyc (bs:=[decide (x.1=y.1),decide (x.2=y.2)]) .a ho hc hd ho' hc' hd' (λea=>?_) ?_ (by rw[b3];exact h)
  ·rw[b3]
   exact decide_eq_true (hj (by rw[ea]))
  ·rw[hl,hl']
   exact .cons (λE Q q=>d.eqBool (show A.units+1+d.deep<WC by lia) h1 h1' q) (.cons (λE Q q=>e.eqBool (show A.units+1+e.deep<WC by lia) h2 h2' q) .nil)
 quiet:=λ{A E s k v Q} n hn x h=>by
  obtain⟨a,o,items,m,rfl,ho,hc,hd,u,v,hl,h1,h2⟩:=x;obtain⟨j,rfl⟩:∃j,n=j+1:=⟨n-1,by lia⟩
  exact Y1 ho hc hd (λu hu E Q q=>by
   rw[hl]at hu;rcases wG.mp hu with rfl | hu
   ·exact d.quiet j .a h1 q
   ·rw[vc]at hu
    subst hu;exact e.quiet j .a h2 q) h
end
abbrev SK:=List Int × List (List Int)
def kW(prog:wK)(w:wO):HV prog w SK:=ZD (gB (gm prog w)) (gB (gB (gm prog w)))
def zFs(prog:wK)(w:wO):HeapKind prog w SK where
 is:=λh k a=>(kW prog w).is h k .bq
 hash:=(kW prog w).hash
 draws:=(kW prog w).draws
 room:=λA=>A.units+3<WC
 inj:=λx y=>(kW prog w).inj x y
 keeps:=λx ho hd hs=>(kW prog w).keeps x ho hd hs
 pyHash:=λhu hk h=>(kW prog w).pyHash hu hk h
 eqBool:=λhu hx hy h=>(kW prog w).eqBool hu hx hy h
 quiet:=λhk h=>(kW prog w).quiet 8 (by show 3<=8;decide) hk h
end TB
namespace L2
open PySem PySem.Spec PyProof.Rows GM
open TB (SK zFs kW gB gm ZD eO)
theorem R0{P:wK}{w:wO}{h:wJ} : ∀{us:.J}{ns:.p},IntsAre us ns->eO ((gm P w).is h) ns us
 | _,_,.nil=>.nil
 | _,_,.cons n t r=>.cons ⟨t,rfl⟩ (R0 r)
section
variable{X:Cx}{pins:.l}{σ : St}{H:Hp}{s:wm}
theorem Inv.aaP(I:.n){v:V}{u:wf}{k:.p}(h:Is X.K H v (TZ k))(r:bK v u):(gB (gm X.prog X.w)).is s.heap k u:=by
 obtain⟨q,rfl,hs⟩:=rX.mp h;obtain⟨its,r',⟨o,e,hc,n,hd⟩,_⟩:=I.tuple hs;cases (show u=Value.ref q from r);exact⟨q,o,its.toArray,n,rfl,e,hc,hd,R0 (BW r')⟩
end
def zGg(l:List (Int × Nat)):Int:=reduceHash (Wh (l.map (·.1)))
def zGz(ks:.p):Int:=zGg (ks.map λk=>(hashInt k,1))
section
variable{X:Cx}{pins:.l}{σ : St}{H:Hp}{s:wm}{a b:we}{xs:List (SK × we × Int)}{ps:.p}{cm:.aQ}{A:vg}{E:.m}
end
section
variable{X:Cx}{pos pos':Pos}{i o value:Expr}{ty td tv:TE}
end
section
variable{K:wa}{H H':Hp}{Q:VK}{D:c_}{σ : St}{td ty tv:TE}{a b:we}{xs:List (SK × we × Int)}{ps:.p}{cm:.aQ}{n:Int}
end
section
variable{X:Cx}{N':.Q}{scope:Scope}{cl:.aW}{src:.R}{elt tgt iter:Expr}{ifs:.ak}{pos:Pos}{wi:TI}{g:TG}{tt:TT}{te:TE}
end
end L2
namespace TB
open PySem PySem.Spec PyProof.Rows
def d9(prog:wK)(w:wO):HeapKind prog w (List Int) where
 is:=λh k a=>(gB (gm prog w)).is h k .bq
 hash:=(gB (gm prog w)).hash
 draws:=(gB (gm prog w)).draws
 room:=λA=>A.units+1<WC
 inj:=λx y=>(gB (gm prog w)).inj x y
 keeps:=λx ho hd hs=>(gB (gm prog w)).keeps x ho hd hs
 pyHash:=λhu hk h=>(gB (gm prog w)).pyHash hu hk h
 eqBool:=λhu hx hy h=>(gB (gm prog w)).eqBool hu hx hy h
 quiet:=λhk h=>(gB (gm prog w)).quiet 8 (by show 1<=8;decide) hk h
section
variable{prog:wK}{w:wO}{K:Type}[DecidableEq K]{knd:HeapKind prog w K}{A:vg}{E:.m}{s:wm}
end
end TB
namespace L2
open PySem PySem.Spec PyProof.Rows GM
open TB (d9 gB gm)
abbrev NE:=List Int × we × we
def yr(x:NE)(e:DictEntry):Prop:=e=⟨zGz x.1,.ref x.2.1,.ref x.2.2⟩
def iX(a:we)(ep:Nat)(xs:List NE):HO:=.ext λh=>xs.length<=1000/\(a == sysModules)=false/\(xs.map (·.1)).Nodup /\ ∃o es,h.get? a=some o/\o.ExactDict/\o.data=.dict es ep/\Paired yr xs es.toList
def yZ(K:wa)(H:Hp)(xs:List NE):Prop:=∀x∈xs,Is K H (.ref x.2.1) (TZ x.1)
def nH(xs:List NE)(k:.p):Option we:=(xs.find? λx=>decide (x.1=k)).map (·.2.2)
theorem zCD{P:wK}{w:wO}{H:Hp}{h:wJ}{a:we}{ep:Nat}{xs:List NE}(z:xs.length<=1000)(hd:(a == sysModules)=false)(nd:(xs.map (·.1)).Nodup){o:Obj}{es:Array DictEntry}(ho:h.get? a=some o)(hx:o.ExactDict)(hda:o.data=.dict es ep)(r:Paired yr xs es.toList) :
  d8 P w H h a (iX a ep xs):=⟨⟨z,hd,nd,o,es,ho,hx,hda,r⟩,⟨o,ho⟩,λh1 h2 ⟨z,hd,nd,o,es,ho,q⟩ k=>⟨z,hd,nd,o,es,k _ ho,q⟩⟩
def jB(xs:List NE):List (List Int × we × wf):=xs.map λx=>(x.1,x.2.1,.ref x.2.2)
theorem zGj{P:wK}{w:wO}{xs:List NE}{es:List DictEntry}(r:Paired yr xs es):es=(jB xs).map (entryOfKey (d9 P w)):=by
 induction r with
 | nil=>rfl
 | @cons x e xs es hx r ih =>
  show e::es=_::(jB xs).map (entryOfKey (d9 P w))
  rw[<- ih,show e=_ from hx]
  rfl
theorem Rj{P:wK}{w:wO} : ∀xs:List NE,Paired yr xs ((jB xs).map (entryOfKey (d9 P w)))
 | []=>.nil
 | x::xs=>.cons rfl (Rj xs)
theorem zFX(xs:List NE)(k:.p):(atKey (jB xs) k).map (·.2)=(nH xs k).map Value.ref:=by
 induction xs with
 | nil=>rfl
 | cons x xs ih =>
  unfold atKey nH jB at *;rw[ve,u9,u9]
  by_cases e:x.1=k
  ·simp[e]
  ·simp only[e,decide_false]
   exact ih
section
variable{X:Cx}{pins:.l}{σ : St}{H:Hp}{s:wm}{a b q:we}{ep:Nat}{xs:List NE}{k:.p}{A:vg}{E:.m}
theorem Inv.nK(I:.n)(h:Is X.K H (.ref b) (TZ k)):(d9 X.prog X.w).is s.heap k b:=I.aaP h rfl
theorem Inv.Nu(I:.n)(e:H a=some (iX a ep xs)):xs.length<=1000/\(a == sysModules)=false/\(xs.map (·.1)).Nodup /\ ∃o es,s.heap.get? a=some o/\o.ExactDict/\o.data=.dict es ep/\Paired yr xs es.toList :=
 (show d8 X.prog X.w H s.heap a (iX a ep xs)from I.aO a _ e).1
end
section
variable{X:Cx}{o e f:Expr}{apos cpos pos:Pos}{td ty tx:TE}{tg:Expr}
end
section
variable{K:wa}{H H':Hp}{Q:VK}{D:c_}{σ : St}{td ty tx te:TE}{g:TG}{tt:TT}{a b q:we}{ep:Nat}{xs:List NE}{k:.p}{src:.R}
end
section
variable{X:Cx}{N':.Q}{scope:Scope}{cl:.aW}{src:.R}{elt tgt iter:Expr}{ifs:.ak}{pos:Pos}{wi:TI}{g:TG}{tt:TT}{te:TE}
end
end L2
namespace TB
open PySem PySem.W PyProof.Rows
theorem Yz:entryFor table "dict.update.loop"=some Builtin.«dict.update.loop»:=entryFor_of_tree (by kernel_rfl)
theorem zi:plainId "dict.update.loop"=true:=by decide +kernel
theorem zwz:typeLookup (.type "zip") "keys"=pure none:=am_miss_of_fast (by decide +kernel)
theorem znf:typeLookup (.type "zip") "__getattr__"=pure none:=by rw[typeLookup_type,builtinLookup_eq_fast];kernel_rfl
theorem zhS:entryFor table "zip.__getattribute__"=some Builtin.«object.__getattribute__» :=
 entryFor_alias (id':="object.__getattribute__") (by kernel_rfl) (by decide +kernel) (by decide +kernel) (by kernel_rfl)
theorem ztZ(a:we)(fs:.as)(sl:.bG)(name:Str)(u:Tok)(hmiss:typeLookup (.type "zip") name=pure none)(hname:(["__module__","__name__","__qualname__","__doc__","__annotations__"]:List Str).contains name=false)(hsz:name.length+100<=vd:=by size_fits) :
  Meets (Builtin.«object.__getattribute__» ⟨[.ref a,.str name u],[]⟩) (λA R s=>s.heap.get? a=some {cls:=.type "zip",dict:=none,data:=.fields fs,slots:=sl}/\raisesAttr .bq name A R s) :=
 Meets.of_wp λprog w A R s hs=>by
  obtain⟨hp,g,d,tk,os⟩:=s;obtain⟨hx,hs⟩:=hs;have hT:(⟨hp,g,d,tk,os⟩:wm).TypeIs .bq "zip":=⟨_,hx,rfl⟩;unfold Builtin.«object.__getattribute__»
  repeat(any_goals(first | assumption | wp_step))
  simp only[hname,vf,if_false]
  repeat(any_goals(first | assumption | wp_step))
  exact wpAny_raiseAttrError hs.1 hs.2 (attrMsg_fits (by decide +kernel) hsz)
section
variable{prog:wK}{w:wO}{A:vg}{E:.m}{s:wm}
theorem zC3{a:we}{fs:.as}{sl:.bG}{Q:Option wf->wm->Prop}
  (hx:s.heap.get? a=some {cls:=.type "zip",dict:=none,data:=.fields fs,slots:=sl}) (hA:A.handled=none)
  (q:∀h' tk,(∀b ob,s.heap.get? b=some ob->h'.get? b=some ob)->Q none {s with heap:=h',toks:=tk}) :
  wx .s A (getAttr? .bq "keys") Q E s:=by
 obtain⟨hp,g,d,tk,os⟩:=s;have hT:∀tk',(⟨hp,g,d,tk',os⟩:wm).TypeIs .bq "zip":=λ_=>⟨_,hx,rfl⟩
 have f1:=sub_AttributeError;have f3:=qy.lookup;have f4:=qy.bind .bq;have f5:=znf;unfold getAttr? getAttrBy? getAttrBy
 repeat(any_goals(first | assumption | exact hT _ | ((with_reducible show wx _ _ (call (Value.builtin "zip.__getattribute__") _ _) _ _ _);refine call_meets qy (hT _) zhS (PySem.F.args_zip_getattribute_2 _ _) (ztZ a fs sl "keys" _ zwz (by decide +kernel)) ⟨hx,hA,λh' tk' e hx'=>?_⟩) | wp_step))
 obtain⟨t',u',he⟩:=hx'.there
 show wx _ _ (getattributeRaised _ _ _ _ _ _ _) _ _ _
 unfold getattributeRaised
 repeat(any_goals(first | assumption | wp_step))
 exact q _ _ hx'.keeps
theorem zBd{p:we}{x y:wf}(h:WM s.heap p x y){Q:List wf->wm->Prop}(q:Q [x,y] s):wx .s A (Xb .aA) Q E s:=by
 have hT:s.TypeIs .aA "tuple":=⟨_,h,rfl⟩;unfold Xb;refine wg (wpAny_typeOf hT ?_);rw[if_pos .M];refine wg (Wr h rfl ?_);exact wq q
abbrev nu(h:wJ)(z TI TO p:we)(f:Bool):Prop :=
 h.get? z=some {cls:=.type "zip",dict:=none,data:=.fields #[Vw p,.bool f,.bool false,.ref TI,.ref TO],slots:=#[]}
end
section
variable{prog:wK}{w:wO}{A:vg}{E:.m}{s:wm}{z TI TO i1 i2 p:we}{f:Bool}{f1 f2:.bp}{n1 n2 k:Nat}{P1 P2:Nat->wf->Prop}{S1 S2:Nat->wJ->Prop}{a b:wf}
variable{op:Obj}
theorem TQ{Q:Bool->wm->Prop}(hz:nu s.heap z TI TO p f)(hp:s.heap.get? p=some op)
  (q:∀g,nu g z TI TO p true->vB z s.heap g->Q false {s with heap:=g}):wx .s A (vN (.ref z)) Q E s:=by
 unfold vN;refine wg (vH hz rfl (x:=Vw p) rfl ?_)
 show wx _ _ (loadIfAlive ((p:Int).toNat) >>= _) _ _ _
 rw[wD];refine wg (kdx_alive hp ?_);simp only[Option.isNone_some,vf,if_false];refine wg (vH hz rfl (x:=.bool f) rfl ?_);cases f with
 | true =>
  rw[if_neg (show ¬ ((Value.bool true != Value.bool true)=true)from vJ)];exact wq (q _ hz (ue _ _))
 | false =>
  rw[if_pos (show(Value.bool false != Value.bool true)=true from rfl)];refine wg (Vl hz .u λg hg sb=>?_);exact wq (q g hg sb)
theorem zHg{Q:.m}(D1:Draws prog w A i1 f1 n1 P1 S1)(D2:Draws prog w A i2 f2 n2 P2 S2)(ap:L2.ZA z TI TO i1 i2 f1 f2)(hz:nu s.heap z TI TO p f)(hi:WM s.heap TI (.ref i1) (.ref i2))(hp:s.heap.get? p=some op)
  (h1:S1 k s.heap) (h2:S2 k s.heap) (l1:k<n1) (l2:k<n2)
  (fin:∀x y h' tk,P1 k x->P2 k y->nu h' z TI TO p true->S1 (k+1) h'->S2 (k+1) h'->WM h' s.heap.objs.size x y ->
   (∀c o,c≠z->c≠i1->c≠i2->s.heap.get? c=some o->h'.get? c=some o)->Q .aa {s with heap:=h',toks:=tk}) :
  wx .s A (Builtin.«zip.__next__» ⟨[.ref z],[]⟩) (λr s'=>∃v,r=.done (.ret v)/\Q v s') E s:=by
 show wx _ _ (field (.ref z) 2 >>= _) _ _ _;refine wg (vH hz rfl (x:=.bool false) rfl ?_)
 show wx _ _ (field (.ref z) 3 >>= _) _ _ _;refine wg (vH hz rfl (x:=.ref TI) rfl ?_)
 refine wg (Wr hi rfl ?_);show wx _ _ (vN (.ref z) >>= _) _ _ _
 refine wg (TQ hz hp λg0 hz0 sb0=>?_);have sb0:vB z s.heap g0:=sb0;simp only[vf,if_false];refine wg ?_;rw[<- VI];simp only[qU,Q4];have h1a:S1 k g0:=D1.frame _ _ _ h1 λc hc o e=>sb0.extBut c o (λq=>ap.b1 (q ▸ hc)) e
 have h2a:S2 k g0:=D2.frame _ _ _ h2 λc hc o e=>sb0.extBut c o (λq=>ap.b2 (q ▸ hc)) e
 refine wg (wg (Wv ?_))
 show wx _ _ (vR (.ref i1) >>= _) _ _ _
 refine wg (D1.item k _ _ _ l1 h1a λx g1 t1 px h1b sb1=>wq ?_);have sb1:vB i1 g0 g1:=sb1;have h2b:S2 k g1:=D2.frame _ _ _ h2a λc hc o e=>sb1.extBut c o (λq=>ap.b5 (q ▸ hc)) e
 refine wq ?_;refine wg (wg (Wv ?_))
 show wx _ _ (vR (.ref i2) >>= _) _ _ _
 refine wg (D2.item k _ _ _ l2 h2b λy g2 t2 py h2c sb2=>wq ?_);have sb2:vB i2 g1 g2:=sb2;have h1c:S1 (k+1) g2:=D1.frame _ _ _ h1b λc hc o e=>sb2.extBut c o (λq=>ap.b6 (q ▸ hc)) e
 refine wq (wq ?_);refine wg (wpAny_newTuple (hsz:=by show 2<=vd;rw[sizeLine_eq];decide) ?_);have hsz:g2.objs.size=s.heap.objs.size:=by rw[sb2.1,sb1.1,sb0.1]
 have kept:∀c o,c≠z->c≠i1->c≠i2->s.heap.get? c=some o->g2.get? c=some o:=λc o c1 c3 c4 e=>sb2.extBut _ _ c4 (sb1.extBut _ _ c3 (sb0.extBut _ _ c1 e))
 have zz:nu g2 z TI TO p true:=sb2.extBut _ _ ap.a4.symm (sb1.extBut _ _ ap.a3.symm hz0);refine wq ⟨_,rfl,?_⟩
 show Q (.ref g2.objs.size) _
 have new:WM (g2.push {cls:=.type "tuple",data:=.seq #[x,y]}) g2.objs.size x y:=wS _ rfl;rw[hsz]at new ⊢;exact fin x y _ _ px py (wn _ zz) (D1.frame _ _ _ h1c λc hc o e=>wn _ e) (D2.frame _ _ _ h2c λc hc o e=>wn _ e) new λc o c1 c3 c4 e=>wn _ (kept c o c1 c3 c4 e)
theorem zGl{Q:Fin->wm->Prop}(D1:Draws prog w A i1 f1 n1 P1 S1)(ap:L2.ZA z TI TO i1 i2 f1 f2)(hz:nu s.heap z TI TO p f)(hi:WM s.heap TI (.ref i1) (.ref i2))(hp:s.heap.get? p=some op)(h1:S1 n1 s.heap)
  (fin:∀h' e tk,(∀c o,c≠z->c≠i1->s.heap.get? c=some o->h'.get? c=some o)->(∃o,h'.get? e=some o/\o.cls=.type "StopIteration")->E (.ref e) {s with heap:=h',toks:=tk}) :
  wx .s A (Builtin.«zip.__next__» ⟨[.ref z],[]⟩) Q E s:=by
 show wx _ _ (field (.ref z) 2 >>= _) _ _ _;refine wg (vH hz rfl (x:=.bool false) rfl ?_)
 show wx _ _ (field (.ref z) 3 >>= _) _ _ _;refine wg (vH hz rfl (x:=.ref TI) rfl ?_)
 refine wg (Wr hi rfl ?_);show wx _ _ (vN (.ref z) >>= _) _ _ _
 refine wg (TQ hz hp λg0 hz0 sb0=>?_);have sb0:vB z s.heap g0:=sb0;simp only[vf,if_false];refine wg ?_;rw[<- VI];simp only[qU,Q4];have h1a:S1 n1 g0:=D1.frame _ _ _ h1 λc hc o e=>sb0.extBut c o (λq=>ap.b1 (q ▸ hc)) e
 refine wg (wg (Wv ?_))
 show wx _ _ (vR (.ref i1) >>= _) _ _ _
 exact wg (D1.done _ _ _ h1a λg1 e sb1 he=>fin g1 e _ (λc o c1 c3 q=>sb1 _ _ c3 (sb0.extBut _ _ c1 q)) he)
end
theorem rO{prog:wK}{w:wO}{h h':wJ}{k:.p}{a:we}(x:(d9 prog w).is h k a)(e:∀o,h.get? a=some o->h'.get? a=some o):(d9 prog w).is h' k a:=by
 obtain⟨a',o,items,n,ea,ho,hc,hd,r⟩:=x;cases ea;exact⟨a,o,items,n,rfl,e o ho,hc,hd,r⟩
def lC(base:we)(h h':wJ):Prop:=∀b o,b<base->h.get? b=some o->h'.get? b=some o
theorem lC.trans{base:we}{h h' h'':wJ}(x:lC base h h')(y:lC base h' h''):lC base h h'':=λb o hb e=>y b o hb (x b o hb e)
structure ZB(base z TI TO i1 i2 d a b:we):Prop where
 ap:L2.ZA z TI TO i1 i2 [i1,a] [i2,b]
 na:a≠i1
 nb:b≠i2
 bz:base<=z
 bO:base<=TO
 b1:base<=i1
 b2:base<=i2
 bd:base<=d
 dz:d≠z
 dI:d≠TI
 dO:d≠TO
 d1:d≠i1
 d2:d≠i2
 la:a<base
 lb:b<base
def nD(z TI TO i1 i2 d a b:we)(its jts:.as)(i:Nat)(h:wJ):Prop:=WM h TI (.ref i1) (.ref i2)/\(h.IsTupleIter i1 a i/\h.IsTuple a its)/\(h.IsTupleIter i2 b i/\h.IsTuple b jts) /\
 ((∃x y,IsZip h z TI TO .none/\WM h TO x y) \/ ∃p f op,nu h z TI TO p f/\h.get? p=some op/\p≠z/\p≠i1/\p≠i2/\p≠d)
section
variable{prog:wK}{w:wO}{A:vg}{E:.m}{s:wm}{base z TI TO i1 i2 d a b:we}{its jts:.as}{i:Nat}
theorem km(hh:A.handled=none)(it l:we)(hne:l≠it)(items:.as):Draws prog w A it [it,l] items.size (λi v=>items[i]? = some v) (λi h=>h.IsTupleIter it l i/\h.IsTuple l items):=L2.rM true hh it l hne items
theorem zGv(B:ZB base z TI TO i1 i2 d a b)(hh:A.in1.handled=none)(st:nD z TI TO i1 i2 d a b its jts i s.heap)(hd:d<s.heap.objs.size){x y:wf}(hx:its[i]? = some x)(hy:jts[i]? = some y){Q:Option wf->wm->Prop}
  (q:∀(h':wJ) tk,WM h' s.heap.objs.size x y->nD z TI TO i1 i2 d a b its jts (i+1) h'->(∀c o,c≠z->c≠TO->c≠i1->c≠i2->s.heap.get? c=some o->h'.get? c=some o)->Q (some .aa) {s with heap:=h',toks:=tk}) :
  wx .s A (V2 (.ref z)) Q E s:=by
 obtain⟨hi,s1,s2,hz⟩:=st
 have lt1:i<its.size:=by
  rcases wE i its.size with z | z
  ·exact z
  ·rw[Qy z]at hx;cases hx
 have lt2:i<jts.size:=by
  rcases wE i jts.size with z | z
  ·exact z
  ·rw[Qy z]at hy;cases hy
 have ap:=B.ap;unfold V2;rcases hz with⟨x0,y0,hz,ho⟩ | ⟨p,f,op,hz,hp,p1,p2,p3,p4⟩
 ·have hT:s.TypeIs (.ref z) "zip":=⟨_,hz,rfl⟩
  have ltz:=wF hz
  refine wg (VT (wpAny_callSpecial?_slot (name:=Wg "__next__") hT WB (Wp WB hT qf
   (L2.Nv (km (A:=A.in1) hh i1 a B.na its) (km (A:=A.in1) hh i2 b B.nb jts) ap hz hi ho s1 s2 lt1 lt2 λv1 v2 h1 tk e1 e2 hz1 ho1 st1 st2 hT1 hk=>wq ?_) (VZ _))))
  rw[hx]at e1;cases e1;rw[hy]at e2;cases e2;have l1:i1<s.heap.objs.size:=by obtain⟨o,e,_⟩:=s1.1;exact wF e
  have l2:i2<s.heap.objs.size:=by obtain⟨o,e,_⟩:=s2.1;exact wF e
  exact q h1 tk hT1 ⟨hk _ _ ap.a1 ap.a5 ap.a6 ap.a7 hi,st1,st2,.inr ⟨s.heap.objs.size,false,_,hz1,hT1,vv ltz,vv l1,vv l2,vv hd⟩⟩ hk
 ·have hT:s.TypeIs (.ref z) "zip":=⟨_,hz,rfl⟩
  refine wg (VT (wpAny_callSpecial?_slot (name:=Wg "__next__") hT WB (Wp WB hT qf
   (zHg (km (A:=A.in1) hh i1 a B.na its) (km (A:=A.in1) hh i2 b B.nb jts) ap hz hi hp s1 s2 lt1 lt2 λv1 v2 h1 tk e1 e2 hz1 st1 st2 hT1 hk=>wq ?_) (VZ _))))
  rw[hx]at e1;cases e1;rw[hy]at e2;cases e2;exact q h1 tk hT1 ⟨hk _ _ ap.a1 ap.a6 ap.a7 hi,st1,st2,.inr ⟨p,true,op,hz1,hk _ _ p1 p2 p3 hp,p1,p2,p3,p4⟩⟩ λc o c1 _ c3 c4 e=>hk c o c1 c3 c4 e
theorem zHe(B:ZB base z TI TO i1 i2 d a b)(hh:A.in1.handled=none)(st:nD z TI TO i1 i2 d a b its jts its.size s.heap){Q:Option wf->wm->Prop}
  (q:∀(h':wJ) tk,(∀c o,c≠z->c≠TO->c≠i1->c≠i2->s.heap.get? c=some o->h'.get? c=some o)->Q none {s with heap:=h',toks:=tk}) :
  wx .s A (V2 (.ref z)) Q E s:=by
 obtain⟨hi,s1,s2,hz⟩:=st;have ap:=B.ap;unfold V2;rcases hz with⟨x0,y0,hz,ho⟩ | ⟨p,f,op,hz,hp,p1,p2,p3,p4⟩
 ·have hT:s.TypeIs (.ref z) "zip":=⟨_,hz,rfl⟩
  refine wg (VT (wpAny_callSpecial?_slot (name:=Wg "__next__") hT WB (Wp WB hT qf
   (L2.NA (k:=its.size) (km (A:=A.in1) hh i1 a B.na its) (km (A:=A.in1) hh i2 b B.nb jts) ap hz hi ho s1 s2 .aZ λh' y tk hk hx'=>?_) (VZ _))))
  obtain⟨o,ho',hcl⟩:=hx';exact wg (Vz (T:="StopIteration") (b:=true) ⟨o,ho',hcl⟩ isSubtype_stop (wq (q h' tk hk)))
 ·have hT:s.TypeIs (.ref z) "zip":=⟨_,hz,rfl⟩
  refine wg (VT (wpAny_callSpecial?_slot (name:=Wg "__next__") hT WB (Wp WB hT qf
   (zGl (km (A:=A.in1) hh i1 a B.na its) ap hz hi hp s1 λh' y tk hk hx'=>?_) (VZ _))))
  obtain⟨o,ho',hcl⟩:=hx';exact wg (Vz (T:="StopIteration") (b:=true) ⟨o,ho',hcl⟩ isSubtype_stop (wq (q h' tk λc o c1 _ c3 _ e=>hk c o c1 c3 e)))
end
theorem nD.but{base z TI TO i1 i2 d a b:we}{its jts:.as}{i:Nat}{h g:wJ}(st:nD z TI TO i1 i2 d a b its jts i h)(B:ZB base z TI TO i1 i2 d a b)(sb:vB d h g):nD z TI TO i1 i2 d a b its jts i g:=by
 obtain⟨hi,s1,s2,hz⟩:=st;have da:a≠d:=wT (wW B.la B.bd);have db:b≠d:=wT (wW B.lb B.bd);refine⟨sb.extBut _ _ B.dI.symm hi,⟨s1.1.at λo e=>sb.extBut _ _ B.d1.symm e,s1.2.at λo e=>sb.extBut _ _ da e⟩,⟨s2.1.at λo e=>sb.extBut _ _ B.d2.symm e,s2.2.at λo e=>sb.extBut _ _ db e⟩,?_⟩;rcases hz with⟨x0,y0,hz,ho⟩ | ⟨p,f,op,hz,hp,p1,p2,p3,p4⟩
 ·exact .inl ⟨x0,y0,sb.extBut _ _ B.dz.symm hz,sb.extBut _ _ B.dO.symm ho⟩
 ·exact .inr ⟨p,f,op,sb.extBut _ _ B.dz.symm hz,sb.extBut _ _ p4 hp,p1,p2,p3,p4⟩
section
variable{prog:wK}{w:wO}{A:vg}{R:Result->wm->Prop}{base z TI TO i1 i2 d a b:we}{its jts:.as}{key:Nat->List Int}{ka:Nat->we}{val:Nat->wf}
theorem zGn(B:ZB base z TI TO i1 i2 d a b)(hh:A.in1.in1.handled=none)(hu:A.in1.units+1<WC)(hl:jts.size=its.size)(hn:its.size<=999)(hx:∀i,i<its.size->its[i]? = some (.ref (ka i)))(hy:∀i,i<its.size->jts[i]? = some (val i))
  (lk:∀i,i<its.size->ka i<base) (hk:∀i j,i<its.size->j<its.size->key i=key j->i=j) :
  ∀(c i:Nat)(s:wm),its.size-i=c->i<=its.size->nD z TI TO i1 i2 d a b its jts i s.heap->(∀j,j<its.size->(d9 prog w).is s.heap (key j) (ka j))->s.heap.DictOfH (d9 prog w) d ((wp i).map λj=>(key j,ka j,val j)) ->
   (∀(g:wJ)(tk:Nat),lC base s.heap g->g.DictOfH (d9 prog w) d ((wp its.size).map λj=>(key j,ka j,val j))->R (.ok (.ret .none)) {s with heap:=g,toks:=tk}) ->
   codeAny .s A (.builtin "dict.update.loop" ⟨[.ref d,.ref z,Vw i,.none],[]⟩) R s:=by
 have lift:∀{h h':wJ}{xs:List (List Int × we × wf)},h.DictOfH (d9 prog w) d xs->(∀x∈xs,x.2.1<base)->lC base h h'->(∀o,h.get? d=some o->h'.get? d=some o)->h'.DictOfH (d9 prog w) d xs:=λx hb bl hd=>by
  obtain⟨o,es,ep,ho,hc,hda,he,his,hn⟩:=x;exact⟨o,es,ep,hd o ho,hc,hda,he,λx hx=>rO (his x hx) λo e=>bl _ o (hb x hx) e,hn⟩
 have lo:∀{h h':wJ},(∀c o,c≠z->c≠TO->c≠i1->c≠i2->h.get? c=some o->h'.get? c=some o)->lC base h h':=λhk c o hc e=>hk c o (wT (wW hc B.bz)) (wT (wW hc B.bO)) (wT (wW hc B.b1)) (wT (wW hc B.b2)) e
 intro c
 induction c with
 | zero =>
  intro i s ec ei st ht hs r;obtain rfl:i=its.size:=by omega
  refine Vn Yz ?_;rw[W7 zi _];refine wg (m:=V2 (.ref z)) (zHe B hh st λh' tk hk'=>?_);refine wg (wq ?_);refine wq (r h' tk (lo hk') (lift hs (λx hx=>?_) (lo hk') λo e=>hk' d o B.dz B.dO B.d1 B.d2 e));obtain⟨j,hj,rfl⟩:=wQ.mp hx;exact lk j (wH.mp hj)
 | succ c ih =>
  intro i s ec ei st ht hs r;have lt:i<its.size:=by omega
  have hdl:d<s.heap.objs.size:=by obtain⟨o,_,_,ho,_⟩:=hs;exact wF ho
  refine Vn Yz ?_;rw[W7 zi _];refine wg (m:=V2 (.ref z)) (zGv B hh st hdl (hx i lt) (hy i lt) λh' tk hp st' hk'=>?_);have bl:=lo hk'
  have hs':h'.DictOfH (d9 prog w) d ((wp i).map λj=>(key j,ka j,val j)):=lift hs (λx hx=>by
   obtain⟨j,hj,rfl⟩:=wQ.mp hx;have:=wH.mp hj;exact lk j (by omega)) bl λo e=>hk' d o B.dz B.dO B.d1 B.d2 e
  have ht':∀j,j<its.size->(d9 prog w).is h' (key j) (ka j):=λj hj=>rO (ht j hj) λo e=>bl _ o (lk j hj) e
  refine wg (Wv (wg (wpAny_tryCatch (zBd hp ?_))));refine Wv (wpAny_dictSet_heap (knd:=d9 prog w) (k:=key i) hu (ht' i lt) hs' (λh2 hd2 sb=>?_) (by rw[wl,vi,sizeLine_eq];omega))
  have e2:storedH ((wp i).map λj=>(key j,ka j,val j)) (key i) (ka i) (val i)=(wp (i+1)).map λj=>(key j,ka j,val j):=by
   rw[storedH_new,QP,w5]
   ·rfl
   ·cases e:atKey ((wp i).map λj=>(key j,ka j,val j)) (key i)with
    | none=>rfl
    | some p =>
     unfold atKey at e;rw[VA]at e;obtain⟨y,hy',_⟩:=e;have hm:=xv hy';have hp':=Ua hy';obtain⟨j,hj,rfl⟩:=wQ.mp hm;have hj:=wH.mp hj;have:=hk j i (by omega) lt (of_decide_eq_true hp');omega
  rw[e2]at hd2;have sb:vB d h' h2:=sb;refine wq ⟨qO zi _,?_⟩;have bl2:lC base h' h2:=λc o hc e=>sb.extBut c o (wT (wW hc B.bd)) e
  have:=ih (i+1) {s with heap:=h2,toks:=tk+(d9 prog w).draws (key i)} (by omega) lt (st'.but B sb) (λj hj=>rO (ht' j hj) λo e=>bl2 _ o (lk j hj) e) hd2 λg tk' bl3 dd=>r g tk' (bl.trans (bl2.trans bl3)) dd
  exact this
end
section
variable{prog:wK}{w:wO}{A:vg}{E:.m}{s:wm}{base z TI TO i1 i2 a b:we}{its jts:.as}{key:Nat->List Int}{ka:Nat->we}{val:Nat->wf}{x0 y0:wf}
theorem aak(B:ZB base z TI TO i1 i2 s.heap.objs.size a b)(hh:A.handled=none)(hu:A.units+3<WC)(hl:jts.size=its.size)(hn:its.size<=999)(hx:∀i,i<its.size->its[i]? = some (.ref (ka i)))(hy:∀i,i<its.size->jts[i]? = some (val i))
  (lk:∀i,i<its.size->ka i<base) (hk:∀i j,i<its.size->j<its.size->key i=key j->i=j) (hz:IsZip s.heap z TI TO .none) (hi:WM s.heap TI (.ref i1) (.ref i2)) (ho:WM s.heap TO x0 y0) (s1:s.heap.IsTupleIter i1 a 0) (t1:s.heap.IsTuple a its) (s2:s.heap.IsTupleIter i2 b 0) (t2:s.heap.IsTuple b jts)
  (hK:∀j,j<its.size->(d9 prog w).is s.heap (key j) (ka j)) {Q:.m}
  (q:∀(g:wJ)(tk:Nat),lC base s.heap g->g.DictOfH (d9 prog w) s.heap.objs.size ((wp its.size).map λj=>(key j,ka j,val j))->Q .aa {s with heap:=g,toks:=tk}) :
  wx .s A (call (.type "dict") [.ref z]) Q E s:=by
 refine callType_codes (Q₁:=λobj s₁=>obj=.ref s.heap.objs.size/\s₁ = {s with heap:=s.heap.push {cls:=.type "dict",data:=.dict #[]}}) PySem.F.kt_called_dict (PySem.F.kt_typeCall_dict_1 _) PySem.F.entry_dict_init (kt_code_dict_new _ ⟨rfl,rfl⟩) ?_;rintro obj s₁ ⟨rfl,rfl⟩;have hnew:(s.heap.push {cls:=.type "dict",data:=.dict #[]}).DictOfH (d9 prog w) s.heap.objs.size []:=Heap.DictOfH.new s.heap;have hz':IsZip (s.heap.push {cls:=.type "dict",data:=.dict #[]}) z TI TO .none:=wn _ hz;refine⟨hnew.typeIs,PySem.F.args_dict_init_2 _ _,?_⟩;unfold Builtin.«dict.__init__»;refine wg ?_;unfold Builtin.Dict.selfAndRest;refine wg (wpAny_notOrdered_dict hnew.typeIs ?_)
 show wx _ _ (pure (s.heap.objs.size,[Value.ref z])) _ _ _
 refine wq ?_
 show wx _ _ (xJ "dict.__init__" s.heap.objs.size (.ref z) [] .none) _ _ _
 unfold xJ;refine wg (wpAny_typeOf (T:="zip") ⟨_,hz',rfl⟩ ?_);rw[if_pos .M];refine wg (zC3 hz' (by exact hh) λh1 tk1 kp1=>?_);simp only[Option.isNone_none,if_true];refine wg (wpAny_rule ?_);have kp0:∀b o,s.heap.get? b=some o->h1.get? b=some o:=λb o e=>kp1 b o (wn _ e)
 have dn:h1.DictOfH (d9 prog w) s.heap.objs.size []:=by
  obtain⟨o,es,ep,ho,hc,hda,he,his,hn⟩:=hnew;exact⟨o,es,ep,kp1 _ _ ho,hc,hda,he,(λx hx=>by cases hx),hn⟩
 refine wg (wpAny_pyIter_zip (kp0 _ _ hz) ?_);refine wq ⟨qO zi _,?_⟩;refine zGn B (by exact hh) (show A.units+1+1+1<WC by omega) hl hn hx hy lk hk (its.size-0) 0 _ rfl (WN _) ⟨kp0 _ _ hi,⟨s1.at λo e=>kp0 _ o e,t1.at λo e=>kp0 _ o e⟩,⟨s2.at λo e=>kp0 _ o e,t2.at λo e=>kp0 _ o e⟩,.inl ⟨x0,y0,kp0 _ _ hz,kp0 _ _ ho⟩⟩ (λj hj=>rO (hK j hj) λo e=>kp0 _ o e) dn λg tk bl dd=>?_
 exact⟨rfl,q g tk (λc o hc e=>bl c o hc (kp0 c o e)) dd⟩
end
end TB
namespace L2
open PySem PySem.Spec PyProof.Rows GM
open TB (d9 gB gm)
theorem zAJ:vL "dict"=some (.type "dict"):=by decide +kernel
def ig(ks:.aQ)(us ws:.bp):List NE:=(wp us.length).map λj=>(ks.getD j [],us.getD j 0,ws.getD j 0)
def Si(K:wa)(vs:.x)(H1:Hp)(Q:VK):Prop:=∃(a b:we)(ks:.aQ)(us ws:.bp),vs=[.ref a,.ref b]/\aV K H1 a (us.map V.ref)/\aV K H1 b (ws.map V.ref)/\us.length=ws.length/\us.length<=999/\ai K H1 (us.map V.ref) (ks.map TZ)/\ks.Nodup /\
 ∀D ep,H1 D=none->Q .bx (upd H1 D (iX D ep (ig ks us ws)))
def N4(K:wa)(ta:TA):TE:=λσ H Q=>ta σ H λvs H1=>Si K vs H1 Q
theorem zG6{n d a b:Nat}(la:a<n)(lb:b<n)(hd:n+5<=d):TB.ZB n (n+4) (n+2) (n+3) n (n+1) d a b where
 ap:=YT la lb
 na:=wT la
 nb:=wT (VY lb)
 bz:=W5 _ 4
 bO:=W5 _ 3
 b1:=wo _
 b2:=W5 _ 1
 bd:=by show n<=d;omega
 dz:=vv (by omega)
 dI:=vv (by omega)
 dO:=vv (by omega)
 d1:=vv (by omega)
 d2:=vv (by omega)
 la:=la
 lb:=lb
theorem zzi{ks:.aQ}{us ws:.bp}(h:ks.length=us.length):(ig ks us ws).map (·.1)=ks:=by
 unfold ig;rw[VH];refine List.ext_getElem? λj=>?_
 rw[wu];rcases wE j us.length with z | z
 ·rw[vM z,wc (by omega:j<ks.length)]
  show some (ks.getD j [])=_
  rw[wb,wc (by omega:j<ks.length)]
  rfl
 ·rw[wN (by simpa using z),wN (by omega)]
  rfl
section
variable{X:Cx}{o i:Expr}{pos:Pos}{td ty:TE}
theorem Jb:∀{ws:.x}{us:.J},aU ws us->∀{i:Nat}{q:we},ws[i]? = some (.ref q)->us[i]? = some (.ref q)
 | _,_,.nil,i,q,h=>by simp at h
 | _,_,.cons r1 r2,0,q,h=>by
  simp only[xI,Qq]at h ⊢;subst h;exact r1
 | _,_,.cons r1 r2,i+1,q,h=>by
  simp only[Ql]at h ⊢;exact Jb r2 h
theorem zBJ{l m:Expr}{ta:TA}{p p2 pos2:Pos}(hc:.bu)(hu:X.A.units+4<WC)(hg:Gl X "dict")(hm:X.mg "dict"=none)(hg2:Gl X "zip")(hm2:X.mg "zip"=none)(ha:PA X [l,m] ta)(hs:wY [l,m] X.env=[(false,eval l X.env),(false,eval m X.env)]:=by rfl)(hs2:wY [m] X.env=[(false,eval m X.env)]:=by rfl)
   (hs3:wY [Expr.Call (.Name "zip" p2) [l,m] [] pos2] X.env=[(false,eval (.Call (.Name "zip" p2) [l,m] [] pos2) X.env)]:=by rfl):PE X (.Call (.Name "dict" p) [.Call (.Name "zip" p2) [l,m] [] pos2] [] pos) (N4 X.K ta):=by
 intro pins s σ H Q I h;refine Call_ (iL I hg hm zAJ ?_);refine vF ?_ hs3 rfl;rw[hs3]
 show wx _ _ (spliced ((false,eval _ X.env)::V1 pos [])) _ _ s
 refine xc ?_;refine Call_ (iL I hg2 hm2 Ee (vF (aQ (ha pos2 pins s σ H _ I h) λus s1 ⟨vs,H1,I1,r1,q1⟩=>?_) (by rw[hs,hs2]) (by rw[hs2];rfl)));obtain⟨a,b,ks,us',ws,rfl,hq1,hq2,hl,hn,hk,nd,q⟩:=q1;obtain⟨u,v,rfl,ru,rv⟩:=oo r1;cases ru;cases rv;obtain⟨its,ri,p1⟩:=I1.j5 (t:=true) hq1;obtain⟨jts,rj,p2⟩:=I1.j5 (t:=true) hq2;have p1:s1.heap.IsTuple a its.toArray:=p1;have p2:s1.heap.IsTuple b jts.toArray:=p2;have la:a<s1.heap.objs.size:=by obtain⟨o,e,_⟩:=p1;exact wF e
 have lb:b<s1.heap.objs.size:=by obtain⟨o,e,_⟩:=p2;exact wF e
 have li:=ri.length;have lj:=rj.length;have lk:=hk.length;simp only[wl]at li lj lk;refine zrH p1 p2 λh' hz hi ho t1 t2 kp=>?_
 refine xo ?_;have hd:s1.heap.objs.size+5<=h'.objs.size:=wF hz
 have hx:∀j,j<its.toArray.size->its.toArray[j]? = some (Value.ref (us'.getD j 0)):=λj hj=>by
   have hj:j<us'.length:=by simpa [li] using hj
   have:=Jb ri (show(us'.map V.ref)[j]? = some (V.ref (us'.getD j 0)) by rw[wu,wb,wc hj];rfl)
   simpa using this
 have hy:∀j,j<its.toArray.size->jts.toArray[j]? = some (Value.ref (ws.getD j 0)):=λj hj=>by
   have hj : j < ws.length := by have : j < us'.length := by simpa [li] using hj
                                 omega
   have:=Jb rj (show(ws.map V.ref)[j]? = some (V.ref (ws.getD j 0)) by rw[wu,wb,wc hj];rfl)
   simpa using this
 have hK:∀j,j<its.toArray.size->(d9 X.prog X.w).is s1.heap (ks.getD j []) (us'.getD j 0):=λj hj=>by
   have hj:j<us'.length:=by simpa [li] using hj
   have:=(mE hk (i:=j) (x:=.ref (us'.getD j 0)) (by rw[wu,wb,wc hj];rfl)).2
   have ek:(ks.map TZ).getD j .none=TZ (ks.getD j []):=by
     rw[wb,wu,wb,wc (by omega:j<ks.length)]
     rfl
   rw[ek]at this;exact I1.nK this
 refine TB.aak (zG6 la lb hd) (I1.ok.hd hc) (by omega) (by simp only[wP];omega) (by simp only[wP];omega) hx hy (λj hj=>?_) (λi j hi' hj e=>?_) hz hi ho t1 (p1.at λo e=>kp _ o e) t2 (p2.at λo e=>kp _ o e) (λj hj=>TB.rO (hK j hj) λo e=>kp _ o e) λg tk bl dd=>?_
 . obtain⟨a',o,items,n,ea,ho',_⟩:=hK j hj
   cases ea;exact wF ho'
 . have hi' : i < ks.length := by have : i < its.length := by simpa using hi'
                                  omega
   have hj : j < ks.length := by have : j < its.length := by simpa using hj
                                 omega
   rw[wb,wb,wc hi',wc hj]at e;have pw:=WD.mp nd;rcases Va i j with z | z | z
   . exact absurd e (pw i j hi' hj z)
   . exact z
   . exact absurd e.symm (pw j i hj hi' z)
 . obtain⟨o,es,ep,ho',hxd,hda,he,his,hnd⟩:=dd
   refine⟨.ref h'.objs.size,_,I1.laid (t':=tk) (a:=h'.objs.size) (o:=iX h'.objs.size ep (ig ks us' ws)) (λc o e=>bl c o (wF e) (kp c o e)) (by omega) (zCD ?_ (beq_eq_false_iff_ne.mpr (WI (wT ?_))) ?_ ho' hxd hda ?_),rfl,q _ ep (I1.aO.fresh (by omega))⟩
   . unfold ig;rw[wl,vi];omega
   . exact wW I1.big (by omega)
   . rw[zzi (by omega)];exact nd
   . rw[he]
     have:((wp its.toArray.size).map λj=>(ks.getD j [],us'.getD j 0,Value.ref (ws.getD j 0)))=jB (ig ks us' ws):=by
       unfold jB ig;rw[VH,wP,<- li]
       rfl
     rw[this];exact Rj _
def Dy(K:wa)(td ty:TE):TE:=λσ H Q=>td σ H λx H1=>ty σ H1 λy H2=>∃a b ep xs k l,x=.ref a/\y=.ref b/\H2 a=some (iX a ep xs)/\yZ K H2 xs/\Is K H2 (.ref b) (TZ k)/\nH xs k=some l/\Q .al H2
theorem zFW{pins:.l}{σ : St}{H:Hp}{s:wm}{a b l:we}{ep:Nat}{xs:List NE}{k:.p}{A:vg}{E:.m}{Q:.m}(hu:A.units+4<WC)(I:.n)(e:H a=some (iX a ep xs))(hk:yZ X.K H xs)(hb:Is X.K H (.ref b) (TZ k))(hl:nH xs k=some l)(h:∀s',Inv X pins σ H s'->Q .al s') :
  wx .o A (getItem .bq (.ref b)) Q E s:=by
 obtain⟨z,hd,nd,o,es,ho,hx,hda,r⟩:=I.Nu e;have zk:(jB xs).map (·.1)=xs.map (·.1):=by unfold jB;rw[VH];rfl
 have dd:s.heap.DictOfH (d9 X.prog X.w) a (jB xs):=⟨o,es,ep,ho,hx,hda,zGj r,λx hx=>by
  obtain⟨y,hy,rfl⟩:=wQ.mp hx;exact I.nK (hk y hy),by rw[zk];exact nd⟩
 have lk:=zFX xs k;rw[hl]at lk;cases e2:atKey (jB xs) k with
 | none=>rw[e2]at lk;cases lk
 | some p =>
  rw[e2]at lk;have:p.2=Value.ref l:=wI lk;obtain⟨p1,p2⟩:=p;have:p2=Value.ref l:=this;subst this;exact wpAny_getItem_heap (knd:=d9 X.prog X.w) (show A.units+1+1<WC by omega) (I.nK hb) dd e2 (h _ (I.tok _))
theorem zBo(hu:X.A.units+4<WC)(ho:PE X o td)(hi:PE X i ty)(hs:Sn i):PE X (.Subscript o i pos) (Dy X.K td ty):=by
 intro pins s σ H Q I h;refine zCs PySem.F.slot_dict_getitem.lookup hs (aQ (ho pins s σ H _ I h) λu s1 ⟨x,H1,I1,rx,q1⟩=>aQ (hi pins s1 σ H1 _ I1 q1) λiv s2 ⟨y,H2,I2,ry,a,b,ep,xs,k,l,ex,ey,e,hk,hb,hl,q2⟩=>?_);subst ex ey;obtain rfl:u=Value.ref a:=rx;obtain rfl:iv=Value.ref b:=ry;obtain⟨_,_,_,od,es,g1,g2,_,_⟩:=I2.Nu e;exact⟨⟨od,g1,g2.1⟩,zFW hu I2 e hk hb hl λs3 I3=>⟨.ref l,H2,I3,rfl,q2⟩⟩
end
section
variable{K:wa}{σ : St}{H:Hp}{Q:VK}{td ty:TE}{ta:TA}
theorem dq26:(N4 K ta σ H Q)=(ta σ H λvs H1=>Si K vs H1 Q):=rfl
theorem zAm(h:ta σ H λvs H1=>Si K vs H1 Q):N4 K ta σ H Q:=h
theorem dq27:(Dy K td ty σ H Q)=(td σ H λx H1=>ty σ H1 λy H2=>∃a b ep xs k l,x=.ref a/\y=.ref b/\H2 a=some (iX a ep xs)/\yZ K H2 xs/\Is K H2 (.ref b) (TZ k)/\nH xs k=some l/\Q .al H2):=rfl
theorem zCb(h:td σ H λx H1=>ty σ H1 λy H2=>∃a b ep xs k l,x=.ref a/\y=.ref b/\H2 a=some (iX a ep xs)/\yZ K H2 xs/\Is K H2 (.ref b) (TZ k)/\nH xs k=some l/\Q .al H2):Dy K td ty σ H Q:=h
end
end L2
namespace TB
open PySem PySem.W PyProof.Rows MeetsSeq PySem.SeqAt
section
variable{prog:wK}{w:wO}{A:vg}{s:wm}{R:Result->wm->Prop}
def ju(b:Nat->Bool):Nat->Nat->Nat
 | _,0=>0
 | i,k+1=>(if b i=true then 1 else 0)+ju b (i+1) k
theorem TM{l:we}{items:.as}{n:Nat}{dd:Option we}{sl:.bG}{x:wf}{b:Nat->Bool}(hl:s.heap.get? l=some {cls:=.type "list",dict:=dd,data:=.seq items n,slots:=sl})
  (he:∀m (hm:m<items.size) (E:.m) (Q:Bool->wm->Prop),Q (b m) s->wx .s A.in1 (eqBool items[m] x) Q E s) :
  ∀(k i:Nat)(found:Int),items.size-i=k->R (.ok (.ret (.int (found+(ju b i k:Nat)) s.toks))) {s with toks:=s.toks+1}->codeAny .s A (.builtin "list.count.loop" ⟨[.ref l,x,Vw i,Vw found],[]⟩) R s
 | 0,i,found,hk,h=>by
  refine Vn entry_count_loop ?_;rw[W7 plain_count_loop _];obtain⟨hp,g,d,tk,os⟩:=s
  wp_walk using wpAny_loadPart' hl
  have hi:items[((i:Nat):Int).toNat]? = none:=by simp;omega
  rw[hi]
  wp_walk
  simpa [ju] using h
 | k+1,i,found,hk,h=>by
  have hlt:i<items.size:=by omega
  refine Vn entry_count_loop ?_;rw[W7 plain_count_loop _];have ih:=λfound' h'=>TM hl he k (i+1) found' (by omega) h'
  obtain⟨hp,g,d,tk,os⟩:=s
  wp_walk using wpAny_loadPart' hl
  have hi:items[((i:Nat):Int).toNat]? = some items[i]:=by simp[hlt]
  have hc:((i:Int)+1)=((i+1:Nat):Int):=by push_cast;rfl
  rw[hi];refine wg (he i hlt _ _ ?_)
  wp_walk
  rw[hc];refine⟨qO plain_count_loop _,ih _ ?_⟩;cases hb:b i with
  | false =>
   simp only[ju,hb,vf,if_false,xD]at h ⊢;exact h
  | true =>
   simp only[ju,hb,if_true]at h ⊢;have e1:found+1+((ju b (i+1) k:Nat):Int)=found+((1+ju b (i+1) k:Nat):Int):=by push_cast;omega
   rw[e1];exact h
theorem aaq{l:we}{items:.as}{n:Nat}{x:wf}{b:Nat->Bool}{Q:.m}{E:.m}(hl:s.heap.get? l=some {cls:=.type "list",dict:=none,data:=.seq items n,slots:=#[]})
  (he:∀m (hm:m<items.size) (E:.m) (Q:Bool->wm->Prop),Q (b m) s->wx .s A.in1 (eqBool items[m] x) Q E s)
  (h:Q (.int (ju b 0 items.size:Nat) s.toks) {s with toks:=s.toks+1}):wx .s A (call (.builtin "list.count") [.ref l,x]) Q E s:=by
 refine wpAny_call (codeAny_call_builtin Qm.plain PySem.F.entry_list_count (Qm.check _ _ _ _ _ _ _ _ ⟨_,hl,rfl⟩ (PySem.F.args_list_count_2 _ _) ?_));have ih:=TM (R:=wants Q E) hl he items.size 0 0 (by omega) (by rw[Int.zero_add];exact h);obtain⟨hp,g,d,tk,os⟩:=s
 wp_walk using wpAny_loadPart' hl
 exact⟨qO plain_count_loop _,ih⟩
end
end TB
namespace L2
open PySem PySem.Spec PyProof.Rows GM
def Ei(K:wa):V->List V->Hp->VK->Prop:=λx vs H Q=>∃(l:we)(us:.x)(v:V)(key:Nat->List Int)(k:.p),x=.ref l/\vs=[v]/\H l=some (.lst us)/\(∀i u,us[i]? = some u->tR K H u (key i))/\tR K H v k/\Q (.int (TB.ju (λm=>decide (key m=k)) 0 us.length:Nat)) H
theorem zy5{X:Cx}(hu:X.A.units+64<WC):HG X "list.count" (Ei X.K):=by
 intro pins s σ H x vs v us Q I rx rv h;obtain⟨l,ws,y,key,k,rfl,rfl,hH,hk,⟨p,rfl,hp⟩,q⟩:=h;cases rx;obtain⟨u,rfl,ru⟩:=rv.one;cases ru;obtain⟨z,its,n,r,hl,e⟩:=I.rQ hH;have hlen:=r.length;refine TB.aaq (b:=λm=>decide (key m=k)) e (λm hm E Q' q'=>?_) ?_
 ·have hm2:m<its.length:=by rw[wP]at hm;exact hm
  have hm':m<ws.length:=by omega
  obtain⟨a,ea,sa⟩:=hk m _ (wc hm');have hv:=HB r (show ws[m]? = some .bq by rw[wc hm',ea])
  have he:its.toArray[m]=.ref a:=by
   rw[wc hm2]at hv
   simpa using wI hv
  rw[he];exact wpAny_eqBool_tuple (by show X.A.units+1<_;lia) (I.key sa) (I.key hp) q'
 ·rw[wP,show its.length=ws.length by omega]
  exact⟨.int _,H,I.tok _,⟨_,rfl⟩,q⟩
theorem Tf{x:Rat}{b:Nat->Bool} : ∀(ys:.c)(i:Nat),(∀j,j<ys.length->b (i+j)=decide (ys.getD j 0=x))->TB.ju b i ys.length=ys.count x
 | [],_,_=>rfl
 | y::ys,i,h=>by
  have h0:=h 0 .u;rw[xB]at h0
  have ih:=Tf (x:=x) (b:=b) ys (i+1) λj hj=>by
   have:=h (j+1) (by simp;omega);rw[show i+(j+1)=i+1+j by omega]at this;exact this
  have e:(y::ys).getD 0 0=y:=rfl;rw[e]at h0
  show(if b i=true then 1 else 0)+TB.ju b (i+1) ys.length=_
  rw[ih,List.count_cons,h0]
  by_cases z:y=x<;>simp[z]
  omega
theorem zys{K:wa}{H:Hp}{Q:VK}{l:we}{us:.x}{xs:.c}{x:Rat}{v:V}(h:H l=some (.lst us))(t:ai K H us .aP)(hv:Is K H v (N x))(q:Q (.int (xs.count x:Nat)) H):Ei K .al [v] H Q:=by
 have hl:=t.length;rw[wl]at hl;refine⟨l,us,v,λj=>[(xs.getD j 0).num,((xs.getD j 0).den:Int)],_,rfl,rfl,h,λj v hv=>zN.mp (cw t hv).2,zN.mp hv,?_⟩
 rw[hl,Tf xs 0 λj hj=>by
  rw[xD]
  show decide ([(xs.getD j 0).num,((xs.getD j 0).den:Int)]=[x.num,.S])=decide (xs.getD j 0=x)
  by_cases z:xs.getD j 0=x
  ·rw[decide_eq_true z,decide_eq_true (by rw[z])]
  ·rw[decide_eq_false z,decide_eq_false λe=>z (Hq e)]]
 exact q
end L2
namespace G
open PySem PySem.Spec PyProof.Rows L2 GM
local macro_rules | `(tactic| wtm_at "sc")=>`(tactic| exact ⟨rfl,rfl,rfl,by decide +kernel,rfl,by decide +kernel,by decide +kernel⟩)
def top(i:Nat):w6:=VU.main.body.getD i (.Pass ⟨0,0,0,0⟩)
abbrev FU:w6:=top 70
abbrev IT:List Str:=["thing","worms"]
abbrev Cs:List Str:=["thing","worms"]
theorem zpq:aJ IT Cs (aH (top 70)):=by wtm_at "sc"
abbrev EY:w6:=top 111
set_option genInjectivity false in
structure Ad where
 rJ:we
 gg:we
 dQ:we
 eK:we
 CC:we
 C0:we
structure Dn(K:wa)(mg:.I)(n:Str)(st:w6)(ps:.Q)(f:we)(fd:wA):Prop where
 F:m6 K n n st f fd
 g:mg n=some (.ref f)
 b:nA K fd ps []
abbrev cr(P:wK)(w:wO)(base:wJ){K:wa}{mg:.I}{n:Str}{st:w6}{ps:.Q}{f:we}{fd:wA}(D:Dn K mg n st ps f fd)(k:Nat)(sp:Sp):=aG P w K mg base aN k f fd ps sp
abbrev dL(P:wK)(w:wO)(base:wJ){K:wa}{mg:.I}{n:Str}{st:w6}{ps:.Q}{f:we}{fd:wA}(D:Dn K mg n st ps f fd)(k:Nat)(sp:Sp):=aG P w K mg base (fE P w) k f fd ps sp
abbrev io(P:wK)(w:wO)(base:wJ){K:wa}{mg:.I}{n:Str}{st:w6}{ps:.Q}{f:we}{fd:wA}(D:Dn K mg n st ps f fd)(k:Nat)(g:wa->V->Hp->VK->XK->Prop):=cr P w base D k (S1 (g K))
abbrev jp(P:wK)(w:wO)(base:wJ){K:wa}{mg:.I}{n:Str}{st:w6}{ps:.Q}{f:we}{fd:wA}(D:Dn K mg n st ps f fd)(k:Nat)(g:wa->V->V->Hp->VK->XK->Prop):=cr P w base D k (S2 (g K))
abbrev kw(P:wK)(w:wO)(base:wJ){K:wa}{mg:.I}{n:Str}{st:w6}{ps:.Q}{f:we}{fd:wA}(D:Dn K mg n st ps f fd)(k:Nat)(g:wa->V->V->V->Hp->VK->XK->Prop):=cr P w base D k (S3 (g K))
abbrev ms(P:wK)(w:wO)(base:wJ){K:wa}{mg:.I}{n:Str}{st:w6}{ps:.Q}{f:we}{fd:wA}(D:Dn K mg n st ps f fd)(k:Nat)(g:wa->V->V->V->V->Hp->VK->XK->Prop):=cr P w base D k (S4 (g K))
abbrev mM(P:wK)(w:wO)(base:wJ){K:wa}{mg:.I}{n:Str}{st:w6}{ps:.Q}{f:we}{fd:wA}(D:Dn K mg n st ps f fd)(k:Nat)(g:wa->V->V->V->V->V->Hp->VK->XK->Prop):=cr P w base D k (S5 (g K))
section
variable{X:Cx}{x:Str}{f:we}{fd:wA}{ps:.Q}{sp:Sp}{j k:Nat}{e:Expr}{es:.ak}{t:TA}{pos pp:Pos}{st:w6}{CX:gx}
theorem nO{E:XK}(F:aG X.prog X.w X.K X.mg X.base CX k f fd ps sp)(hr:eT j X.A)(D:Dn X.K X.mg x st ps f fd)(hx:oO CX X E)(ha:PA X (e::es) t)(hj:k<=j:=by decide)(hg:Gl X x:=by exact rfl)
  (hdb:.ay=false:=by decide) (he:wY (e::es) X.env=(false,eval e X.env)::wY es X.env:=by rfl) (hpl:(V1 pos (wY es X.env)).any (·.1)=false:=by rfl) :
  PE X (.Call (.Name x pp) (e::es) [] pos) (yh sp [] E t):=Zl F (hr.mono hj) hg D.g D.F.kp D.b .nil hx ha hdb he hpl
theorem ao{D:Dn X.K X.mg x st ps f fd}(F:cr X.prog X.w X.base D k sp)(hr:eT j X.A)(ha:PA X (e::es) t)(hj:k<=j:=by decide)(hg:Gl X x:=by exact rfl)
  (hdb:.ay=false:=by decide) (he:wY (e::es) X.env=(false,eval e X.env)::wY es X.env:=by rfl) (hpl:(V1 pos (wY es X.env)).any (·.1)=false:=by rfl) :
  PE X (.Call (.Name x pp) (e::es) [] pos) (yh sp [] E0 t):=Zl F (hr.mono hj) hg D.g D.F.kp D.b .nil zHa ha hdb he hpl
theorem eC{ta:TE}{i:Int}{kd}(ha:PE X e ta):PE X (.Subscript e (.Constant (.int i) kd pp) pos) (jT (du X.K) ta (tC (.int i))):=dD cZ ha av .aw
theorem pg{K:wa}{ta:TE}{i:Int}{kd}(hr:fX X (du K))(ha:PE X e ta):PE X (.Subscript e (.Constant (.int i) kd pp) pos) (jT (du K) ta (tC (.int i))):=dD hr ha av .aw
theorem ay(i:Nat){te:TE}(hN:X.N.Nodup)(he:PE X e te)(hi:X.N[i]? = some x:=by exact rfl)(hx:Loc X.env.scope x:=by first | exact Or.inl rfl | exact Or.inr rfl)(hs:swapsWith e (some (.Name x pp)) pos.line X.env=pure false:=by rfl)(hf:X.fn x=true\/X.env.scope.names.lookup x=some .local:=by first | exact .inl rfl | exact .inr rfl | assumption) :
  PS X (.Assign [.Name x pp] e pos) (nG te (jC i)):=zFN hN hi hx he hs hf
end
section
variable{X:Cx}{x y z:Str}{e b:Expr}{es:.ak}{t:TA}{ta tb:TE}{pos pp pq pr ps:Pos}
def Rs(K:wa)(H:Hp)(Q:VK)(d:wC):Prop:=∀v H',ar H H'->Is K H' v d->Q v H'
def Rq(H:Hp)(Q:VK)(v:V):Prop:=∀H',ar H H'->Q v H'
def Nm(X:Cx)(i:Nat)(x:Str):Prop:=X.N[i]? = some x/\tQ X.env.scope x/\.ay=false/\(x == ("__classdict__" : Str))=false
theorem Nm.v{i:Nat}(h:Nm X i x):PE X (.Name x pos) (jd i):=OP h.1 h.2.1 h.2.2.1 h.2.2.2
theorem q1(i:Nat)(h:Nm X i x:=by wtm_at "nm"):PA X [.Name x pp] (lG (jd i) pH):=ae h.v ah cj
theorem q2(i j:Nat)(h:Nm X i x:=by wtm_at "nm")(k:Nm X j y:=by wtm_at "nm"):PA X [.Name x pp,.Name y pq] (lG (jd i) (lG (jd j) pH)):=ae h.v (ae k.v ah cj) cj
theorem q3(i j k:Nat)(h:Nm X i x:=by wtm_at "nm")(h2:Nm X j y:=by wtm_at "nm")(h3:Nm X k z:=by wtm_at "nm"):PA X [.Name x pp,.Name y pq,.Name z pr] (lG (jd i) (lG (jd j) (lG (jd k) pH))):=ae h.v (ae h2.v (ae h3.v ah cj) cj) cj
theorem qi(i:Nat){n:Int}{kd}(h:Nm X i x:=by wtm_at "nm"):PE X (.Subscript (.Name x pp) (.Constant (.int n) kd pq) pos) (jT (du X.K) (jd i) (tC (.int n))):=eC h.v
theorem dE(K:wa)(hz:X.mg x=none)(ha:PA X (e::es) t)(hK:X.K=K:=by rfl)(hg:Gl X x:=by exact rfl)(hv:vL x=some (.builtin "len"):=by exact Zn)(hn:x≠"__name__":=by decide)(hdb:.ay=false:=by decide)
  (he:wY (e::es) X.env=(false,eval e X.env)::wY es X.env:=by rfl) (hpl:(V1 pos (wY es X.env)).any (·.1)=false:=by rfl):PE X (.Call (.Name x pp) (e::es) [] pos) (sI (kr K) t):=by
 subst hK;exact dw zzK hg hz hv ha hn hdb he hpl
theorem fi(K:wa)(hz:X.mg x=none)(ha:PA X (e::es) t)(hK:X.K=K:=by rfl)(hg:Gl X x:=by exact rfl)(hv:vL x=some (.type "tuple"):=by exact nv)(hn:x≠"__name__":=by decide)(hdb:.ay=false:=by decide)
  (he:wY (e::es) X.env=(false,eval e X.env)::wY es X.env:=by rfl) (hpl:(V1 pos (wY es X.env)).any (·.1)=false:=by rfl):PE X (.Call (.Name x pp) (e::es) [] pos) (sI (ym K) t):=by
 subst hK;exact iS ztL hg hz hv ha hn hdb he hpl
theorem jc(K:wa)(hu:X.A.units+64<WC)(ha:PE X e ta)(hb:PE X b tb)(hK:X.K=K:=by rfl):PE X (.Compare e [.Eq] [b] pos) (jT (iE K) ta tb):=by
 subst hK;exact jk (Pf hu) ha hb (dF _)
theorem eX(K:wa)(hu:X.A.units+64<WC)(ha:PE X e ta)(hb:PE X b tb)(hK:X.K=K:=by rfl):PT X (.Compare e [.Eq] [b] pos) (tK (jT (iE K) ta tb)):=by
 subst hK;exact dP (Pf hu) ha hb (dF _)
theorem iM(K:wa)(hu:X.A.units+64<WC)(ha:PE X e ta)(hb:PE X b tb)(hK:X.K=K:=by rfl):PT X (.Compare e [.NotEq] [b] pos) (tK (jT (lZ K) ta tb)):=by
 subst hK;exact dP (zFu hu) ha hb (dF _)
theorem cC(i:Nat)(hN:X.N.Nodup:=by exact of_decide_eq_true (by kernel_rfl))(hi:X.N[i]? = some x:=by rfl)(hx:Loc X.env.scope x:=by exact Or.inl rfl)(hf:X.fn x=true\/X.env.scope.names.lookup x=some .local:=by first | exact .inl rfl | exact .inr rfl | assumption):PG X (.Name x pos) (jC i):=cV hN hi hx hf
theorem cW(N':.Q){scope:Scope}(src:.R)(hk:scope.kind=.function:=by rfl)(hc:ET scope.names X.env.scope.names X.N N' src=true:=by kernel_rfl)(hf:∀x,X.env.scope.names.lookup x=some .cell->∃c,X.env.cells.lookup x=some c:=by exact λx h=>Ct h):pL X N' scope (iK X.env.cells scope.names []) src:=.by hk hc hf
end
@[irreducible] def ac(K:wa)(_:Nat)(n:Str):we:=match vo K wU n with|some (some (.ref f))=>f|_=>0
@[irreducible] def al(K:wa)(j:Nat)(n:Str):wA:=match K.lookup (ac K j n) with|some ⟨_,_,.func d,_⟩=>d|_=>default
abbrev am(K:wa)(mg:.I)(j:Nat)(n:Str)(ps:.Q):=Dn K mg n (top j) ps (ac K j n) (al K j n)
structure pc(K:wa)(mg:.I):Prop where
 yA:am K mg 10 "is_whole" ["thing"]
 CH:am K mg 11 "is_whole_from" ["least","most","thing"]
 oC:am K mg 12 "greatest_divisor" ["one","other"]
 oG:am K mg 13 "is_number" ["thing"]
 gh:am K mg 14 "plus" ["one","other"]
 rL:am K mg 15 "minus" ["one","other"]
 kQ:am K mg 16 "times" ["one","other"]
 C5:am K mg 17 "over" ["one","other"]
 gJ:am K mg 18 "less" ["one","other"]
 KW:am K mg 23 "is_factor" ["a"]
 Ln:am K mg 24 "is_shift" ["b"]
 La:am K mg 25 "make_rule" ["a","b"]
 Mi:am K mg 26 "is_rule" ["thing"]
 C4:am K mg 27 "bend" ["rule"]
 rK:am K mg 28 "pushes" ["rule","many"]
 CO:am K mg 29 "pushed_by" ["push","x"]
 Ls:am K mg 33 "is_phase" ["thing"]
 Kw:am K mg 34 "are_phases" ["thing"]
 LB:am K mg 35 "swarm_of" ["rule","phases"]
 CS:am K mg 36 "greatest" ["phases"]
 LV:am K mg 37 "worms_at" ["phases","phase"]
 yD:am K mg 38 "flocks" ["swarm"]
 CK:am K mg 39 "at_the_end" ["worms","phases"]
 yI:am K mg 40 "glow" ["swarm"]
 L9:am K mg 42 "history" ["swarm","many"]
 MK:am K mg 43 "behind" ["swarm","many"]
 yC:am K mg 45 "is_laid" ["swarm"]
 rN:am K mg 46 "laid" ["swarm"]
 JI:am K mg 47 "phases_behind" ["rule","size","phases","turn"]
 yE:am K mg 48 "stands" ["rule","sizes","places"]
 CI:am K mg 49 "round_behind" ["rule","sizes","places"]
 Kt:am K mg 50 "round_time" ["rule","sizes","places"]
 C3:am K mg 51 "tops" ["rule","sizes","places"]
 oH:am K mg 52 "is_free" ["rule","sizes","places"]
 oF:am K mg 53 "round_map" ["rule","sizes"]
 C2:am K mg 56 "still" ["rule","sizes"]
 CW:am K mg 57 "weighed" ["both","places","of_place","of_shift"]
 CZ:am K mg 58 "led_on" ["both","places","many"]
 CG:am K mg 59 "rounds_behind" ["rule","sizes","places","many"]
 JB:am K mg 60 "sums_of_places" ["both","places","many"]
 J0:am K mg 61 "rounds_time" ["rule","sizes","places","many"]
 CJ:am K mg 62 "draws_freely" ["rule","sizes"]
 Kh:am K mg 63 "stays_free" ["rule","sizes","places"]
 J3:am K mg 64 "free_rounds" ["rule","sizes","places"]
 CP:am K mg 68 "has_stand" ["row","worms"]
 MC:am K mg 69 "is_row" ["thing","worms"]
 JX:am K mg 70 "is_last_row" ["thing","worms"]
 Lo:am K mg 71 "is_paper" ["thing","worms"]
 Mc:am K mg 72 "go_free" ["swarm","rounds"]
 CF:am K mg 73 "behind_rounds" ["swarm","rounds"]
 CM:am K mg 74 "behind_row" ["swarm","rounds","glows"]
 Lz:am K mg 75 "leads_on" ["rule","row","following"]
 CV:am K mg 76 "word_of" ["swarm"]
 Mo:am K mg 77 "lets_by" ["swarm","paper"]
 JL:am K mg 78 "glows_to_join" ["swarm"]
 LY:am K mg 79 "next_row" ["hour","swarm"]
 Lq:am K mg 80 "paper_of" ["swarm"]
 yL:am K mg 81 "fate" ["swarm"]
 LQ:am K mg 83 "_law_cell" ["_law_script","_law_k"]
 yB:am K mg 84 "_law_pen" ["_law_script","_law_k"]
 fu:am K mg 85 "_law_draw" ["_law_pen_here","_law_most"]
 gH:am K mg 86 "_law_low" ["_law_top","_law_bottom"]
 iu:am K mg 87 "_law_sum" ["_law_one","_law_other"]
 kP:am K mg 88 "_law_rest" ["_law_one","_law_other"]
 jZ:am K mg 89 "_law_product" ["_law_one","_law_other"]
 CT:am K mg 90 "_law_part" ["_law_one","_law_other"]
 oD:am K mg 91 "_law_below" ["_law_one","_law_other"]
 JH:am K mg 92 "_law_drawn_rule" ["_law_pen_here"]
 CL:am K mg 93 "_law_pushes" ["_law_rule","_law_many"]
 j3:am K mg 94 "_law_round" ["_law_rule","_law_sizes","_law_places"]
 oE:am K mg 95 "_law_power" ["_law_one","_law_many"]
 rH:am K mg 96 "_law_rests" ["_law_rule","_law_sizes"]
 yx:am K mg 97 "_law_behind" ["_law_rule","_law_sizes","_law_places","_law_many"]
 yy:am K mg 98 "_law_free" ["_law_rule","_law_sizes","_law_places"]
 Mm:am K mg 99 "_law_all" ["_law_rule","_law_sizes","_law_places"]
 Jv:am K mg 100 "_law_drawn_phases" ["_law_pen_here","_law_most"]
 yz:am K mg 102 "_law_high" ["_law_some"]
 Kc:am K mg 101 "_law_placed" ["_law_phases","_law_places"]
 LU:am K mg 103 "_law_glow" ["_law_rule","_law_phases"]
 CQ:am K mg 104 "_law_laid" ["_law_phases"]
 LG:am K mg 105 "_law_time" ["_law_rule","_law_sizes","_law_places","_law_many"]
 CN:am K mg 106 "_law_stand" ["_law_rule","_law_hour","_law_phases","_law_rounds","_law_glows"]
 Lw:am K mg 107 "_law_word" ["_law_rule","_law_phases"]
 CD:am K mg 108 "_law_fate_told" ["_law_swarm"]
 LF:am K mg 109 "_law_says" ["_law_swarm","_law_paper","_law_due"]
 KD:am K mg 110 "_law_drawn" ["_law_pen_here","_law_rule","_law_phases"]
 Ld:am K mg 111 "_law_start" ["_law_pen_here","_law_rule","_law_most"]
 h0t:mg "abs"=none
 h0q:mg "all"=none
 h0s:mg "any"=none
 h0m:mg "bool"=none
 h0l:mg "dict"=none
 h0e:mg "enumerate"=none
 h0p:mg "int"=none
 h0c:mg "isinstance"=none
 h0o:mg "len"=none
 h0n:mg "list"=none
 h0w:mg "min"=none
 h0j:mg "range"=none
 h0v:mg "set"=none
 h0r:mg "str"=none
 h0u:mg "sum"=none
 h0i:mg "tuple"=none
 h0x:mg "zip"=none
structure Txt(K:wa)(mg:.I)(a:Ad):Prop extends pc K mg where
 aan:mg "NoStand"=some (.ref a.rJ)
 L5:mg "TooLong"=some (.ref a.gg)
 aap:qo K a.rJ sZ "ValueError.__new__"=true
 aaQ:qI K (.ref a.rJ) (.ref a.gg)=some false
 aao:qo K a.gg sZ "ValueError.__new__"=true
 aad:qI K (.ref a.gg) (.ref a.gg)=some true
 eG:mg "NOUGHT"=some (.ref a.dQ)
 fv:∀H:Hp,aV K H a.dQ [.int 0,.int 1]
 fG:mg "ONE"=some (.ref a.eK)
 yP:∀H:Hp,aV K H a.eK [.int 1,.int 1]
 aaa:mg "GREATEST_FACTOR"=some (.ref a.CC)
 aac:∀H:Hp,aV K H a.CC [.int 4,.int 1]
 aae:∃t,mg "FACTOR_BOTTOM"=some (.int 8 t)
 aaf:∃t,mg "SHIFT_BOTTOM"=some (.int 12 t)
 aah:∃t,mg "MOST_WORMS"=some (.int 8 t)
 aag:∃t,mg "PHASE_BOTTOM"=some (.int 60 t)
 Li:∃t,mg "MOST_FREE"=some (.int 30 t)
 aai:∃t,mg "MOST_GLOWS"=some (.int 40 t)
 aav:mg "WORDS"=some (.ref a.C0)
 aau:∀H:Hp,aV K H a.C0 [.str "one",.str "rests",.str "drawn"]
end G
local macro_rules | `(term| ())=>`(term| by lia)
local macro_rules | `(term| ⋯)=>`(term| by decide)
local macro_rules | `(term| ∅)=>`(term| by simp)
open L2 GM in
local macro_rules | `(tactic| wtm_at "is")=>`(tactic| first
 | assumption
 | exact cf.mpr rfl
 | exact kX.mpr rfl
 | exact kK.mpr rfl
 | exact eU.mpr rfl
 | exact Is.aaJ (by assumption) (by wtm_at "same")
 | exact Is.aaC (by assumption) (by wtm_at "keep")
 | exact Is.oJ (by assumption) (by wtm_at "keep")
 | ((with_reducible apply is_tupAt);(focus assumption);(focus wtm_at "isall");wtm_at "same")
 | ((with_reducible apply is_lstAt);(focus assumption);(focus wtm_at "isall");wtm_at "same")
 | ((with_reducible apply is_dctAt);(focus assumption);wtm_at "same")
 | exact eQ 0 (G.Txt.fv (by assumption) _) rfl rfl | exact eQ 1 (G.Txt.yP (by assumption) _) rfl rfl | exact eQ 4 (G.Txt.aac (by assumption) _) rfl rfl
 | fail "is")
open L2 GM in
local macro_rules | `(tactic| wtm_at "isall")=>`(tactic| first
 | exact ai.nil
 | exact ai.cons (by wtm_at "is") (by wtm_at "isall")
 | fail "isall")
open L2 GM in
local macro_rules | `(tactic| wtm_at "ne")=>`(tactic| first
 | assumption
 | (apply WI;assumption))
open L2 GM in
local macro_rules | `(tactic| wtm_at "lst")=>`(tactic| first
 | assumption
 | exact ar.at (by assumption) (by wtm_at "lst")
 | exact Exc.at (by assumption) (by wtm_at "ne") (by wtm_at "lst")
 | fail "lst")
open L2 GM in
local macro_rules | `(tactic| wtm_at "same")=>`(tactic| first
 | assumption
 | exact ar.refl _
 | exact ar.back (by assumption) (by wtm_at "same")
 | fail "same")
open L2 GM in
local macro_rules | `(tactic| wtm_at "keep")=>`(tactic| first
 | assumption
 | exact bC.refl _
 | exact ar.keep (by assumption)
 | exact bC.back (by assumption) (by wtm_at "keep")
 | exact bC.back (ar.keep (by assumption)) (by wtm_at "keep")
 | fail "keep")
open L2 GM in
local macro_rules | `(tactic| wtm_at "exc")=>`(tactic| first
 | assumption
 | exact Exc.refl _ _
 | exact Exc.back (by assumption) (by wtm_at "exc")
 | exact Exc.back (ar.exc (by assumption)) (by wtm_at "exc")
 | fail "exc")
open L2 GM in
local macro_rules | `(tactic| wtm_at "sqf")=>`(tactic| first
 | assumption
 | exact bC.rh (by wtm_at "keep") (by assumption)
 | fail "sqf")
open L2 GM in
local macro_rules | `(tactic| wtm_at "bd")=>`(tactic| first
 | assumption
 | exact Bd.mk (n:=128) ⋯
 | exact Bd.mono (m:=128) ⟨by decide⟩ ⋯
 | exact af.t (by assumption)
 | exact af.b (by assumption)
 | exact Bd.ma () ()
 | (apply Bd.neg;wtm_at "bd")
 | (apply Bd.mul;(focus wtm_at "bd");wtm_at "bd")
 | (apply Bd.add;(focus wtm_at "bd");wtm_at "bd")
 | (apply Bd.sub;(focus wtm_at "bd");wtm_at "bd"))
open L2 GM PySem in
local macro_rules | `(tactic| wtm_at "mulok")=>`(tactic| first
 | exact uf ⋯
 | exact uL ⋯
 | exact uf (intBits_le_64 () ())
 | exact uL (intBits_le_64 () ())
 | (apply L2.aaD;(focus wtm_at "bd");(focus wtm_at "bd");(focus decide);decide))
open L2 GM PySem in
local macro_rules | `(tactic| wtm_at "side")=>`(tactic| first
 | assumption
 | decide
 | lia
 | wtm_at "mulok"
 | (refine And.intro ?_ ?_<;>wtm_at "side")
 | wtm_at "bd")
open L2 GM in
local macro_rules | `(tactic| wtm_at "gs")=>`(tactic| first
 | subst 0 zGp zGV zFH zFx zDL
 | subst 1 0 yl "side"
 | subst 0 zGs zGr zFI zE3 zE1 zGc zCk pD o_
 | with_reducible refine zCt (λ_=>?_) (λ_=>?_)
 | with_reducible refine zAp (λ_=>?_) (λ_=>?_)
 | with_reducible refine zAc (λ_=>?_) (λ_=>?_)
 | with_reducible refine zDN (λ_=>?_) (λ_=>?_)
 | subst 0 zFM zHb zF8 zD0 zDO zFP zCE zCy zC8 zDB zFA zDM zA4 zDA zCH
 | subst 1 0 zDE "is"
 | subst 1 0 zDU "is"
 | ((with_reducible apply jA);(focus(apply aE.of;wtm_at "lst"));(focus rfl))
 | ((with_reducible apply rG);(focus assumption);(focus rfl);intro hN eN lN;dsimp only[Int.reduceToNat,XX,XY]at lN)
 | subst 1 0 PB "is"
 | subst 1 0 zBe "is"
 | subst 1 0 T1 "is"
 | dsimp only[XX,XY])
set_option hygiene false in
open L2 GM in
local macro_rules | `(tactic| wtm_at "sq")=>`(tactic| with_reducible refine zCQ (λ tl_ htl_=>?_))
set_option hygiene false in
open L2 GM in
local macro_rules | `(tactic| wtm_at "tl")=>`(tactic| ((with_reducible refine zp.go (by assumption) ?_); (try clear htl_ tl_)))
open L2 GM in
local macro_rules | `(tactic| wtm_at "bdr0")=>`(tactic| first
 | assumption
 | exact af.zero
 | exact af.one
 | exact af.four
 | (apply af.add;(focus wtm_at "bdr0");wtm_at "bdr0")
 | (apply af.sub;(focus wtm_at "bdr0");wtm_at "bdr0")
 | (apply af.mul;(focus wtm_at "bdr0");wtm_at "bdr0"))
open L2 GM in
local macro_rules | `(tactic| wtm_at "bdr")=>`(tactic| first
 | assumption
 | (apply af.mono;(focus wtm_at "bdr0");(first | decide | lia)))
open L2 GM in
local macro_rules | `(tactic| wtm_at "ga1")=>`(tactic| first
 | wtm_at "gs"
 | ((with_reducible apply cJ);(focus(simp only[vK,xO];decide));(focus wtm_at "isall");intro _ _ _ _)
 | ((with_reducible apply dN);(focus(simp only[vK,xO];decide));intro _ _ _ _ _)
 | ((with_reducible apply jQ);(focus wtm_at "lst");(focus wtm_at "lst");(focus(simp only[wL,vK,xO];decide));intro _ _ _ _ _))
local macro_rules | `(tactic| wtm_at "ga")=>`(tactic| repeat' (first | wtm_at "ga1" | wtm_at "tl"))
local macro_rules | `(tactic| wtm_at "gg")=>`(tactic| repeat' (first | wtm_at "gs" | wtm_at "tl"))
local macro_rules | `(tactic| wtm_at "gt")=>`(tactic| repeat' (wtm_at "gs"))
open L2 GM in
local macro_rules | `(tactic| wtm_at "bd128")=>`(tactic| first
 | exact Bd.mono (m:=128) ⟨by decide⟩ ⋯
 | exact(Bd.ma () ()).mono ⋯)
open L2 GM in
local macro_rules | `(tactic| wtm_at "gs")=>`(tactic| first
 | subst 0 zGq zzb zzO zGZ zyO zAf zA5 zBZ zAd SA zBY zBk zGH zC4 zDg zBV zzd zzN zFb zsK zAm zCb
 | with_reducible refine zDJ (λ_ _ _ _=>?_)
 | subst 0 zCj zB2 zEM zAE zEU zAH zyC zCJ zzZ
 | subst 1 0 zyL "is"
 | subst 1 0 zCO "is"
 | subst 1 2 zDP "is"
 | subst 1 2 zDr "is"
 | ((with_reducible apply jA);(focus(apply aE.of;wtm_at "lst"));(focus rfl))
 | subst 1 2 zCq "lst" "L" "L"
 | subst 1 0 zT "is" "is"
 | subst 1 0 zET "is" "is")
open L2 GM in
local macro_rules | `(tactic| wtm_at "gs")=>`(tactic| first
 | wtm_at "sq"
 | dsimp only[L2.dq1,L2.dq2,L2.dq3,L2.dq4,L2.dq5,L2.dq6,L2.dq7,L2.dq8,L2.dq9,L2.dq10,L2.dq11,L2.dq12,L2.dq13,L2.dq14,L2.dq15,L2.dq16,L2.dq17,L2.dq18,L2.dq19,L2.dq20,L2.dq21,L2.dq22,L2.dq23,L2.dq24,L2.dq25,L2.dq26,L2.dq27,L2.dq28,L2.dq29,L2.dq30,L2.dq31,L2.dq32,L2.dq33,L2.dq34,_root_.List.cons_append,_root_.List.nil_append,_root_.List.set_cons_zero,_root_.List.set_cons_succ]
 | subst 0 L2.S1.i L2.S2.i L2.S3.i L2.S4.i L2.S5.i zF0 zFg zEY zGh
 | subst 1 0 zFr "R"
 | subst 0 zHk zCG zFz zDQ zCT zE8 zAG)
local macro_rules | `(tactic| wtm_at "nm")=>`(tactic| exact ⟨rfl,by first | exact Or.inl rfl | exact Or.inr (Or.inl rfl) | exact Or.inr (Or.inr rfl),by decide,by decide⟩)
set_option hygiene false in
local macro_rules | `(tactic| wtm_at "b2")=>`(tactic| (focus (intro vs H Q E h; obtain ⟨_,_,rfl,_⟩:=h; rfl)); (intro ii cdv A outer s H vs Q E hr h; obtain ⟨x0,x1,rfl,h⟩:=h; have hu:=hr.units))
set_option hygiene false in
local macro_rules | `(tactic| wtm_at "cl")=>`(tactic| ((clear hu); (try clear hgd); (first | dsimp only [jD,cxOfH] | dsimp only [jD] | skip)))
local macro_rules | `(tactic| k_few)=>`(tactic| wtm_at "gg")
local macro_rules | `(tactic| o_head $e)=>`(tactic| (wtm_at "gg"; refine $e))
namespace L2
open PySem
def st2:List Str->List V->St
 | N,[]=>N.map λ_=>none
 | [],v::vs=>some v::st2 [] vs
 | _::N,v::vs=>some v::st2 N vs
theorem st2e:∀(vs:.x)(N:.Q),start N vs=st2 N vs
 | [],N=>by simp[start,st2,_root_.List.map_const']
 | v::vs,[]=>by have:=st2e vs [];simp[start]at this;simp[start,st2,<-this]
 | v::vs,n::N=>by have:=st2e vs N;simp[start]at this;simp[start,st2,<-this]
end L2
local macro_rules | `(tactic| wtm_at "st")=>`(tactic| (conv=>lhs;rw[L2.st2e];dsimp only[L2.st2,List.map]))
local macro_rules | `(tactic| wtm_at "sc")=>`(tactic| exact ⟨rfl,rfl,rfl,by decide +kernel,rfl,by decide +kernel,by decide +kernel⟩)
open Lean L2 GM in
set_option hygiene false in
local macro_rules
 | `(tactic| exists $d,$c,$s:str,$t)=>do
  let n:=(s.getString.drop 1).toNat!
  let x:=(Array.range n).map λi=>mkIdent (.mkSimple s!"x{i}")
  let f:=mkIdent (.mkSimple (if s.getString.front=='c' then s.getString else if s.getString.front=='y' then "yu" else "ok"))
  let b<-`(tactic|(have hu:=hr.units;refine ⟨_,$t,?_⟩;wtm_at "cl";wtm_at "st"))
  if s.getString.front=='c' then return<-`(tactic|(refine ($d).F.$f (N:=$c) (by wtm_at "sc") rfl ?_;intro ii cdv A outer s H $x* Q E hr h;$b))
  let u<-x.mapM λ_=>`(Lean.Parser.Tactic.rcasesPatLo|_)
  let p<-x.mapM λi=>`(Lean.Parser.Tactic.rcasesPatLo|$i:ident)
  `(tactic|(refine ($d).F.$f (N:=$c) (by wtm_at "sc") ?_ ?_;(focus (intro vs H Q E h;rcases h with ⟨$[$u],*,rfl,_⟩;rfl));intro ii cdv A outer s H vs Q E hr h;rcases h with ⟨$[$p],*,rfl,h⟩;$b))
set_option hygiene false in
local macro_rules | `(tactic| wtm_at "bz")=>`(tactic| (intro _ _ _ _ _ _ us hl; first | (obtain ⟨_,rfl⟩:=zEE hl; rfl) | (obtain ⟨_,_,rfl⟩:=RV hl; rfl) | (obtain ⟨_,_,_,rfl⟩:=RB hl; rfl) | (obtain ⟨_,_,_,_,rfl⟩:=zEq hl; rfl) | (obtain ⟨_,_,_,_,_,rfl⟩:=zGo hl; rfl)))
namespace G
open PySem PySem.Spec PyProof.Rows L2 GM
section
variable{P:wK}{w:wO}{K:wa}{mg:.I}{base:wJ}{a:Ad}
variable{H:Hp}{Q:VK}{E:XK}{i j k m n r:Nat}{F b c h ra rb x y:Rat}{ds:.br}{e:wC}{ps ss xs ys:.c}{u:V}{α:Type}{left:List Nat}{p p1 q:we}{ns:.p}{us:.x}{fl:Nat->Nat}{B t:Int}{es:.am}{s':.ar}
def isInt:wC->Bool
 | .int _=>true
 | _=>false
inductive NU(K:wa)(v:V)(H:Hp)(Q:VK)(E:XK):Prop|v{d:wC}(h:.bH)(q:Q (.bl (isInt d)) H)
local macro_rules | `(tactic| wtm_at "gs")=>`(tactic| subst 1 0 NU.v "is")
theorem FI(T:.q):io P w base T.yA 1 NU:=by
 exists T.yA,["thing"],"c1",(au (aB (fj (dw (show bM _ .ao (fg K)from kq) rfl T.h0c jY (ae .L (ae (jq (v:=.ty "int") rfl T.h0p zES rfl) ah))) (gR (pG (dw (show bM _ .ao (fg K)from kq) rfl T.h0c jY (ae .L (ae (jq (v:=.ty "bool") rfl T.h0m Zs rfl) ah))))))))
 obtain@⟨d,hd,q⟩:=h;k_few
 all_goals(cases d<;>simp_all [isInt,Ia,FH])
def nU(l m:Int):wC->Bool
 | .int i=>decide (l<=i)&&decide (i<=m)
 | _=>false
theorem zvx{l m:Int}{d:wC}(h:isInt d=false):nU l m d=false:=by cases d<;>first | rfl | cases h
inductive zhn(K:wa)(u w v:V)(H:Hp)(Q:VK)(E:XK):Prop|v{l m:Int}{d:wC}(e0:u=.int l)(e1:w=.int m)(h:.bH)(q:Q (.bl (nU l m d)) H)
theorem Rk(T:.q):kw P w base T.CH 2 zhn:=by
 exists T.CH,["least","most","thing"],"c3",(au (aB (fj (ao (FI T) hr (q1 2)) (gR (zAK nM nM .L .aV .X)))))
 obtain@⟨l,m,d,rfl,rfl,hd,q⟩:=h;have hc:(∃i,d=.int i)\/isInt d=false:=by cases d<;>simp[isInt]
 rcases hc with⟨i,rfl⟩ | hn
 ·cases cf.mp hd
  have q:Q (.bl (decide (l<=i)&&decide (i<=m))) H:=q;k_few
  ·rename_i z
   rw[decide_eq_true z,Ve]at q;exact q
  ·rename_i z
   rw[decide_eq_false z,WJ]at q;exact q
  ·rename_i z;cases (show true=false from z)
 ·rw[zvx hn]at q
  k_few
  ·rename_i z1;rw[hn]at z1;cases z1
  ·exact q
inductive Ti(K:wa)(u w:V)(H:Hp)(Q:VK)(E:XK):Prop|v{a b:Int}(e0:u=.int a)(e1:w=.int b)(ha:0<=a)(hb:0<=b)(q:Q (.int (vI a b:Nat)) H)
theorem tV(T:.q):jp P w base T.oC 1 Ti:=by
 exists T.oC,["one","other","rest"],"c2",(ak (m4 w9 (iM K hu .X av) (ak (ay 2 ii (aD iN .L .X))
     (ak (ay 0 ii .X)
     (au (ay 1 ii .aV)))))
     (au (aB .L)))
 obtain@⟨a',b',rfl,rfl,ha,hb,q⟩:=h;refine zFj ?_;refine PV (λσ H'=>∃(x y:Int)(r:.bf),σ = [some (.int x),some (.int y),r]/\0<=x/\0<=y/\vI x y=vI a' b'/\H'=H) (λσ=>(R5 σ 1).toNat) ⟨a',b',none,rfl,ha,hb,rfl,rfl⟩ ?_;rintro σ H' hz;obtain⟨x,y,r,rfl,hx,hy,hg,rfl⟩:=hz;k_few
 . refine U7 ?_
   k_few;have h1:=QQ x (show y≠0 by assumption);have h2:=Qe x (show 0<y by lia);refine⟨?_,_,_,_,rfl,hy,h1,?_,rfl⟩
   . show(x % y).toNat<y.toNat
     lia
   . rw[<- hg];exact NI () hx
 . rename_i h0
   subst h0
   have e:((vI a' b':Nat):Int)=x:=by
     rw[<- hg,XZ];lia
   rw[e]at q;exact q
def bX:wC->Bool
 | .tuple [.int p,.int q]=>iO p q
 | _=>false
theorem tZ(r:Rat):bX (N r)=true:=zrF r
theorem zwA{d:wC}(h:jL d=false):bX d=false:=by
 cases d<;>first | rfl | (simp[jL]at h)
theorem zv9(h:¬ ds.length=2):bX .av=false:=by
 match ds with
 | []=>rfl
 | [_]=>simp[bX]
 | [_,_]=>exact absurd rfl h
 | _::_::_::_=>simp[bX]
theorem zsL{d:wC}(h:isInt d=false):bX (.tuple [d,e])=false:=by
 cases d<;>first | rfl | (simp[isInt]at h)
theorem zqm{d:wC}(h:isInt e=false):bX (.tuple [d,e])=false:=by
 cases d<;>cases e<;>first | rfl | (simp[isInt]at h)
theorem zqS{d:wC} : isInt d=true ↔ ∃i,d=.int i:=by cases d<;>simp[isInt]
inductive UN(K:wa)(v:V)(H:Hp)(Q:VK)(E:XK):Prop|v{d:wC}(h:.bH)(q:Q (.bl (bX d)) H)
local macro_rules | `(tactic| wtm_at "gs")=>`(tactic| subst 1 0 UN.v "is")
theorem yo(T:.q):io P w base T.oG 2 UN:=by
 exists T.oG,["thing"],"c1",(ak (aY (PW.pt (fF (cR (cz (dw (show bM _ .ao (fg K)from kq) rfl T.h0c jY (ae .L (ae (jq (v:=.ty "tuple") rfl T.h0i nv rfl) ah))))) (g_ (iM K hu (dE K T.h0o (q1 0)) av)))) (au (aB fe)) aZ)
     (ak (aY (PW.pt (fF (cR (cz (ao (FI T) hr (ae .H ah)))) (g_ (cR (cz (ao (FI T) hr (ae .H ah))))))) (au (aB fe)) aZ)
     (au (aB (fj (jk A6 .H av (dF _)) (gR (jc K hu (ao (tV T) hr (ae (dw nC rfl T.h0t nq (ae .H ah)) (ae .H ah))) av)))))))
 obtain@⟨d,hd,q⟩:=h;k_few
 . rename_i e
   rw[zwA e]at q;exact q
 . rename_i e
   obtain⟨ds,rfl⟩:=Og.mp e;refine mH hd ?_;k_few
   . rename_i e
     rw[zv9 ()]at q;exact q
   . rename_i e
     obtain⟨d0,d1,rfl⟩:∃d0 d1,ds=[d0,d1]:=by
       match ds,e with
       | [d0,d1],_=>exact⟨d0,d1,rfl⟩
       | [],e=>simp at e
       | [_],e=>simp at e
       | _::_::_::_,e=>simp at e;lia
     refine aA (j:=0) hd rfl (λy0 h0=>?_);k_few
     . rename_i e
       rw[zsL e]at q;exact q
     . rename_i e0
       obtain⟨i,rfl⟩:=zqS.mp e0;refine aA (j:=1) hd rfl (λy1 h1=>?_);k_few
       . rename_i e
         rw[zqm e]at q;exact q
       . rename_i e1
         obtain⟨j,rfl⟩:=zqS.mp e1;refine aA (j:=1) hd rfl (λy2 h2=>?_);cases cf.mp h2;k_few
         . refine aA (j:=0) hd rfl (λy3 h3=>?_)
           cases cf.mp h3;o_head aA (j:=1) hd rfl (λy4 h4=>?_);cases cf.mp h4;o_head Ti.v rfl rfl (by split<;>lia) () ?_;k_few
           have e3:bX (.tuple [.int i,.int j])=decide ((vI (if i<0 then -i else i) j:Nat)=(1:Int)):=by
             have e4:vI (if i<0 then -i else i) j=vI i j:=by
               split<;>simp
             rw[e4]
             show iO i j=_
             rename_i e5;simp only[iO,e5,decide_true,Ve];rw[vA,decide_eq_true_eq,decide_eq_true_eq];lia
           rw[e3]at q;exact q
         . rename_i e5
           have e3:bX (.tuple [.int i,.int j])=false:=by
             show iO i j=false
             simp only[iO,e5,decide_false,WJ]
           rw[e3]at q;exact q
inductive R3(K:wa)(v w:V)(H:Hp)(Q:VK)(E:XK):Prop|v(h1:Is K H v (N U))(h2:Is K H w (N Z))(b1:af 8999 U)(b2:af 8999 Z)(q:Rs K H Q (N (U+Z)))
local macro_rules | `(tactic| wtm_at "gs")=>`(tactic| subst 1 4 R3.v "is" "is" "bdr" "bdr")
theorem ie(T:.q):jp P w base T.gh 2 R3:=by
 exists T.gh,["one","other","shared","top","divisor"],"c2",(ak (ay 2 ii (ao (tV T) hr (ae .H (ae .bc ah))))
     (ak (ay 3 ii (aD cN (aD cU .H (aD fz .bc .aV)) (aD cU .bc (aD fz .H .aV))))
     (ak (ay 4 ii (ao (tV T) hr (ae (dw nC rfl T.h0t nq (q1 3)) (q1 2))))
     (au (aB (aS (ae (aD fz .au (pv 4)) (ae (aD cU (aD fz .H .aV) (aD fz .bc (pv 4))) ah))))))))
 obtain@⟨x,y,hx,hy,⟨bx1,bx2⟩,⟨by1,by2⟩,q⟩:=h;have px:=den_pos x;have py:=den_pos y;have ps:=A8 x y;have pd:=Gy x y;have c1:oX 0 (fP x y):=⟨by lia,yq bx2 (rW x y) px⟩;have c2:oX 0 (kb x y):=⟨by lia,yq (yq bx2 (rW x y) px) (DI x y) ps⟩;have f1:=nE by2 (z9 x y) ps;have f2:=nE bx2 (rW x y) ps;have f3:=nE by2 (qN (DI x y) (z9 x y)) pd;o_head Ti.v rfl rfl () () ?_;rw[show((vI .S .bv:Nat):Int)=fP x y from rfl];k_few;rw[show x.num*(y.den:Int).fdiv (fP x y)+y.num*(x.den:Int).fdiv (fP x y)=mm x y from rfl];o_head Ti.v rfl rfl (by split<;>lia) () ?_;rw[An,show((vI (mm x y) (fP x y):Nat):Int)=kb x y from rfl];k_few;exact dg (zCu x y) (zDZ x y) q
inductive SF(K:wa)(v w:V)(H:Hp)(Q:VK)(E:XK):Prop|v(h1:Is K H v (N U))(h2:Is K H w (N Z))(b1:af 8999 U)(b2:af 8999 Z)(q:Rs K H Q (N (U-Z)))
local macro_rules | `(tactic| wtm_at "gs")=>`(tactic| subst 1 4 SF.v "is" "is" "bdr" "bdr")
theorem AI(T:.q):jp P w base T.rL 3 SF:=by
 exists T.rL,["one","other"],"c2",(au (aB (ao (ie T) hr (ae .L (ae (aS (ae (gy gC .bc) (ae .bc ah))) ah)))))
 obtain@⟨x,y,hx,hy,bx,by',q⟩:=h;o_head dg (r:=-y) ∅ ∅ (λv H' s hv=>?_);o_head R3.v (by wtm_at "is") hv bx (zCr by') (λw H'' s2 hw=>?_);rw[zv1]at hw;k_few;exact q w H'' (s.trans s2) hw
inductive zva(K:wa)(v w:V)(H:Hp)(Q:VK)(E:XK):Prop|v(h1:Is K H v (N U))(h2:Is K H w (N Z))(b1:af 8999 U)(b2:af 8999 Z)(q:Rs K H Q (N (U*Z)))
local macro_rules | `(tactic| wtm_at "gs")=>`(tactic| subst 1 4 zva.v "is" "is" "bdr" "bdr")
theorem mj(T:.q):jp P w base T.kQ 2 zva:=by
 exists T.kQ,["one","other","first","second"],"c2",(ak (ay 2 ii (ao (tV T) hr (ae (dw nC rfl T.h0t nq (ae .H ah)) (ae .bc ah))))
     (ak (ay 3 ii (ao (tV T) hr (ae (dw nC rfl T.h0t nq (ae .bc ah)) (ae .H ah))))
     (au (aB (aS (ae (aD cU (aD fz .H .aV) (aD fz .bc .au)) (ae (aD cU (aD fz .H .au) (aD fz .bc .aV)) ah)))))))
 obtain@⟨x,y,hx,hy,⟨bx1,bx2⟩,⟨by1,by2⟩,q⟩:=h;have px:=den_pos x;have py:=den_pos y;have p1:=pB x y;have p2:=pB y x;have c1:oX 0 (hW x y):=⟨by lia,yq by2 (p6 x y) py⟩;have c2:oX 0 (hW y x):=⟨by lia,yq bx2 (p6 y x) px⟩;have f1:=nE bx1 (zZ x y) p1;have f2:=nE by1 (zZ y x) p2;have f3:=nE bx2 (p6 y x) p2;have f4:=nE by2 (p6 x y) p1;o_head Ti.v rfl rfl (by split<;>lia) () ?_;rw[An,show((vI x.num .bv:Nat):Int)=hW x y from rfl];o_head Ti.v rfl rfl (by split<;>lia) () ?_;rw[An,show((vI y.num .S:Nat):Int)=hW y x from rfl];k_few;exact dg (zDj x y) (zCY x y) q
inductive UU(K:wa)(v w:V)(H:Hp)(Q:VK)(E:XK):Prop|v(h1:Is K H v (N U))(h2:Is K H w (N Z))(b1:af 8999 U)(b2:af 8999 Z)(hy:Z≠0)(q:Rs K H Q (N (U / Z)))
theorem ZO(T:.q):jp P w base T.C5 3 UU:=by
 exists T.C5,["one","other","turned"],"c2",(ak (aY (eX K hu .bc av) (au GW) aZ)
     (ak (ay 2 ii (tI (dP nP .bc av (dF _)) (aS (ae .bc (ae .bc ah))) (aS (ae (gy gC .bc) (ae (gy gC .bc) ah)))))
     (au (aB (ao (mj T) hr (q2 0 2))))))
 obtain@⟨x,y,hx,hy,bx,by',hn,q⟩:=h;k_few
 . rename_i z
   exact absurd z (x_ hn)
 . rename_i z0 z
   refine dg (r:=y⁻¹) (AO z).1.symm (AO z).2.symm .bD;o_head zva.v (hx.by S1) i1 bx (zxo by' hn) .bg;rw[<- Qw]at i2;k_few;exact q v2 H2 .aM i2
 . rename_i z0 z
   have z:y.num<0:=by lia
   refine dg (r:=y⁻¹) (By z).1.symm (By z).2.symm .bD;o_head zva.v (hx.by S1) i1 bx (zxo by' hn) .bg;rw[<- Qw]at i2;k_few;exact q v2 H2 .aM i2
inductive RJ(K:wa)(v w:V)(H:Hp)(Q:VK)(E:XK):Prop|v(h1:Is K H v (N U))(h2:Is K H w (N Z))(b1:af 8999 U)(b2:af 8999 Z)(q:Q (.bl (decide (U<Z))) H)
local macro_rules | `(tactic| wtm_at "gs")=>`(tactic| subst 1 0 RJ.v "is" "is" "bdr" "bdr")
theorem iH(T:.q):jp P w base T.gJ 1 RJ:=by
 exists T.gJ,["one","other"],"c2",(au (aB (jk mQ (aD cU .H .bc) (aD cU .bc .H) (dF _))))
 obtain@⟨x,y,hx,hy,⟨bx1,bx2⟩,⟨by1,by2⟩,q⟩:=h;k_few;rw[OZ];exact q
def yp(x:Rat):Bool:=decide (0<x)&&(!decide (4<x))&&decide (.S<=8)
inductive zlK(K:wa)(v:V)(H:Hp)(Q:VK)(E:XK):Prop|v(h:Is K H v (N U))(b:af 4000 U)(q:Q (.bl (yp U)) H)
local macro_rules | `(tactic| wtm_at "gs")=>`(tactic| subst 1 0 zlK.v "is" "bdr")
theorem zr0(T:.q):io P w base T.KW 2 zlK:=by
 exists T.KW,["a"],"c1",(au (aB (fj (ao (iH T) hr (ae .G (q1 0))) (fj (pG (ao (iH T) hr (ae (ck (v:=.ref a.CC) rfl T.aaa rfl) (q1 0)))) (gR (jk nM .H (nI rfl T.aae) (dF _)))))))
 obtain@⟨x,hx,bx,q⟩:=h;unfold yp at q;k_few
 ·rename_i h1 h2
  rw[decide_eq_true h1,decide_eq_false h2]at q;exact q
 ·rename_i h1 h2
  rw[decide_eq_true h1,decide_eq_true h2]at q;exact q
 ·rename_i h1
  rw[decide_eq_false h1]at q;exact q
def tL(x:Rat):Bool:=(!decide (x<0))&&(!decide (1<x))&&decide (.S<=12)
inductive RU(K:wa)(v:V)(H:Hp)(Q:VK)(E:XK):Prop|v(h:Is K H v (N U))(b:af 4000 U)(q:Q (.bl (tL U)) H)
local macro_rules | `(tactic| wtm_at "gs")=>`(tactic| subst 1 0 RU.v "is" "bdr")
theorem zve(T:.q):io P w base T.Ln 2 RU:=by
 exists T.Ln,["b"],"c1",(au (aB (fj (pG (ao (iH T) hr (ae .L (ae .G ah)))) (fj (pG (ao (iH T) hr (ae .af (q1 0)))) (gR (jk nM .H (nI rfl T.aaf) (dF _)))))))
 obtain@⟨x,hx,bx,q⟩:=h;unfold tL at q;k_few
 ·rename_i h1 h2
  rw[decide_eq_false h1,decide_eq_false h2]at q;exact q
 ·rename_i h1 h2
  rw[decide_eq_false h1,decide_eq_true h2]at q;exact q
 ·rename_i h1
  rw[decide_eq_true h1]at q;exact q
def oy(x y:Rat):Bool:=yp x&&tL y && !decide (x+y<1)
def Gu(K:wa):Sp:=λvs H Q _=>∃x0 x1,vs=[x0,x1]/\((∃d e,Is K H x0 d/\Is K H x1 e/\(bX d&&bX e)=false/\Rq H Q (.bl false))\/(∃x y:Rat,Is K H x0 (N x)/\Is K H x1 (N y)/\af 1000 x/\af 1000 y/\Rq H Q (.bl (oy x y))))
theorem zqr{d:wC}{v w:V}(h1:.bH)(h2:Is K H w e)(n:(bX d&&bX e)=false)(q:Rq H Q (.bl false)):Gu K [v,w] H Q E:=⟨_,_,rfl,.inl ⟨d,e,h1,h2,n,q⟩⟩
theorem ztb{v w:V}(h1:Is K H v (N x))(h2:Is K H w (N y))(b1:af 1000 x)(b2:af 1000 y)(q:Rq H Q (.bl (oy x y))):Gu K [v,w] H Q E:=⟨_,_,rfl,.inr ⟨x,y,h1,h2,b1,b2,q⟩⟩
theorem zsZ(T:.q):cr P w base T.La 3 (Gu K):=by
 exists T.La,["a","b"],"b2",(ak (aY (PW.pt (fF (cR (cz (ao (yo T) hr (q1 0)))) (g_ (cR (cz (ao (yo T) hr (q1 1))))))) (au (aB fe)) aZ)
     (au (aB (fj (ao (zr0 T) hr (q1 0)) (fj (ao (zve T) hr (q1 1)) (gR (pG (ao (iH T) hr (ae (ao (ie T) hr (q2 0 1)) (ae .af ah))))))))))
 rcases h with⟨d,e,hd,he,hn,q⟩ | ⟨x,y,hx,hy,bx,by',q⟩
 . k_few
   . exact q _ .ax
   . exact q _ .ax
   . rename_i h1 h2
     exact absurd hn (by rw[h1,h2];decide)
 . unfold oy at q
   k_few
   . rename_i z;rw[tZ]at z;cases z
   . rename_i z;rw[tZ]at z;cases z
   . rename_i h1 h2 v H' S hv
     rw[h1,h2]at q;exact q _ S
   . rename_i h1 h2
     rw[h1,h2]at q;exact q _ .ax
   . rename_i h1
     rw[h1]at q;exact q _ .ax
def Yy:wC->Bool
 | .tuple [d,e]=>!(bX d&&bX e)
 | _=>true
theorem ztO{d:wC}(h:Yy (.tuple [d,e])=true):(bX d&&bX e)=false:=by
 have h:(!(bX d&&bX e))=true:=h;cases z:(bX d&&bX e)with
 | false=>rfl
 | true=>rw[z]at h;exact absurd h ⋯
def Zd(K:wa):Sp:=λvs H Q _=>∃x0,vs=[x0]/\((∃d,Is K H x0 d/\Yy d=true/\Rq H Q (.bl false))\/(∃x y:Rat,Is K H x0 (R x y)/\af 1000 x/\af 1000 y/\Rq H Q (.bl (oy x y))))
theorem zwP{v:V}(h:Is K H v (R x y))(b1:af 1000 x)(b2:af 1000 y)(q:Rq H Q (.bl (oy x y))):Zd K [v] H Q E:=⟨_,rfl,.inr ⟨x,y,h,b1,b2,q⟩⟩
theorem zwX(T:.q):cr P w base T.Mi 4 (Zd K):=by
 exists T.Mi,["thing"],"b1",(au (aB (fj (dw (show bM _ .ao (fg K)from kq) rfl T.h0c jY (ae .L (ae (jq (v:=.ty "tuple") rfl T.h0i nv rfl) ah))) (fj (jc K hu (dE K T.h0o (q1 0)) av) (gR (ao (zsZ T) hr (ae .H (ae .H ah))))))))
 rcases h with⟨d,hd,hn,q⟩ | ⟨x,y,hr,bx,by',q⟩
 ·k_few
  ·rename_i e
   obtain⟨ds,rfl⟩:=Og.mp e;refine mH hd ?_;k_few
   ·rename_i e
    obtain⟨d0,d1,rfl⟩:∃d0 d1,ds=[d0,d1]:=by
     match ds,e with
     | [d0,d1],_=>exact⟨d0,d1,rfl⟩
     | [],e=>simp at e
     | [_],e=>simp at e
     | _::_::_::_,e=>simp at e;lia
    refine aA (j:=0) hd rfl (λy0 h0=>?_);o_head aA (j:=1) hd rfl (λy1 h1=>?_);o_head zqr h0 h1 (ztO hn) (λH' S=>?_);k_few;exact q _ S
   ·exact q _ .ax
  ·exact q _ .ax
 ·k_few
  refine ztb .bo .bo bx by' (λH' S=>?_);k_few;exact q _ S
def s_(x:Rat):Str:=if 1<x then "rising" else if x=1 then "even" else "falling"
inductive zxe(K:wa)(v:V)(H:Hp)(Q:VK)(E:XK):Prop|v(h:Is K H v (R U Z))(b:af 4000 U)(q:Q (.str (s_ U)) H)
theorem SG(T:.q):io P w base T.C4 2 zxe:=by
 exists T.C4,["rule"],"c1",(ak (aY (cz (ao (iH T) hr (ae .af (ae .H ah)))) (au (aB fJ)) aZ)
     (ak (aY (eX K hu .H .af) (au (aB fJ)) aZ)
     (au (aB fJ))))
 obtain@⟨x,y,hx,bx,q⟩:=h;unfold s_ at q;k_few
 . rename_i h1
   rw[if_pos h1]at q;exact q
 . rename_i h1 _ _ h2
   rw[if_neg h1,if_pos h2]at q;exact q
 . rename_i h1 _ _ h2
   rw[if_neg h1,if_neg h2]at q;exact q
inductive Eo(K:wa)(v u:V)(H:Hp)(Q:VK)(E:XK):Prop|v{n:Int}(e1:u=.int n)(h1:Is K H v (R U Z))(b1:af 4000 U)(b2:af 4000 Z)(h0:0<=n)(h64:n<=64)(f1:∀S,S<=n.toNat->af 4000 (U^S))(f2:∀S,S<=n.toNat->af 4000 (az U Z S))(q:Rs K H Q (R (U^n.toNat) (az U Z n.toNat)))
theorem HE{a:Rat}{n:Int}{v:V}(h1:Is K H v (R a b))(b1:af 10 a)(b2:af 10 b)(h0:0<=n)(h64:n<=64)(q:Rs K H Q (R (a^n.toNat) (az a b n.toNat))):Eo K v (.int n) H Q E :=
 Eo.v rfl h1 (b1.mono ⋯) (b2.mono ⋯) h0 h64 (λi hi=>(b1.pow i).mono ()) (λi hi=>(b1.az b2 i).mono ()) q
theorem zR(T:.q):jp P w base T.rK 3 Eo:=by
 exists T.rK,["rule","many","factor","shift","done"],"c2",(ak (ay 2 ii .af)
     (ak (ay 3 ii .G)
     (ak (eA w9 rfl (fA rfl T.h0j (q1 1)) (cV (i:=4) ii rfl .y) (ak (ay 2 ii (ao (mj T) hr (ae .H (q1 2))))
     (au (ay 3 ii (ao (ie T) hr (ae (ao (mj T) hr (ae .H (q1 3))) (ae .H ah)))))))
     (au (aB (aS (q2 2 3)))))))
 obtain@⟨r,s',n,rfl,hr',ba,bb,h0,h64,f1,f2,q⟩:=h;o_head iA (n:=n) () () (λi σ H'=>∃(f g:V)(o:.bf),σ = [some x0,some (.int n),some f,some g,o]/\ar H H'/\Is K H' f (N (r^i))/\Is K H' g (N (az r s' i))) ⟨_,_,_,rfl,ar.refl H,by rw[VF];exact pk.mpr ⟨_,rfl,T.yP H⟩,pk.mpr ⟨_,rfl,T.fv H⟩⟩ ?_ ?_
 . rintro i σ H' hi hz;obtain⟨f,g,o,rfl,S1,hf,hg⟩:=hz
   have hr1:=hr'.by S1;have bf:af 4000 (r^i):=f1 i ();have bg:af 4000 (az r s' i):=f2 i ();have bg2:af 8999 (r*az r s' i):=(ba.mul bg).mono ⋯;o_head ⟨_,_,_,rfl,S1.trans (ar.trans .bo (ar.trans .bo .bo)),?_,?_⟩
   . rw[WS,qh]
     wtm_at "is"
   . wtm_at "is"
 . rintro σ H' hz;obtain⟨f,g,o,rfl,S1,hf,hg⟩:=hz
   wtm_at "ga";exact q _ _ (S1.trans .bo) .bo
inductive Ze(K:wa)(v w:V)(H:Hp)(Q:VK)(E:XK):Prop|v(h1:Is K H v (R f g))(h2:Is K H w (N U))(b1:af 700 f)(b2:af 1500 g)(b3:af 8100 U)(q:Rs K H Q (N (f*U+g)))
theorem Z7(T:.q):jp P w base T.CO 3 Ze:=by
 exists T.CO,["push","x"],"c2",(au (aB (ao (ie T) hr (ae (ao (mj T) hr (ae .H (q1 1))) (ae .H ah)))))
 obtain@⟨f,g,x,hp,hx,bf,bg,bx,q⟩:=h;k_few;rename_i hz;exact q _ _ (ar.trans .bo .bo) hz
def BI(K:wa):Sp:=λvs H Q _=>∃x0,vs=[x0]/\((∃d,Is K H x0 d/\bX d=false/\Q (.bl false) H)\/(∃x:Rat,Is K H x0 (N x)/\af 4000 x/\Q (.bl (kY x)) H))
theorem ztf{d:wC}{v:V}(h:.bH)(n:bX d=false)(q:Q (.bl false) H):BI K [v] H Q E:=⟨_,rfl,.inl ⟨d,h,n,q⟩⟩
theorem zuS{v:V}(h:Is K H v (N x))(b:af 4000 x)(q:Q (.bl (kY x)) H):BI K [v] H Q E:=⟨_,rfl,.inr ⟨x,h,b,q⟩⟩
theorem ztH(T:.q):cr P w base T.Ls 3 (BI K):=by
 exists T.Ls,["thing"],"b1",(ak (aY (PW.pt (fF (cR (cz (ao (yo T) hr (q1 0)))) (g_ (cz (ao (iH T) hr (ae .L (ae .G ah))))))) (au (aB fe)) aZ)
     (au (aB (fj (ao (iH T) hr (ae .L (ae .af ah))) (gR (jk nM .H (nI rfl T.aag) (dF _)))))))
 rcases h with⟨d,hd,hn,q⟩ | ⟨x,hx,bx,q⟩
 . k_few
   . exact q
   . rename_i e;rw[hn]at e;cases e
 . unfold kY at q
   k_few
   . rename_i z;rw[tZ]at z;cases z
   . rename_i h1
     rw[decide_eq_true h1]at q;exact q
   . rename_i h1 h2
     rw[decide_eq_false h1,decide_eq_true h2]at q;exact q
   . rename_i h1 h2
     rw[decide_eq_false h1,decide_eq_false h2]at q;exact q
def gF:wC->Bool
 | .tuple [.int p,.int q]=>iO p q&&kY (wB p q)
 | _=>false
theorem OO(x:Rat):gF (N x)=kY x:=by
 show(iO x.num x.den&&kY (wB x.num x.den))=kY x
 rw[zrF,VE,Ve]
theorem zvT{d:wC}(h:bX d=true):∃x:Rat,d=N x:=by
 match d with
 | .tuple [.int p,.int q] =>
  obtain⟨r,e1,e2⟩:=zsB (show iO p q=true from h);exact⟨r,by rw[e1,e2];rfl⟩
 | .none=>simp[bX]at h
 | .bool _=>simp[bX]at h
 | .int _=>simp[bX]at h
 | .str _=>simp[bX]at h
 | .list _=>simp[bX]at h
 | .dict _=>simp[bX]at h
 | .tuple []=>simp[bX]at h
 | .tuple [_]=>simp[bX]at h
 | .tuple (_::_::_::_)=>simp[bX]at h
 | .tuple [.none,_]=>simp[bX]at h
 | .tuple [.bool _,_]=>simp[bX]at h
 | .tuple [.str _,_]=>simp[bX]at h
 | .tuple [.tuple _,_]=>simp[bX]at h
 | .tuple [.list _,_]=>simp[bX]at h
 | .tuple [.dict _,_]=>simp[bX]at h
 | .tuple [.int _,.none]=>simp[bX]at h
 | .tuple [.int _,.bool _]=>simp[bX]at h
 | .tuple [.int _,.str _]=>simp[bX]at h
 | .tuple [.int _,.tuple _]=>simp[bX]at h
 | .tuple [.int _,.list _]=>simp[bX]at h
 | .tuple [.int _,.dict _]=>simp[bX]at h
theorem zDX{d:wC}(h:bX d=false):gF d=false:=by
 unfold gF
 split
 ·rename_i p q
  rw[show iO p q=false from h];rfl
 ·rfl
theorem Su{d:wC}{v:V}(h:.bH)(b:∀x,d=N x->af 4000 x)(q:Q (.bl (gF d)) H):BI K [v] H Q E:=by
 cases e:bX d with
 | false=>rw[zDX e]at q;exact ztf h e q
 | true =>
  obtain⟨x,rfl⟩:=zvT e;rw[OO]at q;exact zuS h (b x rfl) q
def Rn(K:wa):Sp:=λvs H Q _=>∃x0,vs=[x0]/\((∃d,Is K H x0 d/\(mK d || jL d)=false/\Rq H Q (.bl false))\/(∃ds,(Is K H x0 (.list ds)\/Is K H x0 .av)/\(∀e∈ds,∀x,e=N x->af 4000 x)/\Rq H Q (.bl (decide (1<=ds.length)&&decide (ds.length<=8)&&ds.all gF))))
theorem zqC{v:V}(h:Is K H v (.list ds)\/Is K H v .av)(b:∀e∈ds,∀x,e=N x->af 4000 x)(q:Rq H Q (.bl (decide (1<=ds.length)&&decide (ds.length<=8)&&ds.all gF))):Rn K [v] H Q E:=⟨_,rfl,.inr ⟨ds,h,b,q⟩⟩
theorem zqv(T:.q):cr P w base T.Kw 4 (Rn K):=by
 exists T.Kw,["thing"],"b1",(ak (aY (PW.pt (fF (cR (cz (dw (show bM _ .ao (IH K)from zw6) rfl T.h0c jY (ae .L (ae (aS (ae (jq (v:=.ty "list") rfl T.h0n h_ rfl) (ae (jq (v:=.ty "tuple") rfl T.h0i nv rfl) ah))) ah))))) (g_ (cR (zBv nM nM av (dE K T.h0o (q1 0)) (nI rfl T.aah)))))) (au (aB fe)) aZ)
     (au (aB (dw (show bM _ (.builtin "all") (mW K)from rE rfl) rfl T.h0q pj (ae (d4 rfl (cW ["one"] [none]) (Hl .L) .U .an (λ_ _ _ _ _=>(ao (ztH T:) hr (q1 0)))) ah)))))
 rcases h with⟨d,hd,hn,q⟩ | ⟨ds,hd,bd,q⟩
 . k_few
   refine nS ∅ (λtp H1 _ S1 e1=>?_);o_head Jc (hd.by S1) e1 ?_;rw[hn];k_few;exact q H1 S1
 . rcases hd with hd | hd
   . k_few
     refine nS ∅ (λtp H1 _ S1 e1=>?_);o_head Jc (hd.by S1) e1 ?_;rw[show(mK (.list ds) || jL (.list ds))=true from rfl];obtain⟨ap,us,rfl,hs,tu⟩:=cq.mp (hd.by S1);have hul:=tu.length;o_head gE hs ?_;rw[hul];k_few
     . rename_i z0 z
       have:=q H1 S1;rw[decide_eq_false (show ¬ ds.length<=8 by lia),Q5,WJ]at this;exact this
     . rename_i z0 z
       have h1:1<=ds.length:=by lia
       have h8:ds.length<=8:=by lia
       refine .inl (j6 (o0:=none) (tl:=[]) hs rfl (λj y H'=>y=.bl (gF (ds.getD j .none))) ?_ ?_)
       . intro D i x ys o H2 hx inv
         obtain⟨hi,ix⟩:=mE tu hx;o_head Su (ix.by inv.same) (λx e=>bd _ (getD_mem hi) x e) ?_;k_few;exact d_ inv () (λ_ _ _ _ _ z=>z) ⟨_,rfl⟩ .ax rfl
       . intro D ys H2 hn S2 hD hl hr
         have hys:ys=(ds.map gF).map V.bl:=by
           refine W4 (by rw[hl,hul,wl,wl]) λj h1 h2=>?_
           have:=hr j ys[j] (wc h1);rw[this,Vx,Vx,wb,wc]
           rfl
         subst hys;o_head oA (.of hD) ?_;k_few;have e:(ds.map gF).all id=ds.all gF:=by rw[XU];rfl
         have:=q H2 .aM;rw[decide_eq_true h1,decide_eq_true h8,<- e]at this;exact this
     . rename_i z
       have:=q H1 S1;rw[decide_eq_false (show ¬ 1<=ds.length by lia),WJ,WJ]at this;exact this
   . k_few
     refine nS ∅ (λtp H1 _ S1 e1=>?_);o_head Jc (hd.by S1) e1 ?_;rw[show(mK .av || jL .av)=true from rfl];obtain⟨ap,us,rfl,hs,tu⟩:=bY.mp (hd.by S1);have hul:=tu.length;o_head R1 hs ?_;rw[hul];k_few
     . rename_i z0 z
       have:=q H1 S1;rw[decide_eq_false (show ¬ ds.length<=8 by lia),Q5,WJ]at this;exact this
     . rename_i z0 z
       have h1:1<=ds.length:=by lia
       have h8:ds.length<=8:=by lia
       refine .inr (jz (o0:=none) (tl:=[]) hs rfl (λj y H'=>y=.bl (gF (ds.getD j .none))) ?_ ?_)
       . intro D i x ys o H2 hx inv
         obtain⟨hi,ix⟩:=mE tu hx;o_head Su (ix.by inv.same) (λx e=>bd _ (getD_mem hi) x e) ?_;k_few;exact d_ inv () (λ_ _ _ _ _ z=>z) ⟨_,rfl⟩ .ax rfl
       . intro D ys H2 hn S2 hD hl hr
         have hys:ys=(ds.map gF).map V.bl:=by
           refine W4 (by rw[hl,hul,wl,wl]) λj h1 h2=>?_
           have:=hr j ys[j] (wc h1);rw[this,Vx,Vx,wb,wc]
           rfl
         subst hys;o_head oA (.of hD) ?_;k_few;have e:(ds.map gF).all id=ds.all gF:=by rw[XU];rfl
         have:=q H2 .aM;rw[decide_eq_true h1,decide_eq_true h8,<- e]at this;exact this
     . rename_i z
       have:=q H1 S1;rw[decide_eq_false (show ¬ 1<=ds.length by lia),WJ,WJ]at this;exact this
theorem zyv{a:Rat}(h:.aH):oy a b=true:=by
 obtain⟨h1,h2,h3,h4,h5,h6,h7⟩:=h;have k2:¬ (4:Rat)<a:=W6.mpr h2;have k4:¬ b<0:=W6.mpr h4;have k5:¬ (1:Rat)<b:=W6.mpr h5;have k7:¬ a+b<1:=W6.mpr h7;have k3:.D<=8:=by lia
 have k6:.aU<=12:=by lia
 simp[oy,yp,tL,h1,k2,k3,k4,k5,k6,k7]
theorem zER(h:∀x∈xs,fB x):(xs.map N).all gF=true:=by
 rw[Wk];intro d hd;obtain⟨x,hx,rfl⟩:=wQ.mp hd;rw[OO];exact(h x hx).is
theorem zCw(h:∀x∈xs,fB x):∀e∈xs.map N,∀x,e=N x->af 4000 x:=by
 intro e he x hx;obtain⟨y,hy,rfl⟩:=wQ.mp he;rw[<- zG2 hx];exact(h y hy).d6.mono ⋯
inductive YA(K:wa)(v w:V)(H:Hp)(Q:VK)(E:XK):Prop|v(h1:Is K H v (R U Z))(ok:aM U Z)(h2:Is K H w (LN S)\/Is K H w (TN S))(h3:1<=S.length)(h4:S.length<=8)(h5:∀W∈S,fB W)(q:Rs K H Q (bG U Z S))
theorem zvg(T:.q):jp P w base T.LB 5 YA:=by
 exists T.LB,["rule","phases"],"c2",(ak (aY (cR (cz (ao (zwX T) hr (q1 0)))) (au GW) aZ)
     (ak (aY (cR (cz (ao (zqv T) hr (q1 1)))) (au GW) aZ)
     (au (aB (aS (ae .L (ae (fi K T.h0i (q1 1)) ah)))))))
 obtain@⟨ra,rb,xs,hr,ok,hp,h1,h8,hph,q⟩:=h;o_head zwP hr (ok.ba.mono ⋯) (ok.bb.mono ⋯) (λH1 S1=>?_);rw[zyv ok];k_few;have hp1:Is K H1 x1 (LN xs)\/Is K H1 x1 (TN xs):=hp.imp (λz=>z.by S1) (λz=>z.by S1);refine zqC (ds:=xs.map N) hp1 (zCw hph) (λH2 S2=>?_);rw[zER hph,wl,decide_eq_true h1,decide_eq_true h8,show(true&&true&&true)=true from rfl];have hp2:Is K H2 x1 (LN xs)\/Is K H2 x1 (TN xs):=hp1.imp (λz=>z.by S2) (λz=>z.by S2);have hr2:Is K H2 x0 (R ra rb):=(hr.by S1).by S2;k_few;rcases hp2 with z | z
 . refine gP z (λw H3 S3 i3=>?_)
   o_head cJ (ds:=[R ra rb,TN xs]) ∅ (.cons (hr2.by S3) (.cons i3 .nil)) (λv H4 S4 i4=>?_);exact q v H4 (S1.trans (S2.trans (S3.trans S4))) i4
 . refine Y3 z ?_
   o_head cJ (ds:=[R ra rb,TN xs]) ∅ (.cons hr2 (.cons z .nil)) (λv H4 S4 i4=>?_);exact q v H4 (S1.trans (S2.trans S4)) i4
inductive Z8(K:wa)(v:V)(H:Hp)(Q:VK)(E:XK):Prop|v(h:Is K H v (LN U)\/Is K H v (TN U))(h1:1<=U.length)(b:∀Z,af 4000 (U.getD Z 0))(q:∀v,Is K H v (N (a_ U))->Q v H)
theorem Oa(T:.q):io P w base T.CS 2 Z8:=by
 exists T.CS,["phases","told","phase"],"c1",(ak (ay 1 ii .H)
     (ak (eA w9 rfl (Hl .L) (cV (i:=2) ii rfl .y) (au (aY (cz (ao (iH T) hr (q2 1 2))) (au (ay 1 ii .aV)) aZ)))
     (au (aB .X))))
 obtain@⟨xs,hx,h1,bx,q⟩:=h;rcases hx with hx | hx
 . obtain⟨ap,us,rfl,hs,tu⟩:=cq.mp hx
   have hul:us.length=xs.length:=by rw[tu.length,wl]
   o_head gY hx ⋯ () (λv0 i0=>?_);have i0:Is K H v0 (N (mx (xs.getD 0 0) [])):=i0;o_head .inl (pS hs (λi σ H'=>∃o v,σ = [some (.ref ap),some v,o]/\H'=H/\Is K H v (N (mx (xs.getD 0 0) (xs.take i)))) ⟨_,v0,rfl,rfl,by rw[Q6];exact i0⟩ (λi σ H' _ h=>by obtain⟨_,_,_,rfl,_⟩:=h;exact hs) ?_ ?_)
   . rintro i x σ H' hx' hz;obtain⟨o,v,rfl,rfl,iv⟩:=hz
     obtain⟨hi,ix⟩:=cw tu hx';have b1:=zg bx h1 i;have b2:=bx i;k_few
     . rename_i z
       exact⟨_,x,rfl,rfl,by rw[gv hi,mU,if_pos z];exact ix⟩
     . rename_i z
       exact⟨_,v,rfl,rfl,by rw[gv hi,mU,if_neg z];exact iv⟩
   . rintro σ H' hz;obtain⟨o,v,rfl,rfl,iv⟩:=hz
     rw[hul,Wj]at iv;k_few;exact q v iv
 . obtain⟨ap,us,rfl,hs,tu⟩:=bY.mp hx
   have hul:us.length=xs.length:=by rw[tu.length,wl]
   o_head yY hx ⋯ () (λv0 i0=>?_);have i0:Is K H v0 (N (mx (xs.getD 0 0) [])):=i0;o_head .inr (Ou hs (λi σ H'=>∃o v,σ = [some (.ref ap),some v,o]/\H'=H/\Is K H v (N (mx (xs.getD 0 0) (xs.take i)))) ⟨_,v0,rfl,rfl,by rw[Q6];exact i0⟩ (λi σ H' _ h=>by obtain⟨_,_,_,rfl,_⟩:=h;exact hs) ?_ ?_)
   . rintro i x σ H' hx' hz;obtain⟨o,v,rfl,rfl,iv⟩:=hz
     obtain⟨hi,ix⟩:=cw tu hx';have b1:=zg bx h1 i;have b2:=bx i;k_few
     . rename_i z
       exact⟨_,x,rfl,rfl,by rw[gv hi,mU,if_pos z];exact ix⟩
     . rename_i z
       exact⟨_,v,rfl,rfl,by rw[gv hi,mU,if_neg z];exact iv⟩
   . rintro σ H' hz;obtain⟨o,v,rfl,rfl,iv⟩:=hz
     rw[hul,Wj]at iv;k_few;exact q v iv
inductive Za(K:wa)(w u:V)(H:Hp)(Q:VK)(E:XK):Prop|v(h1:Is K H w (TN U))(h2:Is K H u (N v))(hl:U.length<=900)(q:∀u H',ar H H'->Is K H' u (TW (fc U v))->Q u H')
theorem zt3(T:.q):jp P w base T.LV 1 Za:=by
 exists T.LV,["phases","phase"],"c2",(au (aB (fi K T.h0i (ae (d4 rfl (cW ["worm","own","phase"] [none,none,some 1]) (Rl rfl T.h0e (q1 0)) (λ_ _ _ _ _=>by exact(show PG _ _ (mF K 2 _)from jm (n:=2) rfl (dZ (cC 0) (dZ (cC 1) jo)))) (λ_ _ _ _ _=>(mq (eX K hu .X .aV))) (λ_ _ _ _ _=>.L)) ah))))
 obtain@⟨xs,v,hx,hv,hl,q⟩:=h;obtain⟨ap,us,rfl,hu',tu⟩:=bY.mp hx;have hul:us.length=xs.length:=by rw[tu.length,wl]
 o_head zuv hu' (λD i ys σ' H'=>(∃o1 o2,σ'=[o1,o2,some x1])/\H D=none/\ar H H'/\H' D=some (.lst (vz ((wp i).filter λw=>decide (xs.getD w 0=v))))) (λD H' n s e=>⟨⟨_,_,rfl⟩,n,s,e⟩) (λD i ys σ' H' h=>h.2.2.1.j_ hu') ?_ ?_
 ·rintro D i x ys σ' H1 c H2 hx' ⟨⟨o1,o2,rfl⟩,n,S1,e1⟩ hc S2 e2
  obtain⟨hi,ix⟩:=cw tu hx';have T2:=S1.trans S2;have ix2:=ix.by T2;have hv2:=hv.by T2;have e12:=S2 _ _ e1
  have hfl:((wp i).filter λw=>decide (xs.getD w 0=v)).length<=i:=by
   have:=vZ (λw=>decide (xs.getD w 0=v)) (wp i);rw[vi]at this;exact this
  refine kG (.of e2) rfl ?_;k_few
  ·rename_i z
   refine jU e12 (by rw[hZ];lia) (λH6 E6 e6=>⟨⟨_,_,rfl⟩,n,T2.grow n E6,?_⟩);rw[lP (n:=i),decide_eq_true z,if_pos rfl,tT];exact e6
  ·rename_i z
   refine⟨[],⟨_,_,rfl⟩,n,T2,?_⟩;rw[lP (n:=i),decide_eq_false z,if_neg ⋯,vS];exact e12
 ·rintro D ys σ' H1 hz;obtain⟨_,n,S1,e1⟩:=hz
  rw[hul]at e1;o_head yk (.of e1) (λl H2 n2 S2 e3=>?_);exact q _ H2 .aM (zE.mpr ⟨l,rfl,.of e3⟩)
inductive Zg(K:wa)(v:V)(H:Hp)(Q:VK)(E:XK):Prop|v(h:Is K H v (bG U Z S))(h8:S.length<=8)(bx:∀W,af 4000 (S.getD W 0))(q:∀l H' Y,H l=none->ar H H'->H' l=some (.lst Y)->ai K H' Y ((aj S).map (lu S))->Q .al H')
theorem Hx(b:∀i,af m .ai)(h:x∈xs):af m x:=by
 obtain⟨j,hj,rfl⟩:=wX h;have:=b j;rw[wb,wc hj]at this;exact this
theorem zyZ{β:Type}(f : α -> β)(l:.aY):(!(l.map f).isEmpty) = !l.isEmpty:=by cases l<;>rfl
theorem G7(T:.q):io P w base T.yD 3 Zg:=by
 exists T.yD,["swarm","told","left","phase"],"c1",(ak (ay 1 ii (dG ah))
     (ak (ay 2 ii (iS (show bM _ (.type "list") (gc K)from jI) rfl T.h0n h_ (ae .H ah)))
     (ak (m4 w9 (A9 .aV) (ak (ay 3 ii (ao (Oa T) hr (q1 2)))
     (ak (jK (i_ vP vU vV jh .X (ae (aS (ae .au (ae (ao (zt3 T) hr (ae .H (q1 3))) ah))) ah)))
     (au (kJ (i:=2) ii rfl .y rfl (cW ["other","phase"] [none,some 3]) (fC .aV) .U (λ_ _ _ _ _=>(mq (iM K hu .L .X))) (λ_ _ _ _ _=>.L))))))
     (au (aB .X)))))
 obtain@⟨ra,rb,xs,hw,h8,bx,q⟩:=h;o_head dN ∅ (λlt H1 n1 S1 e1=>?_);o_head aA (j:=1) (hw.by S1) rfl (λvp ip=>?_);o_head rV ip (λll H2 us n2 S2 e2 t2=>?_);have nlt:ll≠lt:=λz=>by subst z;rw[e1]at n2;cases n2
 o_head rf (λm σ' H'=>∃(ll:we)(left done:List Rat)(us ws:.x)(f:Nat)(o3:.bf),σ'=[some x0,some (.ref lt),some (.ref ll),o3]/\m=left.length/\ar H H'/\ll≠lt/\H' lt=some (.lst ws)/\ai K H' ws (done.map (lu xs))/\H' ll=some (.lst us)/\ai K H' us (left.map N)/\(∀y∈left,y∈xs)/\left.length<=f/\done.length+left.length<=xs.length/\done++gA f left=aj xs) _ ⟨ll,xs,[],us,[],xs.length,_,rfl,rfl,S1.trans S2,nlt,S2 _ _ e1,.nil,e2,t2,λy h=>h,wo _,by simp,rfl⟩ ?_;rintro m σ' H3 hz;obtain⟨ll,left,done,us,ws,f,o3,rfl,rfl,S3,nl,et,tt',el,tl',sub,hf,hdl,heq⟩:=hz;o_head GY (b_ el tl') ?_;rw[zyZ]
 by_cases he:left=[]
 . rw[show(!left.isEmpty)=false by rw[he];rfl]
   refine o_ ?_;rw[he,yj,vS]at heq;rw[heq]at tt';k_few;exact q lt H3 ws n1 S3 et tt'
 . rw [show (!left.isEmpty) = true by cases left with
       | nil=>exact absurd rfl he
       | cons y l=>rfl]
   refine pD ?_;refine pY ?_;have hpos:=WE.mpr he
   have bl:∀i,af 4000 (left.getD i 0):=λi=>by
     rcases wE i left.length with z | z
     . exact Hx bx (sub _ (getD_mem z))
     . rw[wb,wN z];exact af.zero.mono ⋯
   obtain⟨f',rfl⟩:∃f',f=f'+1:=⟨f-1,by lia⟩;rw[mO he]at heq;have hless:=zt he;have hwl:=tt'.length;rw[wl]at hwl;o_head Z8.v (.inl (b_ el tl')) hpos bl (λvm im=>?_);o_head gU (aE.of et) ?_;o_head aA (j:=1) (hw.by S3) rfl (λvq iq=>?_);o_head Za.v iq im () (λv4 H4 S4 i4=>?_);o_head cJ (ds:=[N (a_ left),TW (fc xs (a_ left))]) ∅ (.cons (im.by S4) (.cons i4 .nil)) (λv5 H5 S5 i5=>?_);k_few;have T5:=S4.trans S5;refine iI (T5 _ _ et) () (λH6 E6 e6=>?_);have K6:=E6.keep (T5 _ _ et);have el6:=E6 _ _ nl (T5 _ _ el);have tl6:ai K H6 us (left.map N):=ai.keep (T5.keep.trans K6) _ _ (eI _) tl'
   have tt6:ai K H6 (ws++[v5]) ((done++[a_ left]).map (lu xs)):=by
     rw[w5];exact(ai.keep (T5.keep.trans K6) _ _ (zyr ..) tt').snoc (i5.gD K6 (Th ..))
   have im6:=(im.by T5).dA K6;have S6:ar H H6:=(S3.trans T5).grow n1 E6;generalize hmx:a_ left=mxx at *;o_head pR (.of el6) (λD i ys σ' H'=>(∃o,σ'=[o,some vm])/\H6 D=none/\ar H6 H'/\H' D=some (.lst ys)/\ai K H' ys (((left.take i).filter λy=>!decide (y=mxx)).map N)) (λD H' n s e=>⟨⟨_,rfl⟩,n,s,e,.nil⟩) (λD i ys σ' H' h=>h.2.2.1.seq (.of el6)) ?_ ?_
   . rintro D i x ys σ' H7 hx hz;obtain⟨⟨o,rfl⟩,n7,S7,e7,t7⟩:=hz
     obtain⟨hi,ix⟩:=cw tl6 hx;have ix7:=ix.by S7;have im7:=im6.by S7;have hyl:=t7.length;rw[wl]at hyl;have hfl:=vZ (λy=>!decide (y=mxx)) (left.take i);rw[Wi]at hfl;k_few
     . rename_i z
       refine jU e7 () (λH8 E8 e8=>⟨⟨_,rfl⟩,n7,S7.grow n7 E8,e8,?_⟩);have K8:=E8.keep e7;rw[gv hi,Wq,Ww,decide_eq_false z,w5];exact(ai.keep K8 _ _ (eI _) t7).append (.cons (ix7.dA K8) .nil)
     . rename_i z
       refine⟨ys,⟨_,rfl⟩,n7,S7,e7,?_⟩;rw[gv hi,Wq,Ww,decide_eq_true (by first | exact z | exact Wm.mp z)];have:([]:List Rat).filter (λy=>!decide (y=mxx))=[]:=rfl
       simpa using t7
   . rintro D ys σ' H7 hz;obtain⟨_,n7,S7,e7,t7⟩:=hz
     have hul:=tl6.length;rw[wl]at hul;rw[hul,Wj]at t7;k_few;exact⟨(left.filter λy=>!decide (y=mxx)).length,by lia,D,_,done++[mxx],ys,ws++[v5],f',_,rfl,rfl,S6.trans S7,(λz=>by subst z;rw[e6]at n7;cases n7),S7 _ _ e6,ai.same S7 _ _ tt6,e7,t7,λy hy=>sub y (wZ.mp hy).1,by lia,by rw[wL];simp only[vX];lia,by rw[Vo];exact heq⟩
inductive ZR(K:wa)(u v:V)(H:Hp)(Q:VK)(E:XK):Prop|v(e0:u=.ref lw)(e:H lw=some (.lst (vz U)))(h:Is K H v (LN Z))(hw:∀S∈U,S<Z.length)(hl:U.length<=900)(b:∀W,af 4000 (Z.getD W 0))(q:Rs K H Q (TW (aC Z U)))
theorem zy7(ps:.c)(l:.aR):(aC ps l).length<=l.length:=vZ _ _
theorem Zf(T:.q):jp P w base T.CK 2 ZR:=by
 exists T.CK,["worms","phases"],"c2",(au (aB (fi K T.h0i (ae (d4 rfl (cW ["worm","phases"] [none,some 1]) (fC .L) .U (λ_ _ _ _ _=>(mq (cR (cz (ao (iH T:) hr (ae (dD (show fX _ (du K)from cZ) .X .L .aw) (ae .af ah))))))) (λ_ _ _ _ _=>.L)) ah))))
 obtain@⟨lw,left,ps,rfl,e1,hx,hw,hl,bp,q⟩:=h;o_head pR (.of e1) (λD i ys σ' H'=>(∃o,σ'=[o,some x1])/\H D=none/\ar H H'/\H' D=some (.lst (vz (aC ps (left.take i))))) (λD H' n s e=>⟨⟨_,rfl⟩,n,s,e⟩) (λD i ys σ' H' h=>h.2.2.1.seq (.of e1)) ?_ ?_
 ·rintro D i x ys σ' H1 hx' hz;obtain⟨⟨o,rfl⟩,n,S1,e2⟩:=hz
  obtain⟨hi,rfl⟩:=GS hx';have hx1:=hx.by S1;have hlt:=hw _ (We hi);have bw:=bp left[i];have hle:=zy7 ps (left.take i);have htl:(left.take i).length<=900:=by rw[Wi];lia
  o_head gY hx1 () () (λv iv=>?_);rw[wD]at iv;generalize hww:left[i]=ww at *;k_few
  ·rename_i z
   refine jU e2 (by rw[hZ];lia) (λH6 E6 e6=>⟨⟨_,rfl⟩,n,S1.grow n E6,?_⟩);rw[v_ hi,hww,zzX z,tT];exact e6
  ·rename_i z
   refine⟨[],⟨_,rfl⟩,n,S1,?_⟩;rw[v_ hi,hww,zyH (by first | exact z | exact Wm.mp z)];exact e2
 ·rintro D ys σ' H1 hz;obtain⟨_,n,S1,e2⟩:=hz
  rw[hZ,Wj]at e2;o_head yk (.of e2) (λl H2 n2 S2 e3=>?_);exact q _ H2 .aM (zE.mpr ⟨l,rfl,.of e3⟩)
inductive Of(K:wa)(v:V)(H:Hp)(Q:VK)(E:XK):Prop|v{W:Nat}(h:Is K H v (bG U Z S))(ba:af 10 U)(bb:af 10 Z)(h1:1<=S.length)(h8:S.length<=8)(c:Cm W S)(hm:W+2+21*S.length<=3950)(q:Rs K H Q (GD U Z S))
structure zEN(K:wa)(a b:Rat)(xs:.c)(m:Nat)(H H':Hp)(vw:V)(lp lv ll:we)(left:List Nat)(ps:.c)(done:.aF)(f:Nat)(pv wv:.x)(vwave:V):Prop where
 same:ar H H'
 hp:H lp=none
 hv:H lv=none
 iw:Is K H' vw (N (1-a_ xs))
 ky:lp≠lv
 Jd:ll≠lp
 Ca:ll≠lv
 ep:H' lp=some (.lst pv)
 tp:ai K H' pv (ps.map N)
 el:H' ll=some (.lst (vz left))
 ev:H' lv=some (.lst wv)
 tv:ai K H' wv (done.map TW)
 iv:Is K H' vwave (TW .aD)
 nd:left.Nodup
 lt:∀w∈left,w<xs.length
 len:ps.length=xs.length
 fl:left.length<=f
 dl:done.length+left.length<=xs.length
 cm:Cm (m+2+21*(xs.length-left.length)) ps
 w1:done++(de a b f ps left).1=cK a b xs
 w2:(de a b f ps left).2=(ee a b xs).2
def RL(K:wa)(a b:Rat)(xs:.c)(m:Nat)(H:Hp)(x0 vw:V)(lp lv:we)(k:Nat)(σ':L2.St)(H':Hp):Prop:=∃(ll:we)(left:List Nat)(ps:.c)(done:.aF)(f:Nat)(pv wv:.x)(vwave:V)(o6 o7:.bf),σ'=[some x0,some vw,some (.ref lp),some (.ref ll),some (.ref lv),some vwave,o6,o7,none]/\k=left.length/\zEN K a b xs m H H' vw lp lv ll left ps done f pv wv vwave
theorem sk{o:HO}(h:H p=none)(k:H q=some o):p≠q:=λe=>by rw[e,k]at h;cases h
theorem zyp{β γ:Type}(f : α -> β)(g : β -> γ)(l:.aY):(!((l.map f).map g).isEmpty) = !l.isEmpty:=by cases l<;>rfl
theorem zBj{l:.aY}(h:l≠[]):(!l.isEmpty)=true:=by cases l with
 | nil=>exact absurd rfl h
 | cons x l=>rfl
theorem Fs(T:.q):io P w base T.yI 4 Of:=by
 exists T.yI,["swarm","wait","phases","left","waves","wave","push","worm","anew"],"c1",(ak (ay 1 ii (ao (AI T) hr (ae .af (ae (ao (Oa T) hr (ae .H ah)) ah))))
     (ak (kJ (i:=2) ii rfl .y rfl (cW ["phase","wait"] [none,some 1]) (kf .H) .U .an (λ_ _ _ _ _=>(ao (ie T:) hr (q2 0 1))))
     (ak (ay 3 ii (ztk rfl rfl T.h0n rfl T.h0j (ae (dE K T.h0o (q1 2)) ah)))
     (ak (ay 4 ii (dG ah))
     (ak (ay 5 ii (ao (Zf T) hr (q2 3 2)))
     (ak (m4 w9 (A9 (pv 5)) (ak (jK (i_ vP vU vV jh (pv 4) (q1 5)))
     (ak (ay 3 ii (d4 rfl (cW ["worm","wave"] [none,some 5]) (fC .au) .U (λ_ _ _ _ _=>(mq (dP (show bL _ (vG .NotIn) (gu K true)from sF) .L .X .ae))) (λ_ _ _ _ _=>.L)))
     (ak (ay 6 ii (ao (zR T) hr (ae .H (ae (dE K T.h0o (q1 5)) ah))))
     (ak (eA w9 rfl (fC .au) (cV (i:=7) ii rfl .y) (au (jH (ao (Z7 T) hr (ae (pv 6) (ae (dD cZ .aV (pv 7) .aw) ah))) (nR .aV (pv 7) nZ))))
     (au (ay 5 ii (ao (Zf T) hr (q2 3 2)))))))))
     (ak (kJ (i:=8) ii rfl .y rfl (cW ["worm","phase","left"] [none,none,some 3]) (zAz rfl T.h0e (q1 2)) (λ_ _ _ _ _=>by exact(show PG _ _ (mF K 2 _)from jm (n:=2) rfl (dZ (cC 0) (dZ (cC 1) jo)))) .an (λ_ _ _ _ _=>(tI (dP (show bL _ (vG .In) (gu K false)from zAR) .L .aV .ae) .X .G)))
     (au (aB (aS (ae .X (ae (fi K T.h0i (q1 4)) (ae (aS (ae .H (ae (fi K T.h0i (q1 8)) ah))) ah)))))))))))))
 obtain@⟨ra,rb,xs,m,hw,ba,bb,h1,h8,cm,hm,q⟩:=h;have bx:∀i,af 4000 .ai:=λi=>(cm.get i).mono ()
 have bm:af 3950 (a_ xs):=(cm.d6 (f_ h1)).mono ();o_head aA (j:=1) hw rfl (λvp ip=>?_);o_head Z8.v (.inr ip) h1 bx (λvm im=>?_);k_few;rename_i vw H1 S1 iw;refine aA (j:=1) (hw.by S1) rfl (λvp1 ip1=>?_);obtain⟨ap,us,rfl,hu,tu⟩:=bY.mp ip1;refine jz (o0:=none) (tl:=[some vw]) hu rfl (λj y H'=>Is K H' y (N ((bN xs).getD j 0))) ?_ ?_
 . intro D i x ys o H2 hx inv
   obtain⟨hi,ix⟩:=cw tu hx;have S2:=inv.same;have ix2:=ix.by S2;have iw2:=iw.by S2;have bi:=bx i;have bw:af 3952 (1-a_ xs):=(af.one.sub bm).mono ⋯;k_few;rename_i v3 H3 S3 i3;exact d_ inv () eS ⟨_,rfl⟩ S3 (by rw[Ii hi];exact i3)
 . intro lp ys H2 hnp S2 hD hl hr
   have hl':ys.length=(bN xs).length:=by rw[hl,tu.length,wl,fo]
   have tp:ai K H2 ys ((bN xs).map N):=e_ hl' hr;have iw2:=iw.by S2;have T2:=S1.trans S2;have hpH:H lp=none:=fK S1 hnp;clear hl hr hu tu ip1 ip im iw S1 S2 hnp;o_head zo (b_ hD tp) ?_;rw[fo];o_head zyB (n:=xs.length) () (λll H3 n3 S3 e3=>?_);o_head dN ∅ (λlv H4 n4 S4 e4=>?_);k_few;have hD4:=S4 _ _ (S3 _ _ hD);have tp4:ai K H4 ys ((bN xs).map N):=ai.same (S3.trans S4) _ _ tp;have jX:Cm (m+2) (bN xs):=(Cm.rise (h:=0) (cm.gI (ys:=0::xs) λy hy=>by rcases wG.mp hy with rfl | hy;(exact .inr rfl);exact .inl hy) (f_ h1)).gI λy hy=>.inl (wt _ hy)
   have b3:∀i,af 4000 ((bN xs).getD i 0):=λi=>(jX.get i).mono ()
   refine ZR.v rfl (S4 _ _ e3) (b_ hD4 tp4) (λw hw'=>by rw[fo];exact wH.mp hw') (by rw[vi];lia) b3 (λvwave H5 S5 i5=>?_);have T5:=T2.trans (S3.trans .aN);have hvH:H lv=none:=fK (T2.trans S3) n4;have ky:lp≠lv:=(sk n4 (S3 _ _ hD)).symm;have Jd:ll≠lp:=sk n3 hD;have Ca:ll≠lv:=(sk n4 e3).symm
   have G0:RL K ra rb xs m H x0 vw lp lv xs.length [some x0,some vw,some (.ref lp),some (.ref ll),some (.ref lv),some vwave,none,none,none] H5:=by
     refine⟨ll,wp xs.length,bN xs,[],xs.length,ys,[],vwave,none,none,rfl,by rw[vi],T5,hpH,hvH,iw2.by (S3.trans .aN),ky,Jd,Ca,S5 _ _ hD4,ai.same S5 _ _ tp4,S5 _ _ (S4 _ _ e3),S5 _ _ e4,.nil,i5,W3,λw hw'=>wH.mp hw',fo xs,by rw[vi];exact wo _,by rw[vi];simp,jX.mono (),?_,rfl⟩;rw[qT];rfl
   clear T5 S5 S4 S3 T2 hD hD4 tp tp4 b3 jX n3 n4 e3 e4 iw2 i5 hl';o_head rf (RL K ra rb xs m H x0 vw lp lv) _ G0 ?_;clear G0 ky Jd Ca;rintro k σ' H6 hz;obtain⟨ll,left,ps,done,f,pv,wv,vwave,o6,o7,rfl,hk,G⟩:=hz;have bp:∀i,af 4000 (ps.getD i 0):=λi=>(G.cm.get i).mono (by have:=G.dl;lia)
   o_head zDx (show Is K H6 vwave (.tuple (((aC ps left).map λ(w:Nat)=>(w:Int)).map PyData.int))from G.iv) ?_;rw[zyp]
   by_cases he:aC ps left=[]
   . rw[show(!(aC ps left).isEmpty)=false by rw[he];rfl]
     refine o_ ?_;have w1:=G.w1;have w2:=G.w2;rw[ou he]at w1 w2;rw[vS]at w1;have eps:ps=(ee ra rb xs).2.2:=congrArg uw w2;have elf:left=(ee ra rb xs).2.1:=congrArg uv w2;have hph:zev left ps=dh ra rb xs:=by rw[dh,<- eps,<- elf]
     o_head zCe (.of G.ep) (o0:=none) (o0':=none) (tl:=[some (.ref ll)]) rfl (λj y H'=>Is K H' y (N ((zev left ps).getD j 0))) eS ?_ ?_
     . intro D i x zs o1 o2 H7 c hx inv hc
       obtain⟨hi,ix⟩:=cw G.tp hx;have S7:=inv.2.2.1;refine kG (.of hc) rfl ?_;o_head RF (aE.of (S7 _ _ G.el)) ?_;k_few
       . rename_i z
         exact yg inv (by have:=G.len;lia) eS ⟨_,_,rfl⟩ .ax (by rw[mT hi,if_pos z];exact ix.by S7)
       . rename_i z
         exact yg inv (by have:=G.len;lia) eS ⟨_,_,rfl⟩ .ax (by rw[mT hi,if_neg z];exact eQ 0 (T.fv _) rfl rfl)
     . intro D zs H7 hn S7 hD hl hr
       have hpl:=G.tp.length;rw[wl]at hpl;have tz:ai K H7 zs ((zev left ps).map N):=e_ (by rw[hl,IC,hpl]) hr;rw[hph]at tz;have tv:=ai.same S7 _ _ G.tv;have ev:=S7 _ _ G.ev;have iw7:=G.iw.by S7;have T7:=G.same.trans S7;rw[w1]at tv;o_head gP (cq.mpr ⟨lv,wv,rfl,.of ev,tv⟩) (λv8 H8 S8 i8=>?_);o_head aA (j:=0) (hw.by (T7.trans S8)) rfl (λv9 i9=>?_);o_head gP (b_ (S8 _ _ hD) (ai.same S8 _ _ tz)) (λv10 H10 S10 i10=>?_);o_head cJ (ds:=[R ra rb,TN (dh ra rb xs)]) ∅ (.cons (i9.by S10) (.cons i10 .nil)) (λv11 H11 S11 i11=>?_);o_head cJ (ds:=[N (1-a_ xs),pX (cK ra rb xs),bG ra rb (dh ra rb xs)]) ∅ (.cons (iw7.by (S8.trans (S10.trans S11))) (.cons (i8.by (S10.trans S11)) (.cons i11 .nil))) (λv12 H12 S12 i12=>?_);exact q v12 H12 (T7.trans (S8.trans (S10.trans (S11.trans S12)))) i12
   . rw[zBj he]
     refine pD ?_;refine pY ?_;have hwl:=G.tv.length;rw[wl]at hwl;have hdl:=G.dl;have hlen:=Bp ps left;have hpos:0<(aC ps left).length:=WE.mpr he;o_head gU (aE.of G.ev) ?_;o_head iI G.ev () (λH7 E7 e7=>?_);have K7:bC H6 H7:=E7.keep G.ev;have S7:ar H H7:=G.same.grow G.hv E7;have el7:=E7 _ _ G.Ca G.el;have ep7:=E7 _ _ G.ky G.ep;have tp7:=ai.keep K7 _ _ (eI _) G.tp;have iv7:=G.iv.gD K7 (zB _);have iw7:=G.iw.dA K7
     have tv7:ai K H7 (wv++[vwave]) ((done++[aC ps left]).map TW):=by
       rw[w5];exact(ai.keep K7 _ _ (pP _) G.tv).snoc iv7
     obtain⟨aw,rfl,hsw⟩:=zE.mp iv7;o_head pR (.of el7) (λD i ys σ' H'=>(∃o,σ'=[o,some (.ref aw)])/\H7 D=none/\ar H7 H'/\H' D=some (.lst (vz (bV (left.take i) .aD)))) (λD H' n s e=>⟨⟨_,rfl⟩,n,s,e⟩) (λD i ys σ' H' h=>h.2.2.1.seq (.of el7)) ?_ ?_
     . rintro D i x ys σ' H8 hx' hz;obtain⟨⟨o,rfl⟩,n,S8,e8⟩:=hz
       obtain⟨hi,rfl⟩:=GS hx';have hle:(bV (left.take i) .aD).length<=(left.take i).length:=vZ _ _;rw[Wi]at hle;o_head zw5 (S8.j_ hsw) ?_;generalize hww:left[i]=ww at *;k_few
       . rename_i z
         refine jU e8 (by rw[hZ];lia) (λH9 E9 e9=>⟨⟨_,rfl⟩,n,S8.grow n E9,?_⟩);rw[v_ hi,hww,zzM z,tT];exact e9
       . rename_i z
         refine⟨[],⟨_,rfl⟩,n,S8,?_⟩;rw[v_ hi,hww,zwc (by first | exact z | exact Wm.mp z)];exact e8
     . rintro D ys σ' H8 hz;obtain⟨_,n8,S8,e8⟩:=hz
       rw[hZ,Wj]at e8;have nD1:D≠lp:=sk n8 ep7;have nD2:D≠lv:=sk n8 e7;have T8:=S7.trans S8;have iv8:=iv7.by S8;o_head aA (j:=0) (hw.by T8) rfl (λvr ir=>?_);o_head OL iv8 ?_;o_head HE ir ba bb () () (λvpush H9 S9 ipush=>?_);rw[wD]at ipush;have bf:af 700 .aS:=(ba.pow _).mono ();have bg:af 1500 .ah:=(ba.az bb _).mono ();have T9:=S8.trans S9;have ep9:=T9 _ _ ep7;have tp9:ai K H9 pv (ps.map N):=ai.same T9 _ _ tp7;have e9:=S9 _ _ e8;have ev9:=T9 _ _ e7;have ndl:=rC (wave:=aC ps left) G.nd;have ltl:=pN (wave:=aC ps left) G.lt;generalize hL:bV left .aD=left' at *;o_head pS (.of e9) (λi σ'' H''=>∃o pv',σ''=[some x0,some vw,some (.ref lp),some .bx,some (.ref lv),some (.ref aw),some vpush,o,none]/\Exc lp H9 H''/\H'' lp=some (.lst pv')/\ai K H'' pv' ((cT .aS .ah ps (left'.take i)).map N)) ⟨_,pv,rfl,Exc.refl _ _,ep9,tp9⟩ (λi σ'' H'' _ ⟨_,_,_,e,_⟩=>.of (e _ _ nD1 e9)) ?_ ?_
       . rintro i x σ'' H10 hx' hz;obtain⟨o,pv',rfl,E10,e10,t10⟩:=hz
         obtain⟨hi,rfl⟩:=GS hx';have K10:bC H9 H10:=E10.keep ep9;have hlt:=ltl _ (We hi);have hpl:=iB .aS .ah (left'.take i) ps;have hps:=G.len
         have bq:af 4000 ((cT .aS .ah ps (left'.take i)).getD left'[i] 0):=by
           have nt:(left'.take i).Nodup:=ndl.sublist (X2 ..);rw[jF _ _ _ _ nt (λw hw'=>by rw[hps];exact ltl w (uE _ _ hw'))];rw[if_neg]
           . exact bp _
           . intro hm
             obtain⟨j,hj,ej⟩:=wX hm;rw[Wi]at hj;rw[X6]at ej;exact absurd ej ((WD.mp ndl) j i () hi ())
         have ip10:=ipush.gD K10 (BB _ _);generalize hww:left'[i]=ww at *;generalize hqs:cT .aS .ah ps (left'.take i)=qs at *;o_head gY (b_ e10 t10) () () (λv11 i11=>?_);rw[wD]at i11;o_head Ze.v ip10 i11 bf bg (bq.mono ⋯) (λv12 H12 S12 i12=>?_);have e12:=S12 _ _ e10;have hvl:=t10.length;rw[wl]at hvl;o_head rG (j:=ww) e12 (by unfold gQ;rw[if_pos (),if_pos ()];simp) (λH13 E13 e13=>?_);refine⟨_,_,rfl,E10.trans (S12.exc.trans E13),e13,?_⟩;have K13:=E13.keep e12;rw[v_ hi,hww,OG,hqs];refine e_ (by rw[Wz,Wz];exact hvl) (λj v hj=>?_);rw[W9]at hj
         by_cases hjw:ww=j
         . subst hjw
           rw[if_pos rfl,if_pos ()]at hj;cases hj;rw[sv ()];exact i12.dA K13
         . rw[if_neg hjw]at hj
           rw[tW hjw];obtain⟨_,ij⟩:=cw t10 hj;exact(ij.by S12).dA K13
       . rintro σ'' H10 hz;obtain⟨o,pv',rfl,E10,e10,t10⟩:=hz
         rw[hZ,Wj]at t10;have K10:bC H9 H10:=E10.keep ep9;have hps:=G.len
         have cm10:Cm (m+2+21*(xs.length-left'.length)) (cT .aS .ah ps left'):=by
           have c0:Cm (m+2+21*(xs.length-left.length)) (0::ps):=G.cm.gI λy hy=>by rcases wG.mp hy with rfl | hy;(exact .inr rfl);exact .inl hy
           exact((c0.wave ba bb (aC ps left).length ndl (λw hw'=>by rw[hps];exact ltl w hw')).gI λy hy=>.inl (wt _ hy)).mono ()
         have hpl:=iB .aS .ah left' ps;have w1:=G.w1;have w2:=G.w2;have hfl:=G.fl;obtain⟨f',rfl⟩:∃f',f=f'+1:=⟨f-1,by lia⟩;rw[jP he,hL]at w1 w2;generalize hqs:cT .aS .ah ps left'=qs at *;k_few;have e10':=E10 _ _ nD1 e9;refine ZR.v rfl e10' (b_ e10 t10) (λw hw'=>by rw[hpl,hps];exact ltl w hw') () (λi=>(cm10.get i).mono ()) (λvwave2 H11 S11 i11=>?_);k_few;have KA:=T9.keep.trans K10;refine⟨left'.length,by lia,D,left',qs,done++[aC ps left],f',pv',wv++[V.ref aw],vwave2,_,_,rfl,rfl,?_⟩;exact⟨((S7.trans T9).grow G.hp E10).trans S11,G.hp,G.hv,(iw7.dA KA).by S11,G.ky,nD1,nD2,S11 _ _ e10,ai.same S11 _ _ t10,S11 _ _ e10',S11 _ _ (E10 _ _ G.ky.symm ev9),ai.same S11 _ _ (ai.keep KA _ _ (pP _) tv7),i11,ndl,ltl,by rw[hpl];exact hps,by lia,by rw[wL];simp;lia,cm10,by rw[Vo];exact w1,w2⟩
inductive ZJ(K:wa)(v u:V)(H:Hp)(Q:VK)(E:XK):Prop|v{n:Int}(e1:u=.int n)(h:Is K H v (bG U Z S))(ba:af 10 U)(bb:af 10 Z)(h1:1<=S.length)(h8:S.length<=8)(n0:0<=n)(n1:n<=40)(c:∀W,W<=n.toNat->Cm 3700 (aF U Z S W::ag U Z S W))(q:∀l H',H l=none->ar H H'->Is K H' .al (.list (ja U Z S n.toNat))->Q .al H')
theorem zvC(T:.q):jp P w base T.L9 5 ZJ:=by
 exists T.L9,["swarm","many","rows","hour","stand","done","told"],"c2",(ak (ay 2 ii (dG ah))
     (ak (ay 3 ii .G)
     (ak (ay 4 ii .L)
     (ak (eA w9 rfl (fA rfl T.h0j (q1 1)) (cV (i:=5) ii rfl .y) (ak (ay 6 ii (ao (Fs T) hr (q1 4)))
     (ak (ay 3 ii (ao (ie T) hr (ae .au (ae (qi 6) ah))))
     (ak (ay 4 ii (qi 6))
     (au (jK (i_ vP vU vV jh .aV (ae (aS (ae .au (ae (qi 6) (ae (qi 4) ah)))) ah))))))))
     (au (aB .aV))))))
 obtain@⟨ra,rb,xs,n,rfl,hw,ba,bb,h1,h8,n0,n1,cm,q⟩:=h;o_head dN ∅ (λlr H1 nr S1 e1=>?_);o_head iA (n:=n) () () (λi σ H'=>∃vh vs o5 o6 us,σ = [some x0,some (.int n),some (.ref lr),some vh,some vs,o5,o6]/\ar H H'/\H' lr=some (.lst us)/\ai K H' us (ja ra rb xs i)/\Is K H' vh (N (aF ra rb xs i))/\Is K H' vs (bG ra rb .ac)) ⟨_,_,_,_,[],rfl,S1,e1,.nil,eQ 0 (T.fv _) rfl rfl,hw.by S1⟩ ?_ ?_
 . rintro i σ H2 hi hz;obtain⟨vh,vs,o5,o6,us,rfl,S2,e2,t2,ih,iw⟩:=hz
   have hc:=cm i ();have hpl:=aW ra rb xs i;have bh:af 3700 (aF ra rb xs i):=hc.d6 .bn;have hc':Cm 3700 .ac:=hc.gI λy hy=>.inl (wt _ hy)
   have bw:af 3702 (1-a_ .ac):=(af.one.sub (hc'.d6 (f_ ()))).mono ⋯;o_head Of.v iw ba bb () () hc' (by rw[hpl];lia) .aG;o_head aA (j:=0) i3 rfl (λv4 i4=>?_);have ih3:=ih.by S3;k_few;rename_i v5 H5 S5 i5;refine aA (j:=2) (i3.by S5) rfl (λv6 i6=>?_);have T5:=S3.trans S5;o_head gU (aE.of (T5 _ _ e2)) ?_;o_head aA (j:=1) (i3.by S5) rfl (λv7 i7=>?_);o_head aA (j:=1) i6 rfl (λv8 i8=>?_);o_head cJ (ds:=[N (aF ra rb xs (i+1)),pX (cK ra rb .ac),TN (ag ra rb xs (i+1))]) ∅ (.cons i5 (.cons i7 (.cons i8 .nil))) (λv9 H9 S9 i9=>?_);k_few;have T9:=T5.trans S9;have e9:=T9 _ _ e2;have hul:=t2.length;rw[zy6]at hul;refine iI e9 () (λH10 E10 e10=>?_);have K10:=E10.keep e9;have i10:=i9.gD K10 (S_ _ _ _)
   have t10:ai K H10 (us++[v9]) (ja ra rb xs (i+1)):=by
     rw[F5];exact(ai.keep K10 _ _ (zrQ ..) (ai.same T9 _ _ t2)).snoc i10
   exact⟨_,_,_,_,_,rfl,(S2.trans T9).grow nr E10,e10,t10,(i5.by S9).dA K10,(i6.by S9).gD K10 (zCA _ _ _)⟩
 . rintro σ H2 hz;obtain⟨vh,vs,o5,o6,us,rfl,S2,e2,t2,ih,iw⟩:=hz
   k_few;exact q lr H2 nr S2 (cq.mpr ⟨lr,us,rfl,.of e2,t2⟩)
def BD(a b:Rat)(xs:.c)(n:Nat):wC:=.tuple [N (aF a b xs n),bG a b (ag a b xs n)]
inductive zrg(K:wa)(v u:V)(H:Hp)(Q:VK)(E:XK):Prop|v{n:Int}(e1:u=.int n)(h:Is K H v (bG U Z S))(ba:af 10 U)(bb:af 10 Z)(h1:1<=S.length)(h8:S.length<=8)(n0:0<=n)(n1:n<=40)(c:∀W,W<=n.toNat->Cm 3700 (aF U Z S W::ag U Z S W))(q:Rs K H Q (BD U Z S n.toNat))
theorem nB{v:V}{d:wC}(h:Is K H v (.list (ds++[d])))(q:∀x,Is K H x d->Q x H):du K v (.int (-1)) H Q:=by
 obtain⟨a,xs,rfl,hs,t⟩:=cq.mp h;have hl:=t.length;rw[wL,vX]at hl;obtain⟨x,e1,hx⟩:=t.get (i:=ds.length) (d:=d) (by rw[vC .Y,Vm];rfl);exact jA hs (IQ (by rw[hl];exact e1)) (q x hx)
theorem zzy(T:.q):jp P w base T.MK 6 zrg:=by
 exists T.MK,["swarm","many","rows","last"],"c2",(ak (ay 2 ii (ao (zvC T) hr (q2 0 1)))
     (ak (aY (cR (A9 .aV)) (au (aB (aS (ae .G (q1 0))))) aZ)
     (ak (ay 3 ii (dD cZ .aV (gy gC av) .aw))
     (au (aB (aS (ae (qi 3) (ae (aS (ae .H (ae (qi 3) ah))) ah))))))))
 obtain@⟨ra,rb,xs,n,rfl,hw,ba,bb,h1,h8,n0,n1,cm,q⟩:=h;o_head ZJ.v rfl hw ba bb h1 h8 n0 n1 cm (λlr H1 nr S1 i1=>?_);o_head GY i1 ?_;generalize n.toNat=k at *;cases k with
 | zero =>
   rw[show(!(ja ra rb xs 0).isEmpty)=false from rfl];o_head cJ (ds:=[N 0,bG ra rb xs]) ∅ (.cons (eQ 0 (T.fv _) rfl rfl) (.cons (hw.by S1) .nil)) (λv H2 S2 i2=>?_);exact q v H2 .aM i2
 | succ k =>
   rw[F5]at i1;rw[show(!(ja ra rb xs (k+1)).isEmpty)=true by rw[F5];simp];o_head nB i1 (λv2 i2=>?_);have i2:Is K H1 v2 (Bi (aF ra rb xs (k+1)) (cK ra rb (ag ra rb xs k)) (ag ra rb xs (k+1))):=i2;o_head aA (j:=0) i2 rfl (λv3 i3=>?_);o_head aA (j:=0) (hw.by S1) rfl (λv4 i4=>?_);o_head aA (j:=2) i2 rfl (λv5 i5=>?_);o_head cJ (ds:=[R ra rb,TN (ag ra rb xs (k+1))]) ∅ (.cons i4 (.cons i5 .nil)) (λv6 H6 S6 i6=>?_);o_head cJ (ds:=[N (aF ra rb xs (k+1)),bG ra rb (ag ra rb xs (k+1))]) ∅ (.cons (i3.by S6) (.cons i6 .nil)) (λv7 H7 S7 i7=>?_);exact q v7 H7 (S1.trans (S6.trans S7)) i7
inductive RC(K:wa)(v:V)(H:Hp)(Q:VK)(E:XK):Prop|v(h:Is K H v (bG U Z S))(q:Q (.bl (decide (0∈S))) H)
theorem HW(T:.q):io P w base T.yC 1 RC:=by
 exists T.yC,["swarm"],"c1",(au (aB (jk (show bL _ (vG .In) (rZ K)from ND hu) .G .H .ae)))
 obtain@⟨ra,rb,xs,hw,q⟩:=h;o_head aA (j:=1) hw rfl (λvp ip=>?_);exact zCX (eQ 0 (T.fv _) rfl rfl) ip q
def aT(xs:.c):List Rat:=(aj xs).dropLast
def zED(xs:.c):wC:=.tuple [TZ .aI,TN .bC]
def O7(K:wa)(a:Ad):Sp:=λvs H Q E=>∃x0,vs=[x0] /\ ∃(ra rb:Rat)(xs:.c),Is K H x0 (bG ra rb xs)/\xs.length<=8/\(∀i,af 4000 .ai)/\(¬ 0∈xs->∀H',ar H H'->E (.ref a.rJ) none H')/\(0∈xs->Rs K H Q (zED xs))
theorem zC{v:V}(h:Is K H v (bG ra rb xs))(h8:xs.length<=8)(bx:∀i,af 4000 .ai)(qe:¬ 0∈xs->∀H',ar H H'->E (.ref a.rJ) none H')(q:0∈xs->Rs K H Q (zED xs)):O7 K a [v] H Q E:=⟨_,rfl,ra,rb,xs,h,h8,bx,qe,q⟩
theorem Oc:∀(n:Nat)(l:.c),(gA n l).length<=n
 | 0,l=>wo _
 | n+1,[]=>by rw[yj];simp
 | n+1,x::l=>by
  rw[mO ∅,vK];have:=Oc n ((x::l).filter λy=>!decide (y=a_ (x::l)));lia
theorem A1(T:.q):dL P w base T.rN 4 (O7 K a):=by
 exists T.rN,["swarm","rows","sizes","places"],"y1",(ak (aY (cR (cz (ao (HW T) hr (q1 0)))) (au (zvm T.aap rfl rfl T.aan Oe (ae fJ ah))) aZ)
     (ak (ay 1 ii (ao (G7 T) hr (q1 0)))
     (ak (ay 2 ii (fi K T.h0i (ae (d4 rfl (cW ["row"] [none]) (fC .X) .U .an (λ_ _ _ _ _=>(dE K T.h0o (ae (pg (K:=K) cZ .L) ah)))) ah)))
     (ak (ay 3 ii (fi K T.h0i (ae (d4 rfl (cW ["row"] [none]) (fC (mX mZ .X mD (mh (gy gC av)))) .U .an (λ_ _ _ _ _=>(pg (K:=K) cZ .L))) ah)))
     (au (aB (aS (q2 2 3))))))))
 obtain⟨ra,rb,xs,hw,h8,bx,qe,q⟩:=h;have hvl:(aj xs).length<=8:=Wb (Oc _ _) h8;o_head RC.v hw ?_;k_few
 . rename_i z
   exact⟨by simp;decide,qe z H .ax⟩
 . rename_i z
   have z:=(by first | exact z | exact Wm.mp z:0∈xs);refine Zg.v hw h8 bx (λlr H1 us n1 S1 e1 t1=>?_);have hul:=t1.length;rw[wl]at hul;o_head j6 (.of e1) (o0:=none) (tl:=[]) rfl (λj y _=>y=.int ((aR xs).getD j 0)) ?_ ?_
   . intro D j x ys o H2 hx inv
     obtain⟨hj,ix⟩:=mE t1 hx;rw[wl]at hj;rw[wb,wu,wc hj]at ix;have ix2:Is K H2 x (lu xs (aj xs)[j]):=ix.by inv.same;o_head aA (j:=1) ix2 rfl (λv3 i3=>?_);o_head OL i3 ?_;o_head d_ inv () (λ_ _ _ _ _ h=>h) ⟨_,rfl⟩ .ax ?_;unfold aR;rw[wb,wu,wc hj]
     rfl
   . intro D ys H2 hn S2 hD hl hr
     have hys:ys=(aR xs).map V.int:=NT (by rw[hl,hul];unfold aR;rw[wl]) hr;subst hys;o_head yk (.of hD) (λl3 H3 n3 S3 e3=>?_);have i3:Is K H3 (.ref l3) (TZ .aI):=rX.mpr ⟨l3,rfl,.of e3⟩;have T3:=S2.trans S3;o_head oz (cq.mpr ⟨lr,us,rfl,.of (T3 _ _ e1),ai.same T3 _ _ t1⟩) (λl4 H4 us4 n4 S4 e4 t4=>?_);rw[B8,<- Qs]at t4;o_head j6 (.of e4) (o0:=none) (tl:=[]) rfl (λj y H'=>Is K H' y (N ((aT xs).getD j 0))) ?_ ?_
     . intro D' j x ys o H5 hx inv
       obtain⟨hj,ix⟩:=mE t4 hx;have hj2:j<(aT xs).length:=by rw[wl]at hj;exact hj
       have hj8:(aT xs).length<=8:=by unfold aT;rw[QR];lia
       rw[wb,wu,wc (show j<(aj xs).dropLast.length from hj2)]at ix;have ix5:Is K H5 x (lu xs .bC[j]):=ix.by inv.same;o_head aA (j:=0) ix5 rfl (λv6 i6=>?_);o_head d_ inv () eS ⟨_,rfl⟩ .ax ?_;rw[wb,wc hj2];exact i6
     . intro D' zs H5 hn5 S5 hD5 hl5 hr5
       have hu4:=t4.length;rw[wl]at hu4;have tz:ai K H5 zs ((aT xs).map N):=e_ (by rw[hl5,hu4];rfl) hr5;o_head gP (b_ hD5 tz) (λv6 H6 S6 i6=>?_);o_head cJ (ds:=[TZ .aI,TN .bC]) ∅ (.cons (i3.by (S4.trans (S5.trans S6))) (.cons i6 .nil)) (λv7 H7 S7 i7=>?_);exact q z v7 H7 (S1.trans (T3.trans (S4.trans (S5.trans (S6.trans S7))))) i7
theorem zB8(h:.bB)(i j:Nat):af (m+2) (xs.getD i 0+(1-xs.getD j 0)):=by
 obtain⟨B,h0,h1,h2⟩:=h
 have key:∀i,∃t:Int,xs.getD i 0=wB t B/\Bd m t:=λi=>by
  rcases wE i xs.length with q | q
  ·rw[wb,wc q]
   exact h2 _ (We q)
  ·rw[wb,wN q]
   exact⟨0,by simp,⟨by simp;exact Ws m⟩⟩
 obtain⟨t,et,bt⟩:=key i;obtain⟨z,ez,bz⟩:=key j
 have e2:wB t B+(1-wB z B)=wB (t+B-z) B:=by
  symm
  refine fT () ?_;have q1:=dB t (show B≠0 by lia);have q2:=dB z (show B≠0 by lia);have q3:((t+B-z:Int):Rat)=(t:Rat)+(B:Rat)-(z:Rat):=by push_cast;rfl
  rw[q3,<- q1,<- q2]
  grind
 rw[et,ez,e2];exact af.divInt () (((bt.add h1).sub bz).mono ()) (h1.mono ())
def zg6(K:wa):Sp:=λvs H Q _=>∃x0 x1 x2 x3,vs=[x0,x1,x2,x3] /\ ∃(a b:Rat)(n i:Int)(xs:.c)(m:Nat),x1=.int n/\x3=.int i/\Is K H x0 (R a b)/\Is K H x2 (LN xs)/\af 10 a/\af 10 b/\0<=n/\n<=64/\0<=i/\i<xs.length/\xs.length<=100/\Cm m xs/\m<=8000 /\
 ∀l H' us,H l=none->ar H H'->H' l=some (.lst us)->ai K H' us ((d7 a b n.toNat xs i.toNat).map N)->Q .al H'
theorem znd{a:Rat}{n i:Int}{v w:V}(h1:Is K H v (R a b))(h2:Is K H w (LN xs))(b1:af 10 a)(b2:af 10 b)(h0:0<=n)(h64:n<=64)(i0:0<=i)(i1:i<xs.length)(hl:xs.length<=100)(hm:.bB)(hm2:m<=8000)
  (q:∀l H' us,H l=none->ar H H'->H' l=some (.lst us)->ai K H' us ((d7 a b n.toNat xs i.toNat).map N)->Q .al H'):zg6 K [v,.int n,w,.int i] H Q E:=⟨_,_,_,_,rfl,a,b,n,i,xs,m,rfl,rfl,h1,h2,b1,b2,h0,h64,i0,i1,hl,hm,hm2,q⟩
theorem zmt(T:.q):cr P w base T.JI 4 (zg6 K):=by
 exists T.JI,["rule","size","phases","turn","wait","push","told"],"b4",(ak (ay 4 ii (ao (AI T) hr (ae .af (ae (dD cZ .aV .au .aw) ah))))
     (ak (ay 5 ii (ao (zR T) hr (q2 0 1)))
     (ak (kJ (i:=6) ii rfl .y rfl (cW ["phase","push","wait"] [none,some 5,some 4]) (fC .aV) .U .an (λ_ _ _ _ _=>(ao (Z7 T:) hr (ae .X (ae (ao (ie T:) hr (q2 0 2)) ah)))))
     (ak (jH .G (nR (pv 6) .au nZ))
     (au (aB (pv 6)))))))
 obtain⟨a',b',n,i,xs,m,rfl,rfl,hr',hx,ba,bb,h0,h64,i0,i1,hl,hm,hm2,q⟩:=h;have bi:af 8000 (xs.getD i.toNat 0):=(hm.get _).mono hm2;have bw:af 8002 (1-xs.getD i.toNat 0):=(af.one.sub bi).mono ⋯;have bf:af 700 (a'^n.toNat):=(ba.pow n.toNat).mono ();have bg:af 1500 (az a' b' n.toNat):=(ba.az bb n.toNat).mono ();o_head gY hx i0 i1 (λv1 iv1=>?_);k_few;rename_i v2 H2 S2 iv2;refine HE (hr'.by S2) ba bb h0 h64 (λv3 H3 S3 iv3=>?_);have T3:=S2.trans S3;have iv2':=iv2.by S3;have hx3:=hx.by T3;clear iv1 iv2 S2 S3 hx hr';k_few;obtain⟨lx,vs,rfl,hs,t⟩:=cq.mp hx3;refine j6 hs (o0:=none) (tl:=[some v3,some v2]) rfl (λj v H=>Is K H v (N ((xs.map λx=>push a' b' n.toNat (x+(1-xs.getD i.toNat 0))).getD j 0))) ?_ ?_
 . rintro D j x ys o H1 hx' inv
   obtain⟨hj,ix⟩:=cw t hx';have ix1:=ix.by inv.same;have jv2:=iv2'.by inv.same;have jv3:=iv3.by inv.same;have bx:af 8000 (xs.getD j 0):=(hm.get j).mono hm2;k_few;rename_i v4 H4 S4 iv4;refine Ze.v (jv3.by S4) iv4 bf bg ((zB8 hm j i.toNat).mono ()) (λv5 H5 S5 iv5=>?_);exact d_ inv () eS ⟨_,rfl⟩ .aN (by rw[pJ hj,h9];exact iv5)
 . rintro D ys H4 hn S4 e4 hl4 hr4
   have hvl:=t.length;rw[wl]at hvl;have hyl:ys.length=xs.length:=by lia
   clear hs t hx3 iv2' iv3;o_head rG (j:=i.toNat) e4 (by unfold gQ;rw[if_pos i0,if_pos ()]) (λH5 E5 e5=>?_);k_few;have hD:=fK T3 hn;refine q D H5 _ hD ((T3.trans S4).grow hD E5) e5 (e_ (by rw[Wz,iZ];exact hyl) λj v hv=>?_);rw[W9]at hv
   by_cases hij:i.toNat=j
   . subst hij
     rw[if_pos rfl,if_pos ()]at hv;cases hv;rw[gM _ _ _ _ _ _ (),if_pos rfl];exact eQ 0 (T.fv _) rfl rfl
   . rw[if_neg hij]at hv
     have hj:j<xs.length:=by
       rcases wE j ys.length with z | z
       . lia
       . rw[wN z]at hv;cases hv
     have hz:=hr4 j v hv;rw[pJ hj]at hz;rw[gM _ _ _ _ _ _ hj,if_neg (WI hij)];exact hz.dA (E5.keep e4)
structure dj(a b:Rat)(ns:.p)(xs:.c):Prop where
 ba:af 10 a
 bb:af 10 b
 n0:∀n∈ns,0<=n/\n<=64
 len:ns.length=xs.length+1
 bS:ns.length<=50
 cm:∃m,Cm m xs/\m+2*ns.length+21*upTo ns ns.length<=8000
theorem G8 : ∀{k j:Nat},k<=j->j<=ns.length->upTo ns k<=upTo ns j:=by
 intro k j hk
 induction j with
 | zero => intro _; have : k = 0 := by lia
           subst this;exact wo _
 | succ j ih =>
   intro hj;rcases wE k (j+1)with z | z
   . rw[pf ()]
     have:=ih () ();lia
   . have:k=j+1:=by lia
     subst this;exact wo _
theorem dj.row{a:Rat}(h:dj a b ns xs)(hk:k<=ns.length):∃m,Cm m (aP a b ns .bi k)/\m<=8000:=by
 obtain⟨m,hm,hm2⟩:=h.cm;refine⟨_,(hm.snoc).rows h.ba h.bb k hk,?_⟩;have:=G8 (ns:=ns) hk .Y;lia
def oY(a b:Rat)(ns:.p)(xs:.c):List (List Rat):=(wp (ns.length+1)).map (aP a b ns .bi)
theorem sG(a b:Rat)(ns:.p)(xs:.c):(oY a b ns xs).length=ns.length+1:=by simp[oY]
theorem AD{a:Rat}(h:k<=ns.length):(oY a b ns xs).getD k []=aP a b ns .bi k:=by
 unfold oY;rw[wb,wu,vM ()]
 rfl
inductive zqY(K:wa)(v w u:V)(H:Hp)(Q:VK)(E:XK):Prop|v(h1:Is K H v (R U Z))(h2:Is K H w (TZ S))(h3:Is K H u (TN W))(ok:dj U Z S W)(q:∀l H',ar H H'->Is K H' .al (LL (oY U Z S W))->Q .al H')
theorem EM(T:.q):kw P w base T.yE 5 zqY:=by
 exists T.yE,["rule","sizes","places","told","turn","size"],"c3",(ak (ay 3 ii (dG (ae (aD cN (iS (show bM _ (.type "list") (gc K)from jI) rfl T.h0n h_ (q1 2)) (dG (ae .G ah))) ah)))
     (ak (eA w9 rfl (Rl rfl T.h0e (q1 1)) (jm (n:=2) rfl (dZ (cV (i:=4) ii rfl .y) (dZ (cV (i:=5) ii rfl .y) jo))) (au (jK (i_ vP vU vV jh .au (ae (ao (zmt T) hr (by exact(@ae _ _ _ _ _ .L (@ae _ _ _ _ _ (pv 5) (@ae _ _ _ _ _ (dD cZ .au (pv 4) .aw) (@ae _ _ _ _ _ (pv 4) ah cj) ff) cj) cj))) ah)))))
     (au (aB .au))))
 obtain@⟨a',b',ns,xs,hr',hn',hp',ok,q⟩:=h;have hlen:=ok.len;have hfew:=ok.bS;o_head rV hp' (λl1 H1 us hl1 S1 e1 t1=>?_);have hul:=t1.length;rw[wl]at hul;o_head dN ∅ (λl2 H2 hl2 S2 e2=>?_);refine jQ (S2 _ _ e1) e2 (WH (gW .aL)) (λl3 H3 hl3 S3 e3=>?_);o_head dN ∅ (λlt H4 hlt S4 e4=>?_);have T4:ar H H4:=S1.trans (S2.trans (S3.trans S4));have e3':=S4 _ _ e3;have ne43:l3≠lt:=λz=>by subst z;rw[e3]at hlt;cases hlt
 have t3:ai K H4 (us++[V.ref a.dQ]) ((xs++[0]).map N):=by
   rw[w5];exact(ai.same (S2.trans (S3.trans S4)) _ _ t1).append (.cons (eQ 0 (T.fv _) rfl rfl) .nil)
 have hD:=fK (S1.trans .bF) hlt;clear hl1 hl2 hl3 S1 S2 S3 S4 e1 e2 e3 t1 hlt;k_few;obtain⟨an,rfl,hsn⟩:=rX.mp hn'
 refine zyN (T4.j_ hsn) (λk σ H'=>∃o1 o2 vs,σ = [some x0,some (.ref an),some x2,some (.ref lt),o1,o2]/\ar H H'/\H' lt=some (.lst vs)/\vs.length=k+1 /\ ∀j v,vs[j]? = some v->∃lj ws,v=.ref lj/\lj≠lt/\H' lj=some (.lst ws)/\ai K H' ws ((aP a' b' ns .bi j).map N))
   ⟨_,_,_,rfl,T4,e4,rfl,λj v hv=>?_⟩ (λk σ H' _ ⟨_,_,_,_,s,_⟩=>s.j_ hsn) ?_ ?_
 . match j,hv with
   | 0,e=>cases wI e;exact⟨l3,_,rfl,ne43,e3',t3⟩
   | j+1,e=>simp at e
 . rintro k x σ H5 t H6 hx ⟨o1,o2,vs,rfl,S5,e5,hl5,hr5⟩ ht S6 e6
   have hk:k<ns.length:=by
     rcases wE k ns.length with z | z
     . exact z
     . rw[wN (by simpa using z)]at hx;cases hx
   have hxv:x=.int (ns.getD k 0):=by
     rw[wu,wc hk]at hx;rw[wb,wc hk];exact(wI hx).symm
   subst hxv;have hnk:=ok.n0 (ns.getD k 0) (by rw[wb,wc hk];exact We hk);refine kG (.of e6) rfl ?_;k_few;have e5':=S6 _ _ e5;refine gU (aE.of e5') ?_;k_few;have hkv:∃v,vs[k]? = some v:=⟨vs[k]'(),wc ()⟩;obtain⟨v,hv⟩:=hkv;obtain⟨lk,ws,rfl,nek,ek,tk⟩:=hr5 k v hv;refine jA (aE.of e5') (m5 hv) ?_;k_few;obtain⟨m,hm,hm2⟩:=ok.row (k:=k) ();have hrl:=dy a' b' ns .bi k;rw[wL]at hrl;have T6:=S5.trans S6;refine znd (hr'.by T6) (b_ (S6 _ _ ek) (ai.same S6 _ _ tk)) ok.ba ok.bb hnk.1 hnk.2 () (by rw[hrl];simp;lia) (by rw[hrl];simp;lia) hm hm2 (λl7 H7 us7 hl7 S7 e7 t7=>?_);have e5'':=S7 _ _ e5';have ne7:l7≠lt:=λz=>by subst z;rw[e5']at hl7;cases hl7
   o_head iI e5'' () (λH8 E8 e8=>?_);have K8:bC H7 H8:=E8.keep e5'';refine⟨_,_,_,rfl,(T6.trans S7).grow hD E8,e8,by simp[hl5],λj v hv=>?_⟩;rcases wE j vs.length with z | z
   . rw[vQ z]at hv
     obtain⟨lj,wj,rfl,nej,ej,tj⟩:=hr5 j v hv;exact⟨lj,wj,rfl,nej,E8 _ _ nej (S7 _ _ (S6 _ _ ej)),ai.keep (S6.keep.trans (S7.keep.trans K8)) _ _ (eI _) tj⟩
   . have hj:j=vs.length:=by
       rcases wE vs.length j with q | q
       . rw[wN .aL]at hv;cases hv
       . lia
     subst hj;rw[vC .Y,Vm]at hv;cases wI hv;rw[hl5];refine⟨l7,us7,rfl,ne7,E8 _ _ ne7 e7,ai.keep K8 _ _ (eI _) ?_⟩;rw[aP]
     simpa using t7
 . rintro σ H5 hz;obtain⟨o1,o2,vs,rfl,S5,e5,hl5,hr5⟩:=hz
   o_head q lt H5 S5 (cq.mpr ⟨lt,vs,rfl,.of e5,Zx (by rw[hl5,sG];simp) λj v hv=>?_⟩)
   have hj:j<vs.length:=by
     rcases wE j vs.length with z | z
     . exact z
     . rw[wN z]at hv;cases hv
   obtain⟨lj,wj,rfl,nej,ej,tj⟩:=hr5 j v hv;rw[AD (by simp at hl5;lia)];exact b_ ej tj
def cF(a b:Rat)(ns:.p)(xs:.c):List Rat:=(aP a b ns .bi ns.length).dropLast
inductive Y4(K:wa)(v w u:V)(H:Hp)(Q:VK)(E:XK):Prop|v(h1:Is K H v (R U Z))(h2:Is K H w (TZ S))(h3:Is K H u (TN W))(ok:dj U Z S W)(q:Rs K H Q (TN (cF U Z S W)))
theorem RG(T:.q):kw P w base T.CI 6 Y4:=by
 exists T.CI,["rule","sizes","places"],"c3",(au (aB (fi K T.h0i (ae (mX mZ (dD cZ (ao (EM T) hr (q3 0 1 2)) (gy gC av) .aw) mD (mh (gy gC av))) ah))))
 obtain@⟨a',b',ns,xs,hr',hn',hp',ok,q⟩:=h;o_head zqY.v hr' hn' hp' ok (λl H1 S1 i1=>?_);o_head zzI i1 (by rw[sG];lia) (λv2 i2=>?_);rw[sG,Qb,AD .Y]at i2;o_head oz i2 (λl3 H3 ys hn3 S3 e3 t3=>?_);rw[B8,<- Qs]at t3;o_head gP (b_ e3 t3) (λw H4 S4 i4=>?_);exact q w H4 (S1.trans (S3.trans S4)) i4
theorem YD{a:Rat}(ok:dj a b ns xs)(c:.bB)(hm:m+2*ns.length+21*upTo ns ns.length<=8000)(hk:k<=ns.length):Cm 8000 (dW a b ns .bi k::aP a b ns .bi k):=by
 have h1:=G8 (ns:=ns) hk .Y;exact(c.snoc.yM ok.ba ok.bb (ns:=ns) k hk).mono ()
inductive Zb(K:wa)(v w u:V)(H:Hp)(Q:VK)(E:XK):Prop|v{Y:Nat}(h1:Is K H v (R U Z))(h2:Is K H w (TZ S))(h3:Is K H u (TN W))(ok:dj U Z S W)(hm:Cm Y W)(hm2:Y+2*S.length+21*upTo S S.length<=8000)(q:Rs K H Q (N (cP U Z S W)))
theorem zqw(T:.q):kw P w base T.Kt 6 Zb:=by
 exists T.Kt,["rule","sizes","places","told","rows","turn"],"c3",(ak (ay 3 ii .G)
     (ak (ay 4 ii (ao (EM T) hr (q3 0 1 2)))
     (ak (eA w9 rfl (fA rfl T.h0j (ae (dE K T.h0o (q1 1)) ah)) (cV (i:=5) ii rfl .y) (au (ay 3 ii (ao (ie T) hr (ae .au (ae (ao (AI T) hr (ae .af (ae (dD cZ (dD cZ (pv 4) (pv 5) .aw) (pv 5) .aw) ah))) ah))))))
     (au (aB .au)))))
 obtain@⟨a',b',ns,xs,m,hr',hn',hp',ok,hm,hm2,q⟩:=h;o_head zqY.v hr' hn' hp' ok (λl H1 S1 i1=>?_);o_head Gb (hn'.by S1) ?_;have hlen:=ok.len;have hfew:=ok.bS;refine iA (n:=(ns.length:Int)) () () (λk σ H'=>∃v o,σ = [some x0,some x1,some x2,some v,some .al,o]/\ar H1 H'/\Is K H' v (N (dW a' b' ns .bi k))) ⟨_,_,rfl,ar.refl _,eQ 0 (T.fv _) rfl rfl⟩ ?_ ?_
 . rintro k σ H2 hk hz;obtain⟨v,o,rfl,S2,iv⟩:=hz
   have hk':k<ns.length:=by simpa using hk
   have c:=YD ok hm hm2 (k:=k) ();have b1:af 8000 (dW a' b' ns .bi k):=c.d6 .bn;have b2:af 8000 ((aP a' b' ns .bi k).getD k 0):=(iP c λy hy=>wt _ hy).get k;have b4:af 8002 (1-(aP a' b' ns .bi k).getD k 0):=(af.one.sub b2).mono ⋯;have i2:=i1.by S2;o_head Yl i2 () (by rw[sG];lia) (λv3 i3=>?_);rw[wD,AD ()]at i3;o_head gY i3 () (by rw[dy,wL];simp;lia) (λv4 i4=>?_);rw[wD]at i4;k_few;exact⟨_,_,rfl,S2.trans (ar.trans .bo .bo),by assumption⟩
 . rintro σ H2 hz;obtain⟨v,o,rfl,S2,iv⟩:=hz
   k_few;exact q _ _ .aM iv
def cX(a b:Rat)(ns:.p)(xs:.c):List Rat:=(wp ns.length).map λk=>(aP a b ns .bi (k+1)).getD ((k+1) % ns.length) 0
theorem fb(a b:Rat)(ns:.p)(xs:.c):(cX a b ns xs).length=ns.length:=by simp[cX]
theorem lA{a:Rat}(h:k<ns.length):(cX a b ns xs).getD k 0=(aP a b ns .bi (k+1)).getD ((k+1) % ns.length) 0:=by
 unfold cX;rw[wb,wu,vM h]
 rfl
inductive Y7(K:wa)(v w u:V)(H:Hp)(Q:VK)(E:XK):Prop|v(h1:Is K H v (R U Z))(h2:Is K H w (TZ S))(h3:Is K H u (TN W))(ok:dj U Z S W)(q:Rs K H Q (TN (cX U Z S W)))
theorem Yo(T:.q):kw P w base T.C3 6 Y7:=by
 exists T.C3,["rule","sizes","places","rows","count"],"c3",(ak (ay 3 ii (ao (EM T) hr (q3 0 1 2)))
     (ak (ay 4 ii (dE K T.h0o (q1 1)))
     (au (aB (fi K T.h0i (ae (d4 rfl (cW ["turn","rows","count"] [none,some 3,some 4]) (fA rfl T.h0j (q1 4)) .U .an (λ_ _ _ _ _=>(dD (show fX _ (du K)from cZ) (dD (show fX _ (du K)from cZ) .X (aD cN .L av) .aw) (aD iN (aD cN .L av) .aV) .aw))) ah))))))
 obtain@⟨a',b',ns,xs,hr',hn',hp',ok,q⟩:=h;have hlen:=ok.len;have hfew:=ok.bS;o_head zqY.v hr' hn' hp' ok (λl H1 S1 i1=>?_);o_head Gb (hn'.by S1) ?_;o_head P7 (n:=(ns.length:Int)) () () (o0:=none) (tl:=[some .al,some (.int (ns.length:Int))]) rfl (λi v H=>Is K H v (N ((cX a' b' ns xs).getD i 0))) ?_ ?_
 . rintro D i ys o H2 hi inv
   have hi':i<ns.length:=by simpa using hi
   have i2:=i1.by inv.same;have hn0:(0:Int)<(ns.length:Int):=by lia
   o_head Yl i2 () (by rw[sG];lia) (λv3 i3=>?_);rw[show((i:Int)+1).toNat=i+1 by lia,AD ()]at i3;k_few;have e:((i:Int)+1) % (ns.length:Int)=(((i+1) % ns.length:Nat):Int):=by push_cast;rfl
   have hm:(i+1) % ns.length<ns.length:=qr _ ();rw[e];refine gY i3 () (by rw[dy,wL];simp;lia) (λv4 i4=>?_);rw[wD,<- lA hi']at i4;exact d_ inv () eS ⟨_,rfl⟩ .ax i4
 . rintro D ys H2 hn S2 e2 hl2 hr2
   o_head gP (b_ e2 (e_ (by rw[hl2,fb];simp) hr2)) (λw H3 S3 i3=>?_);exact q w H3 (S1.trans .bF) i3
theorem pA{bs:List Bool}{zs:.x}(hl:zs.length=bs.length)(h:∀j z,zs[j]? = some z->z=V.bl (bs.getD j true)):zs=bs.map V.bl:=by
 refine W4 (by rw[wl];exact hl) λi h1 h2=>?_
 rw[h i _ (wc h1),Vx,wb,wc ()]
 rfl
def cB(xs:.c):List Rat:=[1]++xs++[0]
theorem iF(xs:.c):(cB xs).length=xs.length+2:=by simp[cB]
def mz(xs:.c):List Bool:=(wp (xs.length+1)).map λi=>decide ((cB xs).getD (i+1) 0<(cB xs).getD i 0)
def lI(ts:.c):List Bool:=ts.map λx=>decide (x<1)
def cE(a b:Rat)(ns:.p)(xs:.c):Bool:=(mz xs).all id&&(lI (cX a b ns xs)).all id
theorem zv8(h:i<xs.length+1):(mz xs).getD i true=decide ((cB xs).getD (i+1) 0<(cB xs).getD i 0):=by
 unfold mz;rw[wb,wu,vM h]
 rfl
theorem zza{ts:.c}(h:i<ts.length):(lI ts).getD i true=decide (ts.getD i 0<1):=by
 unfold lI;rw[wb,wu,wb,wc h]
 rfl
theorem Aj(h:.bB)(i:Nat):af m ((cB xs).getD i 0):=by
 unfold cB;rcases qw i with rfl | hi
 ·exact af.one.mono h.pos
 ·obtain⟨j,rfl⟩:∃j,i=j+1:=⟨i-1,by lia⟩
  exact h.snoc.get j
theorem B_{a:Rat}(ok:dj a b ns xs)(hi:i<ns.length):af 8000 ((cX a b ns xs).getD i 0):=by
 rw[lA hi];obtain⟨m,hm,hm2⟩:=ok.row (k:=i+1) ();exact(hm.get _).mono hm2
inductive zpd(K:wa)(v w u:V)(H:Hp)(Q:VK)(E:XK):Prop|v(h1:Is K H v (R U Z))(h2:Is K H w (TZ S))(h3:Is K H u (TN W))(ok:dj U Z S W)(q:Rq H Q (.bl (cE U Z S W)))
theorem sH(T:.q):kw P w base T.oH 7 zpd:=by
 exists T.oH,["rule","sizes","places","steps"],"c3",(ak (ay 3 ii (aD cN (aD cN (dG (ae .af ah)) (iS (show bM _ (.type "list") (gc K)from jI) rfl T.h0n h_ (q1 2))) (dG (ae .G ah))))
     (ak (aY (cR (cz (dw (show bM _ (.builtin "all") (mW K)from rE rfl) rfl T.h0q pj (ae (d4 rfl (cW ["upper","lower"] [none,none]) (Ba rfl T.h0x (ae .au (ae (mX mZ .au (mh av) mD) ah))) (λ_ _ _ _ _=>by exact(show PG _ _ (mF K 2 _)from jm (n:=2) rfl (dZ (cC 0) (dZ (cC 1) jo)))) .an (λ_ _ _ _ _=>(ao (iH T:) hr (q2 1 0)))) ah)))) (au (aB fe)) aZ)
     (au (aB (dw (show bM _ (.builtin "all") (mW K)from rE rfl) rfl T.h0q pj (ae (d4 rfl (cW ["top"] [none]) (kf (ao (Yo T) hr (q3 0 1 2))) .U .an (λ_ _ _ _ _=>(ao (iH T:) hr (ae .L (ae .af ah))))) ah))))))
 obtain@⟨a',b',ns,xs,hr',hn',hp',ok,q⟩:=h;have hlen:=ok.len;have hfew:=ok.bS;obtain⟨m,hcm,hcm2⟩:=ok.cm;o_head dN ∅ (λl0 H1 n1 S1 e1=>?_);o_head rV (hp'.by S1) (λl1 H2 us n2 S2 e2 t2=>?_);have hul:=t2.length;rw[wl]at hul;refine jQ (S2 _ _ e1) e2 (WH (gW .aL)) (λl2 H3 n3 S3 e3=>?_);o_head dN ∅ (λl3 H4 n4 S4 e4=>?_);refine jQ (S4 _ _ e3) e4 (WH (gW .aL)) (λl5 H5 n5 S5 e5=>?_);have T5:ar H H5:=S1.trans (S2.trans (S3.trans .aN))
 have t5:ai K H5 ([V.ref a.eK]++us++[V.ref a.dQ]) ((cB xs).map N):=by
   unfold cB;rw[w5,w5];exact(ai.append (.cons (eQ 1 (T.yP _) rfl rfl) .nil) (ai.same (S3.trans .aN) _ _ t2)).append (.cons (eQ 0 (T.fv _) rfl rfl) .nil)
 have ir5:=hr'.by T5;have in5:=hn'.by T5;have ip5:=hp'.by T5;clear n1 n2 n3 n4 n5 S1 S2 S3 S4 S5 e1 e2 e3 e4 t2 hr' hn' hp';generalize [V.ref a.eK]++us++[V.ref a.dQ]=ws at e5 t5;have hws:=t5.length;rw[wl,iF]at hws;o_head oz (b_ e5 t5) (λl6 H6 ys n6 S6 e6 t6=>?_);rw[show(1:Int)=((1:Nat):Int)from rfl,zB5 _ _ (by rw[wl,iF];lia),<- Xy]at t6;have hys:=t6.length;rw[wl,Wd,iF]at hys;have e56:=S6 _ _ e5;have t56:=ai.same S6 _ _ t5;have T6:=T5.trans S6;have ir6:=ir5.by S6;have in6:=in5.by S6;have ip6:=ip5.by S6;clear ir5 in5 ip5 T5 S6 e5 t5 n6;o_head zAS (t:=false) (u:=false) (aE.of e56) (aE.of e6) () (o0:=none) (o0':=none) (tl:=[]) rfl (λi v H=>v=V.bl ((mz xs).getD i true)) (λ_ _ _ _ _ h=>h) ?_ ?_
 . rintro D i x y zs o1 o2 H7 c hx hy inv e7
   obtain⟨hi,ix⟩:=cw t56 hx;obtain⟨hj,iy⟩:=cw t6 hy;rw[Wd,iF]at hj
   have ed:((cB xs).drop 1).getD i 0=(cB xs).getD (i+1) 0:=by
     rw[wb,xg,wb,XQ]
   rw[ed]at iy;have S7:=inv.2.2.1;have b1:af 8000 ((cB xs).getD i 0):=(Aj hcm i).mono ();have b2:af 8000 ((cB xs).getD (i+1) 0):=(Aj hcm (i+1)).mono ();refine SA (kG (.of e7) rfl ?_);have ix7:=ix.by S7;have iy7:=iy.by S7;k_few;exact yg inv () (λ_ _ _ _ _ h=>h) ⟨_,_,rfl⟩ .ax (by rw[zv8 ()])
 . rintro D zs H7 hn S7 e7 hl7 hr7
   have hz:=pA (bs:=mz xs) (by unfold mz;rw[wl,vi];lia) hr7;rw[hz]at e7;o_head oA (.of e7) ?_;k_few
   . rename_i z
     have ef:cE a' b' ns xs=false:=by unfold cE;rw[z];rfl
     rw[<- ef];exact q _ (T6.trans S7)
   . rename_i z
     have ef:cE a' b' ns xs=(lI (cX a' b' ns xs)).all id:=by unfold cE;rw[z];rfl
     rw[ef]at q;refine Y7.v (ir6.by S7) (in6.by S7) (ip6.by S7) ok (λv8 H8 S8 i8=>?_);have T8:=T6.trans (S7.trans S8);obtain⟨a8,us8,rfl,hs8,t8⟩:=bY.mp i8;have hl8:=t8.length;rw[wl,fb]at hl8;refine jz hs8 (o0:=none) (tl:=[]) rfl (λi v H=>v=V.bl ((lI (cX a' b' ns xs)).getD i true)) ?_ ?_
     . rintro D i x ys' o H9 hx inv
       obtain⟨hi,ix⟩:=cw t8 hx;rw[fb]at hi;have ix9:=ix.by inv.same;have b1:af 8000 ((cX a' b' ns xs).getD i 0):=B_ ok hi;have b2:af 8000 1:=af.one.mono ⋯;k_few;exact d_ inv () (λ_ _ _ _ _ h=>h) ⟨_,rfl⟩ .ax (by rw[zza (by rw[fb];exact hi)])
     . rintro D ys' H9 hn9 S9 e9 hl9 hr9
       have hz':=pA (bs:=lI (cX a' b' ns xs)) (by unfold lI;rw[wl,fb];lia) hr9;rw[hz']at e9;o_head oA (.of e9) ?_;exact q _ (T8.trans S9)
def cY(n:Nat):List Rat:=vj n 0
theorem zrh(n i:Nat):(cY n).getD i 0=0:=by
 unfold cY;rw[wb,xF]
 split<;>rfl
theorem rB(n:Nat):Cm 1 (cY n):=by
 refine⟨1,by decide,⟨by decide⟩,λx hx=>⟨0,?_,⟨by decide⟩⟩⟩;rw[List.eq_of_mem_replicate hx]
 rfl
inductive ZU(K:wa)(v w:V)(H:Hp)(Q:VK)(E:XK):Prop|v(h1:Is K H v (R U Z))(h2:Is K H w (TZ S))(ok:dj U Z S (cY (S.length-1)))(h0:0<=S.sum)(h64:S.sum<=64)(q:Rs K H Q (.tuple [N (U^S.sum.toNat),TN (cF U Z S (cY (S.length-1)))]))
theorem tN(T:.q):jp P w base T.oF 7 ZU:=by
 exists T.oF,["rule","sizes","factor","noughts"],"c2",(ak (ay 2 ii (eC (ao (zR T) hr (ae .L (ae (dw (show bM _ (.builtin "sum") (HK K)from zzE rfl) rfl T.h0u Ai (q1 1)) ah)))))
     (ak (ay 3 ii (fi K T.h0i (ae (d4 rfl (cW ["size"] [none]) (kf (mX mZ .X (mh av) mD)) .U .an (λ_ _ _ _ _=>.G)) ah)))
     (au (aB (aS (ae .aV (ae (ao (RG T) hr (q3 0 1 3)) ah)))))))
 obtain@⟨a',b',ns,hr',hn',ok,h0,h64,q⟩:=h;have hlen:=ok.len;have hfew:=ok.bS;o_head zAn hn' ?_;o_head HE hr' ok.ba ok.bb h0 h64 .bD;k_few;rename_i v2 i2;have hn1:Is K H1 x1 (.tuple (ns.map PyData.int)):=hn'.by S1;refine zCU hn1 ?_ .aG
 . rintro ⟨e,_⟩
   have e':min 1 (ns.map PyData.int).length=0:=e;rw[wl]at e';lia
 rw[UW]at i3;obtain⟨a3,vs3,rfl,hs3,t3⟩:=bY.mp i3;have hl3:=t3.length;rw[QE,wl]at hl3;have hzl:(cY .aJ).length=ns.length-1:=WK ..;o_head jz hs3 (o0:=none) (tl:=[]) rfl (λi v H=>Is K H v (N ((cY .aJ).getD i 0))) ?_ ?_
 . rintro D i x ys o H4 hx inv
   have hi:i<vs3.length:=by
     rcases wE i vs3.length with z | z
     . exact z
     . rw[wN z]at hx;cases hx
   k_few;exact d_ inv () eS ⟨_,rfl⟩ .ax (by rw[zrh];exact eQ 0 (T.fv _) rfl rfl)
 . rintro D ys H4 hn4 S4 e4 hl4 hr4
   o_head gP (b_ (xs:=cY .aJ) e4 (e_ () hr4)) (λv5 H5 S5 i5=>?_);have T5:ar H1 H5:=S3.trans .aN;o_head Y4.v ((hr'.by S1).by T5) ((hn'.by S1).by T5) i5 ok (λv6 H6 S6 i6=>?_);k_few;exact cJ ∅ (.cons (i2.by (T5.trans S6)) (.cons i6 .nil)) (λv H' S h=>q v H' (S1.trans (T5.trans (S6.trans S))) h)
def bQ(a b:Rat)(ns:.p):List Rat:=(cF a b ns (cY .aJ)).map (λs=>s / (1-a^ns.sum.toNat))
theorem ny{a:Rat}(h:.z):(cF a b ns xs).length=xs.length:=by
 unfold cF;rw[QR,dy];simp
theorem EN{a:Rat}(h:.z)(hi:i<xs.length):(cF a b ns xs).getD i 0=(aP a b ns .bi ns.length).getD i 0:=by
 unfold cF;have hl:(aP a b ns .bi ns.length).length=xs.length+1:=by rw[dy];simp
 rw[wb,wb,List.getElem?_dropLast,if_pos ()]
theorem Eu(h:i<xs.length):(xs++[0]).getD i 0=xs.getD i 0:=by
 rw[wb,wb,vQ h]
theorem sV : (xs++[0]).getD xs.length 0=0:=by
 rw[wb,vC .Y,Vm]
 rfl
theorem zqM:∀{ns:.p},(∀n∈ns,0<=n)->((ns.map xM).sum:Int)=ns.sum
 | [],_=>rfl
 | n::ns,h=>by
  have h1:=zqM (ns:=ns) λm hm=>h m (wt _ hm)
  have h2:=h n .bn;rw[ve,Vr,Vr];lia
theorem Z2(h:∀n∈ns,0<=n):upTo ns ns.length=ns.sum.toNat:=by
 have:=zqM h;unfold GM.upTo;rw[Wj];lia
theorem zqy{a:Rat}(h:.z)(hn:∀n∈ns,0<=n)(hi:i<xs.length):(cF a b ns xs).getD i 0=a^ns.sum.toNat*xs.getD i 0+(cF a b ns (cY .aJ)).getD i 0:=by
 have hz:(cY .aJ).length=xs.length:=by unfold cY;rw[WK];lia
 have hu:=Z2 hn;rw[EN h hi,EN () ()];have hr:=GL a b ns .bi (cY .aJ++[0]) (by simp[hz]) (by simp[h]) xs.length ∅ (by rw[sV];rw[<- hz,sV]) ns.length .Y i .aL;rw[if_neg (),show ns.length-1=xs.length by lia]at hr;rw[show ns.length-1=xs.length by lia]at hz ⊢;rw[sV,Eu hi,Eu (),zrh,hu]at hr
 have hl0:(cY xs.length++[0]).getD xs.length 0=0:=by
  have:=sV (xs:=cY xs.length);rw[hz]at this;exact this
 rw[hl0]at hr
 grind
theorem kj{a:Rat}(h:1<=ns.length):(bQ a b ns).length=ns.length-1:=by
 unfold bQ;rw[wl,ny (by unfold cY;rw[WK];lia)];unfold cY;rw[WK]
theorem UL{a:Rat}(h:i<(bQ a b ns).length):(bQ a b ns).getD i 0=(cF a b ns (cY .aJ)).getD i 0 / (1-a^ns.sum.toNat):=by
 unfold bQ at *;rw[wl]at h;rw[wb,wu,wb,wc h];rfl
theorem YH{g:Rat}(h:.bB)(bg:af n g)(hg:g≠0):Cm (m+n) (xs.map (λs=>s / g)):=by
 obtain⟨B,h0,bB,hx⟩:=h;have hgn:=x_ hg
 have key:∀(t:Int),wB t B / g=wB (t*(g.den:Int)) (B*g.num):=by
  intro t
  conv=>lhs;rw[<- VE g]
  rw[Qw,Rat.inv_divInt,Xd]
 rcases Int.lt_or_gt_of_ne hgn with z | z
 ·refine⟨B * -g.num,Wa h0 (),bB.mul bg.t.neg,λx hxm=>?_⟩
  obtain⟨s,hs,rfl⟩:=wQ.mp hxm;obtain⟨t,rfl,bt⟩:=hx s hs;refine⟨-(t*(g.den:Int)),?_,(bt.mul bg.b).neg⟩
  show wB t B / g=_
  rw[key t,uj,Rat.divInt_neg',Int.neg_neg]
 ·refine⟨B*g.num,Wa h0 (),bB.mul bg.t,λx hxm=>?_⟩
  obtain⟨s,hs,rfl⟩:=wQ.mp hxm;obtain⟨t,rfl,bt⟩:=hx s hs;exact⟨t*(g.den:Int),key t,bt.mul bg.b⟩
theorem IJ{a:Rat}(ba:af 10 a)(bb:af 10 b)(hm:.bB):Cm (m+2*ns.length+21*upTo ns ns.length) (cF a b ns xs):=by
 obtain⟨B,h0,h1,h2⟩:=(hm.snoc).rows ba bb (ns:=ns) ns.length .Y;exact⟨B,h0,h1,λx hx=>h2 x (Xs _ hx)⟩
theorem BK{a:Rat}(ba:af 10 a)(bb:af 10 b)(h8:ns.length<=8)(hu:upTo ns ns.length<=8)(hs:ns.sum.toNat<=8)(hF:a^ns.sum.toNat≠1):Cm 268 (bQ a b ns):=by
 have bF:af 81 .E:=(ba.pow ns.sum.toNat).mono ();have bg:af 83 (1-a^ns.sum.toNat):=(af.one.sub bF).mono ⋯;have hg:1-a^ns.sum.toNat≠0:=λe=>hF .aB
 exact(YH (IJ (ns:=ns) ba bb (rB .aJ)) bg hg).mono ()
theorem zsr{a:Rat}(ok:dj a b ns (cY .aJ))(h8:ns.sum<=8)(i:Nat):af 400 ((cF a b ns (cY .aJ)).getD i 0):=((IJ ok.ba ok.bb (rB _)).get i).mono (by
 have h1:=Z2 (λn hn=>(ok.n0 n hn).1);have h2:=ok.bS;lia)
inductive Rf(K:wa)(v w:V)(H:Hp)(Q:VK)(E:XK):Prop|v(h1:Is K H v (R U Z))(h2:Is K H w (TZ S))(ok:dj U Z S (cY (S.length-1)))(h0:0<=S.sum)(h8:S.sum<=8)(q1:U^S.sum.toNat=1->Rq H Q .bE)(q2:U^S.sum.toNat≠1->Rs K H Q (TN (bQ U Z S)))
theorem OJ(T:.q):jp P w base T.C2 8 Rf:=by
 exists T.C2,["rule","sizes","both","gap"],"c2",(ak (ay 2 ii (ao (tN T) hr (q2 0 1)))
     (ak (aY (eX K hu (qi 2) .af) (au (aB fS)) aZ)
     (ak (ay 3 ii (ao (AI T) hr (ae .af (ae (qi 2) ah))))
     (au (aB (fi K T.h0i (ae (d4 rfl (cW ["shift","gap"] [none,some 3]) (kf (qi 2)) .U .an (λ_ _ _ _ _=>(ao (ZO T:) hr (q2 0 1)))) ah)))))))
 obtain@⟨ra,rb,ns,hr',hn',ok,h0,h8,q1,q2⟩:=h;have bF:af 100 (ra^ns.sum.toNat):=(ok.ba.pow ns.sum.toNat).mono ();o_head ZU.v hr' hn' ok h0 () .bD;o_head aA (j:=0) i1 rfl (λv2 i2=>?_);k_few
 . rename_i z
   exact q1 z H1 S1
 . rename_i z
   refine aA (j:=0) i1 rfl (λv3 i3=>?_);k_few;rename_i v4 H4 S4 i4;have hg:(1-ra^ns.sum.toNat)≠0:=λe=>z .aB
   have bg:af 102 (1-ra^ns.sum.toNat):=(af.one.sub bF).mono ⋯;refine aA (j:=1) (i1.by S4) rfl (λv5 i5=>?_);obtain⟨ap,us,rfl,hu,tu⟩:=bY.mp i5;refine jz (o0:=none) (tl:=[some v4]) hu rfl (λj y H'=>Is K H' y (N ((bQ ra rb ns).getD j 0))) ?_ ?_
   . intro D i x ys o H5 hx inv
     obtain⟨hi,ix⟩:=cw tu hx;have ix5:=ix.by inv.same;have i45:=i4.by inv.same
     have hi1000:i<=1000:=by
       have h1:=ok.len;have h2:=ok.bS;have h3:=ny (a:=ra) (b:=rb) (show ns.length=(cY .aJ).length+1 from ok.len);lia
     o_head UU.v ix5 i45 ((zsr ok h8 i).mono ⋯) (bg.mono ⋯) hg (λv6 H6 S6 i6=>?_);k_few
     have e:(bQ ra rb ns).getD i 0=(cF ra rb ns (cY .aJ)).getD i 0 / (1-ra^ns.sum.toNat):=by
       unfold bQ;rw[wb,wu,wb,wc hi];rfl
     exact d_ inv hi1000 eS ⟨_,rfl⟩ S6 (by rw[e];exact i6)
   . intro D ys H5 hn S5 hD hl hr5
     have hl':ys.length=(bQ ra rb ns).length:=by
       unfold bQ;rw[hl,tu.length,wl,wl]
     refine gP (b_ hD (e_ hl' hr5)) (λw H6 S6 i6=>?_);k_few;exact q2 z w H6 (S1.trans (S4.trans (S5.trans S6))) i6
def gj(p q:Rat)(xs ss:.c):List Rat:=(wp xs.length).map λi=>p*xs.getD i 0+q*ss.getD i 0
theorem pT(p q:Rat)(xs ss:.c):(gj p q xs ss).length=xs.length:=by unfold gj;rw[wl,vi]
theorem Z1{p q:Rat}(h:i<xs.length):(gj p q xs ss).getD i 0=p*xs.getD i 0+q*ss.getD i 0:=by
 unfold gj;rw[wb,wu,vM h];rfl
inductive RM(K:wa)(v w u z:V)(H:Hp)(Q:VK)(E:XK):Prop|v{d:wC}(h0:Is K H v (.tuple [d,TN U]))(h1:Is K H w (TN Z))(h2:Is K H u (N S))(h3:Is K H z (N q'))(hl:U.length=Z.length)(hf:Z.length<=50)(b1:af 2000 S)(b2:af 2000 q')(b3:∀W,af 6900 (Z.getD W 0))(b4:∀W,af 6900 (U.getD W 0))(q:Rs K H Q (TN (gj S q' Z U)))
theorem SD(T:.q):ms P w base T.CW 3 RM:=by
 exists T.CW,["both","places","of_place","of_shift"],"c4",(au (aB (fi K T.h0i (ae (d4 rfl (cW ["place","shift","of_place","of_shift"] [none,none,some 2,some 3]) (zDS rfl T.h0x (ae .X (ae .H ah))) (λ_ _ _ _ _=>by exact(show PG _ _ (mF K 2 _)from jm (n:=2) rfl (dZ (cC 0) (dZ (cC 1) jo)))) .an (λ_ _ _ _ _=>(ao (ie T:) hr (ae (ao (mj T:) hr (q2 2 0)) (ae (ao (mj T:) hr (q2 3 1)) ah))))) ah))))
 obtain@⟨ss,xs,p,q',d,h0,h1,h2,h3,hl,hf,b1,b2,b3,b4,q⟩:=h;obtain⟨a1,us,rfl,hs1,t1⟩:=bY.mp h1;o_head aA (j:=1) h0 rfl (λv5 i5=>?_);obtain⟨a2,ws,rfl,hs2,t2⟩:=bY.mp i5;have l1:=t1.length;have l2:=t2.length;rw[wl]at l1 l2;o_head zxs (t:=true) (u:=true) hs1 hs2 () (o0:=none) (o0':=none) (tl:=[some x2,some x3]) rfl (λj y H'=>Is K H' y (N ((gj p q' xs ss).getD j 0))) eS ?_ ?_
 ·intro D j y z zs o1 o2 H7 c hy hz inv hc
  obtain⟨hj,iy⟩:=cw t1 hy;obtain⟨_,iz⟩:=cw t2 hz;have S7:=inv.2.2.1;have iy7:=iy.by S7;have iz7:=iz.by S7;have ip7:=h2.by S7;have iq7:=h3.by S7;have c1:=b3 j;have c2:=b4 j;have m1:af 8999 (p*xs.getD j 0):=(b1.mul c1).mono ⋯;have m2:af 8999 (q'*ss.getD j 0):=(b2.mul c2).mono ⋯;refine kG (.of hc) rfl ?_;k_few;rename_i v8 H8 S8 i8 v9 H9 S9 i9 v10 H10 S10 i10;rw[<- Z1 hj]at i10;exact yg inv () eS ⟨_,_,rfl⟩ (S8.trans (S9.trans S10)) i10
 ·intro D zs H7 hn S7 hD hl7 hr7
  have tz:ai K H7 zs ((gj p q' xs ss).map N):=e_ (by rw[hl7,pT];lia) hr7;o_head gP (b_ hD tz) (λv8 H8 S8 i8=>?_);exact q v8 H8 (S7.trans S8) i8
structure cQ(ns:.p):Prop where
 some:1<=ns.length
 bS:ns.length<=8
 each:∀n∈ns,1<=n/\n<=8
 sum:ns.sum<=8
theorem zy:∀{ns:.p},(∀n∈ns,0<=n)->((ns.map xM).sum:Int)=ns.sum
 | [],_=>rfl
 | n::ns,h=>by
  have h1:=zy (ns:=ns) λm hm=>h m (wt _ hm)
  have h2:=h n .bn;rw[ve,Vr,Vr];lia
theorem cQ.upTo(h:cQ ns):upTo ns ns.length<=8:=by
 have h1:=zy (ns:=ns) λn hn=>by have:=h.each n hn;lia
 have h2:=h.sum;unfold GM.upTo;rw[Wj];lia
def cb(a b:Rat)(ns:.p):List Rat:=cF a b ns (cY .aJ)
def aX(a b:Rat)(ns:.p)(n:Nat)(xs:.c):List Rat:=(wp xs.length).map λi=>fh .E ((cb a b ns).getD i 0) n .ai
theorem sU(n:Nat):(cY n).length=n:=WK ..
theorem m_{a:Rat}(h:1<=ns.length):(cb a b ns).length=ns.length-1:=by
 unfold cb;rw[ny (by rw[sU];lia),sU]
theorem bZ(a b:Rat)(ns:.p)(n:Nat)(xs:.c):(aX a b ns n xs).length=xs.length:=by unfold aX;rw[wl,vi]
theorem fD{a:Rat}(h:i<xs.length):(aX a b ns n xs).getD i 0=fh .E ((cb a b ns).getD i 0) n .ai:=by
 unfold aX;rw[wb,wu,vM h];rfl
theorem pW(hl:.Z)(h:∀i,i<xs.length->xs.getD i 0=ys.getD i 0):xs=ys:=W4 hl λi h1 h2=>by
 have:=h i h1;rw[wb,wb,wc h1,wc h2]at this;exact this
theorem kx(a b:Rat)(ns:.p)(xs:.c):aX a b ns 0 xs=xs:=pW (bZ ..) λi hi=>by
 rw[bZ]at hi;rw[fD hi,zy3]
theorem pU(a b:Rat)(ns:.p)(m n:Nat)(xs:.c):aX a b ns n (aX a b ns m xs)=aX a b ns (m+n) xs:=pW (by rw[bZ,bZ,bZ]) λi hi=>by
 rw[bZ,bZ]at hi;rw[fD (by rw[bZ];exact hi),fD hi,fD hi,zBM]
theorem nT{a:Rat}(h:.z)(hn:∀n∈ns,0<=n):aX a b ns 1 xs=cF a b ns xs:=pW (by rw[bZ,ny h]) λi hi=>by
 rw[bZ]at hi;rw[fD hi,F6,zqy h hn hi]
 rfl
structure dY(a b:Rat)(ns:.p)(n:Nat):Prop where
 ok:aM a b
 sz:cQ ns
 bS:n<=60
 k:(6*ns.sum.toNat+1+1)*n<=1600
theorem Bs{a:Rat}(h:.aH):af 6 a:=by
 have h1:=h.a0;have h2:=h.a4;have h3:=h.ad;have n0:0<=a.num:=Qi.mpr (vY h1)
 have n1:a.num<=4*a.den:=by
  have:=(Xo a 4).mp h2
  simpa using this
 have e:(2:Nat)^6=64:=by decide
 exact⟨⟨by rw[e];lia⟩,⟨by rw[e];lia⟩⟩
theorem iC{a:Rat}(h:.aH)(S:Nat):af (6*S+1) (a^S):=(Bs h).pow S
theorem dY.le{a:Rat}(h:dY a b ns n)(e:m<=n):dY a b ns m:=⟨h.ok,h.sz,Wb e h.bS,Wb (qQ _ e) h.k⟩
theorem dY.pow{a:Rat}(h:dY a b ns n)(hi:i<=n):af 1601 (.E^i):=((iC h.ok _).pow i).mono (by
 have h1:=(h.le hi).k;have h2:=Wf i (show 6*ns.sum.toNat+1<=6*ns.sum.toNat+1+1 by lia);lia)
theorem dY.az{a:Rat}(h:dY a b ns n)(hi:i<=n):af 1601 (az .E 1 i):=(Rh (iC h.ok _) i).mono (by have:=(h.le hi).k;lia)
theorem p8{a:Rat}(h:.aH)(k:cQ ns):dj a b ns (cY .aJ):=⟨h.ba,h.bb,λn hn=>by have:=k.each n hn;lia,by rw[sU];have:=k.some;lia,by have:=k.bS;lia,⟨1,rB _,by have:=k.bS;have:=k.upTo;lia⟩⟩
theorem EJ{a:Rat}(h:.aH)(k:cQ ns):Cm 185 (cb a b ns):=(IJ (ns:=ns) h.ba h.bb (rB .aJ)).mono (by have:=k.bS;have:=k.upTo;lia)
theorem ya{a:Rat}(h:.aH)(k:cQ ns)(i:Nat):af 185 ((cb a b ns).getD i 0):=(EJ h k).get i
theorem cQ.nn(k:cQ ns):∀n∈ns,0<=n:=λn hn=>by have:=k.each n hn;lia
theorem cQ.pos(k:cQ ns):1<=ns.sum/\ns.sum<=8:=by
 refine⟨?_,k.sum⟩;have h1:=zy k.nn;have h2:=k.some
 match ns,h2,k.each with
 | n::ns,_,he =>
  have:=he n .bn;rw[ve,Vr]at h1;lia
theorem j7{a:Rat}(h:.aH){S:Nat}(hS:1<=S):a^S=1 ↔ a=1:=by
 obtain⟨m,rfl⟩:∃m,S=m+1:=⟨S-1,by lia⟩
 constructor
 ·intro e
  by_cases z:a<1
  ·have:=Oq h.a0 z m
   rw[e]at this;exact absurd this .aB
  ·by_cases y:a=1
   ·exact y
   ·have z3:1<a:=qq (W6.mp z) (WI y)
    have:=zvz z3 m;rw[e]at this;exact absurd this .aB
 ·intro e
  rw[e,GM.one_pow']
theorem BF{a:Rat}(hF:a^ns.sum.toNat≠1)(hi:i<(bQ a b ns).length):(bQ a b ns).getD i 0*(1-a^ns.sum.toNat)=(cb a b ns).getD i 0:=by
 rw[UL hi];exact WA (λe=>hF .aB)
theorem zDe{a:Rat}(h:.aH)(S n:Nat):af ((6*S+3)*n+1) ((a^S)^n):=((iC h S).pow n).mono (by have:=Wf n (show 6*S+1<=6*S+3 by lia);lia)
theorem NV{a:Rat}(h:.aH)(S n:Nat):af ((6*S+3)*n+1) (az (a^S) 1 n):=(Rh (iC h S) n).mono (by have:=Wf n (show 6*S+1+1<=6*S+3 by lia);lia)
inductive Rb(K:wa)(v w u:V)(H:Hp)(Q:VK)(E:XK):Prop|v{n:Int}(e2:u=.int n)(h0:Is K H v (.tuple [N U,TN Z]))(h1:Is K H w (TN S))(n0:0<=n)(n1:n<=64)(hl:Z.length=S.length)(hf:S.length<=50)(b0:af 2000 U)(b1:∀W,W<=n.toNat->af 2000 (U^W))(b2:∀W,W<=n.toNat->af 2000 (az U 1 W))(b3:∀W,af 6900 (S.getD W 0))(b4:∀W,af 6900 (Z.getD W 0))(q:Rs K H Q (TN ((wp S.length).map λW=>fh U (Z.getD W 0) n.toNat (S.getD W 0))))
theorem zrL(T:.q):kw P w base T.CZ 4 Rb:=by
 exists T.CZ,["both","places","many","push"],"c3",(ak (ay 3 ii (ao (zR T) hr (ae (aS (ae .H (ae .af ah))) (q1 2))))
     (au (aB (ao (SD T) hr (by exact(@ae _ _ _ _ _ .L (@ae _ _ _ _ _ .X (@ae _ _ _ _ _ (qi 3) (@ae _ _ _ _ _ (qi 3) ah ff) ff) cj) cj))))))
 obtain@⟨F,ss,xs,n,rfl,h0,h1,n0,n1,hl,hf,b0,b1,b2,b3,b4,q⟩:=h;o_head aA (j:=0) h0 rfl (λv1 i1=>?_);o_head Ht i1 (eQ 1 (T.yP _) rfl rfl) .bg;o_head Eo.v rfl i2 (b0.mono ⋯) (af.one.mono ⋯) n0 n1 (λi hi=>(b1 i hi).mono ⋯) (λi hi=>(b2 i hi).mono ⋯) .aG;k_few;rename_i v4 i4 v5 i5;have T3:=S2.trans S3;refine RM.v (h0.by T3) (h1.by T3) i4 i5 hl hf (b1 _ .Y) (b2 _ .Y) b3 b4 (λv6 H6 S6 i6=>?_);exact q v6 H6 (T3.trans S6) i6
inductive TK(K:wa)(v w u t:V)(H:Hp)(Q:VK)(E:XK):Prop|v{n:Int}(e3:t=.int n)(h0:Is K H v (R U Z))(h1:Is K H w (TZ S))(h2:Is K H u (TN W))(hl:S.length=W.length+1)(n0:0<=n)(ok:dY U Z S n.toNat)(b:∀Y,af 6900 (W.getD Y 0))(q:Rs K H Q (TN (aX U Z S n.toNat W)))
theorem zgZ(T:.q):ms P w base T.CG 8 TK:=by
 exists T.CG,["rule","sizes","places","many"],"c4",(au (aB (ao (zrL T) hr (ae (ao (tN T) hr (q2 0 1)) (q2 2 3)))))
 obtain@⟨ra,rb,ns,xs,n,rfl,hr',hn',hx',hl,n0,ok,bx,q⟩:=h;have h8:=ok.sz.bS;have hp:=ok.sz.pos;have hn60:=ok.bS;o_head ZU.v hr' hn' (p8 ok.ok ok.sz) () () .bD;o_head Rb.v rfl (Z:=cb ra rb ns) i1 (hx'.by S1) n0 () (by rw[m_ ()];lia) () (by have:=ok.sz.sum;exact(iC ok.ok _).mono ()) (λi hi=>(ok.pow hi).mono ⋯) (λi hi=>(ok.az hi).mono ⋯) bx (λi=>(ya ok.ok ok.sz i).mono ⋯) .bg;exact q v2 H2 .aM i2
theorem zq6{k:Nat}{F:Rat}(h:af k F):∀i:Nat,∃U:Int,GM.sumTo (az F 1) i=wB U (.be^i)/\Bd ((k+2)*i+2) U
 | 0=>⟨0,by simp[GM.sumTo],⟨by simp⟩⟩
 | i+1=>by
  obtain⟨U,e,bU⟩:=zq6 h i;obtain⟨T,e2,bT,bd⟩:=Bf h i;have hd:.be^i≠0:=qt (gG F);have hd1:.be^(i+1)≠0:=qt (gG F);have ed:.be^(i+1)=.be^i*.be:=qd ..;have h1:(k+2)*(i+1)=(k+2)*i+(k+2):=Qa ..;have h2:(k+1)*i<=(k+2)*i:=Wf i ();refine⟨(U+T)*.be,?_,((bU.add bT).mul h.b).mono ()⟩
  symm
  refine fT hd1 ?_;have k1:=dB U hd;have k2:=dB T hd;have e3:(((U+T)*.be:Int):Rat)=((U:Rat)+(T:Rat))*(.be:Rat):=by rw[vW,qp]
  rw[GM.sumTo,e,e2,ed,vW,e3,<- k1,<- k2]
  grind
theorem Pw(h:af k F)(i:Nat):af ((k+2)*i+2) (GM.sumTo (az F 1) i):=by
 obtain⟨U,e,bU⟩:=zq6 h i;obtain⟨T,e2,bT,bd⟩:=Bf h i;rw[e];exact af.divInt (qt (gG F)) bU (bd.mono (by have:=Wf i (show k<=k+2 by lia);lia))
theorem dY.sums{a:Rat}(h:dY a b ns n)(hi:i<=n):af 1662 (GM.sumTo (GM.az .E 1) i):=(Pw (iC h.ok _) i).mono (by
 have h1:=(h.le hi).k;have h2:=(h.le hi).bS;have e:(6*ns.sum.toNat+1+2)*i=(6*ns.sum.toNat+1+1)*i+i:=by rw[<- qD]
 lia)
theorem zDH(F s x:Rat)(n:Nat):GM.sumTo (λk=>fh F s k x) n=az F 1 n*x+GM.sumTo (az F 1) n*s:=by
 unfold fh;rw[Eh]
 have e1:GM.sumTo (λk=>F^k*x) n=az F 1 n*x:=by
  rw[<- DV F n,qh,<- zA];exact oh n λk _=>qh ..
 have e2:GM.sumTo (λk=>az F 1 k*s) n=GM.sumTo (az F 1) n*s:=by
  rw[qh (GM.sumTo (az F 1) n) s,<- zA];exact oh n λk _=>qh ..
 rw[e1,e2]
inductive NS(K:wa)(v w u:V)(H:Hp)(Q:VK)(E:XK):Prop|v{Z:.p}{n:Int}(e2:u=.int n)(h0:Is K H v (.tuple [N (U^Z.sum.toNat),TN (cb U S Z)]))(h1:Is K H w (TN W))(n0:0<=n)(ok:dY U S Z n.toNat)(hl:Z.length=W.length+1)(bx:∀Y,af 6900 (W.getD Y 0))(q:Rs K H Q (TN (gj (az (U^Z.sum.toNat) 1 n.toNat) (GM.sumTo (az (U^Z.sum.toNat) 1) n.toNat) W (cb U S Z))))
theorem zmb(T:.q):kw P w base T.JB 4 NS:=by
 exists T.JB,["both","places","many","of_place","of_shift","done"],"c3",(ak (ay 3 ii .G)
     (ak (ay 4 ii .G)
     (ak (eA w9 rfl (fA rfl T.h0j (q1 2)) (cV (i:=5) ii rfl .y) (ak (ay 4 ii (ao (ie T) hr (q2 4 3)))
     (au (ay 3 ii (ao (ie T) hr (ae (ao (mj T) hr (ae .H (q1 3))) (ae .af ah)))))))
     (au (aB (ao (SD T) hr (by exact(@ae _ _ _ _ _ .L (@ae _ _ _ _ _ .X (@ae _ _ _ _ _ .au (@ae _ _ _ _ _ (pv 4) ah cj) cj) cj) cj))))))))
 obtain@⟨ra,rb,xs,ns,n,rfl,h0,h1,n0,ok,hl,bx,q⟩:=h;have h8:=ok.sz.bS;have h60:=ok.bS;have bF:af 49 (ra^ns.sum.toNat):=(iC ok.ok _).mono (by have:=ok.sz.sum;lia);generalize hF:ra^ns.sum.toNat=F at *;o_head iA (n:=n) () () (λi σ H'=>∃(f g:V)(o:.bf),σ = [some x0,some x1,some (.int n),some f,some g,o]/\ar H H'/\Is K H' f (N (az F 1 i))/\Is K H' g (N (GM.sumTo (az F 1) i))) ⟨_,_,_,rfl,ar.refl H,eQ 0 (T.fv _) rfl rfl,eQ 0 (T.fv _) rfl rfl⟩ ?_ ?_
 . rintro i σ H' hi hz;obtain⟨f,g,o,rfl,S1,hf,hg⟩:=hz
   have h01:=h0.by S1;have bf:af 1601 (az F 1 i):=by rw[<- hF];exact ok.az ()
   have bg:af 1662 (GM.sumTo (az F 1) i):=by rw[<- hF];exact ok.sums ()
   have bm:af 1700 (F*az F 1 i):=(bF.mul bf).mono ⋯;k_few;rename_i v2 H2 S2 i2;refine aA (j:=0) (h01.by S2) rfl (λv3 i3=>?_);have hf2:=hf.by S2;k_few;rename_i v4 H4 S4 i4 v5 H5 S5 i5;exact⟨_,_,_,rfl,S1.trans (S2.trans .aN),i5,i2.by .aN⟩
 . rintro σ H' hz;obtain⟨f,g,o,rfl,S1,hf,hg⟩:=hz
   have bf:af 2000 (az F 1 n.toNat):=by rw[<- hF];exact(ok.az .Y).mono ⋯
   have bg:af 2000 (GM.sumTo (az F 1) n.toNat):=by rw[<- hF];exact(ok.sums .Y).mono ⋯
   o_head RM.v (h0.by S1) (h1.by S1) hf hg (by rw[m_ ()];lia) () bf bg bx (λi=>(ya ok.ok ok.sz i).mono ⋯) .bg;exact q v2 H2 .aM i2
theorem ztu{c d:Nat}{p q:Rat}(hx:.bB)(hs:Cm j ss)(bp:af c p)(bq:af d q):Cm (m+j+c+d+1) (gj p q xs ss):=by
 obtain⟨B,h0,h1,h2⟩:=hx;obtain⟨D,g0,g1,g2⟩:=hs;have hb:0<B*(p.den:Int)*(D*(q.den:Int)):=Wa (Wa h0 (den_pos p)) (Wa g0 (den_pos q));refine⟨_,hb,((h1.mul bp.b).mul (g1.mul bq.b)).mono (),λx hx=>?_⟩;obtain⟨i,hi,rfl⟩:=wQ.mp hx;have hi:=wH.mp hi;obtain⟨u,eu,bu⟩:=h2 _ (getD_mem (d:=0) hi)
 have hv:∃v:Int,ss.getD i 0=wB v D/\Bd j v:=by
  rcases wE i ss.length with z | z
  ·exact g2 _ (getD_mem z)
  ·rw[wb,wN z]
   exact⟨0,by simp,⟨by simp;exact Ws j⟩⟩
 obtain⟨v,ev,bv⟩:=hv;refine⟨p.num*u*(D*(q.den:Int))+q.num*v*(B*(p.den:Int)),?_,(((bp.t.mul bu).mul (g1.mul bq.b)).add ((bq.t.mul bv).mul (h1.mul bp.b))).mono ()⟩
 symm
 show wB _ _=p*xs.getD i 0+q*ss.getD i 0
 refine fT () ?_;have k1:=dB u (show B≠0 by lia);have k2:=dB v (show D≠0 by lia);have k3:=ki p;have k4:=ki q;rw[eu,ev];simp only[qp,vW];rw[<- k1,<- k2,<- k3,<- k4];generalize wB u B=y;generalize wB v D=z;generalize (B:Rat)=B';generalize (D:Rat)=D';generalize ((p.den:Int):Rat)=P';generalize ((q.den:Int):Rat)=Q'
 grind
theorem Zq{a:Rat}(ok:dY a b ns n)(c:.bB):Cm (m+188+2*((6*ns.sum.toNat+3)*n)) (aX a b ns n xs):=(ztu c (EJ ok.ok ok.sz) (zDe ok.ok _ n) (NV ok.ok _ n)).mono ()
def ik(a b:Rat)(ns:.p)(xs:.c)(n:Nat):Rat:=GM.sumTo (λk=>cP a b ns (aX a b ns k xs)) n
def jO(a b:Rat)(ns:.p)(xs:.c)(n:Nat):List Rat:=(gj (az .E 1 n) (GM.sumTo (az .E 1) n) xs (cb a b ns)).map λt=>t / .bm
theorem Rp(a b:Rat)(ns:.p)(xs:.c)(n:Nat):(jO a b ns xs n).length=xs.length:=by unfold jO;rw[wl,pT]
theorem Ip(h:1<=n):.bm≠0:=λe=>by
 have:=Vt.mp e;lia
theorem Tv{a:Rat}(hi:i<xs.length):(jO a b ns xs n).getD i 0=(gj (az .E 1 n) (GM.sumTo (az .E 1) n) xs (cb a b ns)).getD i 0 / .bm:=by
 unfold jO;rw[wb,wu,wc (by rw[pT];exact hi),wb,wc (by rw[pT];exact hi)]
 rfl
theorem zug{a:Rat}(hl:.z)(h1:1<=n):.bm*cP a b ns (jO a b ns xs n)=ik a b ns xs n:=by
 unfold ik;refine RT hl (λk=>aX a b ns k xs) (λk=>bZ ..) n _ h1 (Rp ..) λi hi=>?_
 rw[Tv hi,WA (Ip h1),Z1 hi,<- zDH];exact oh n λk _=>(fD hi).symm
theorem Ep(h:n<=60):af 6 .bm:=by
 have e:(2:Nat)^6=64:=by decide
 exact⟨⟨by rw[xP,e];lia⟩,⟨by rw[xQ];decide⟩⟩
theorem zCg{a:Rat}(h:.aH)(S n:Nat):af ((6*S+3)*n+2) (GM.sumTo (az (a^S) 1) n):=Pw (iC h S) n
theorem PR{a:Rat}(ok:dY a b ns n)(c:.bB):Cm (m+189+2*((6*ns.sum.toNat+3)*n)) (gj (az .E 1 n) (GM.sumTo (az .E 1) n) xs (cb a b ns)):=(ztu c (EJ ok.ok ok.sz) (NV ok.ok _ n) (zCg ok.ok _ n)).mono ()
theorem zAa{a:Rat}(ok:dY a b ns n)(h1:1<=n)(c:.bB):Cm (m+195+2*((6*ns.sum.toNat+3)*n)) (jO a b ns xs n):=by
 unfold jO;exact(YH (PR ok c) (Ep ok.bS) (Ip h1)).mono ()
inductive ziG(K:wa)(v w u t:V)(H:Hp)(Q:VK)(E:XK):Prop|v{Y:Nat}{n:Int}(e3:t=.int n)(h0:Is K H v (R U Z))(h1:Is K H w (TZ S))(h2:Is K H u (TN W))(hl:S.length=W.length+1)(n0:0<=n)(ok:dY U Z S n.toNat)(c:Cm Y W)(hm:Y+2*((6*S.sum.toNat+3)*n.toNat)<=6700)(q:Rs K H Q (N (ik U Z S W n.toNat)))
theorem yT{n:Int}(q:Rs K H Q (N (n:Rat))):nF K [.int n,.int 1] H Q:=dg (r:=(n:Rat)) (xP n).symm (by rw[xQ];rfl) q
theorem zo8(T:.q):ms P w base T.J0 8 ziG:=by
 exists T.J0,["rule","sizes","places","many","count","mean"],"c4",(ak (aY (dP mQ .au av (dF _)) (au (aB .G)) aZ)
     (ak (ay 4 ii (aS (ae .au .O)))
     (ak (ay 5 ii (fi K T.h0i (ae (d4 rfl (cW ["total","count"] [none,some 4]) (kf (ao (zmb T) hr (ae (ao (tN T) hr (q2 0 1)) (q2 2 3)))) .U .an (λ_ _ _ _ _=>(ao (ZO T:) hr (q2 0 1)))) ah)))
     (au (aB (ao (mj T) hr (ae (pv 4) (ae (ao (zqw T) hr (q3 0 1 5)) ah))))))))
 obtain@⟨ra,rb,ns,xs,m,n,rfl,hr',hn',hx',hl,n0,ok,c,hm,q⟩:=h;have h8:=ok.sz.bS;have hp:=ok.sz.pos;have h60:=ok.bS;have hu:=ok.sz.upTo;obtain⟨n,rfl⟩:∃j:Nat,n=(j:Int):=⟨n.toNat,by lia⟩;rw[wD]at q ok h60 hm;k_few
 . rename_i z
   have hz:n=0:=by lia
   subst hz;exact q _ H .ax (eQ 0 (T.fv _) rfl rfl)
 . rename_i z
   have h1n:1<=n:=by lia
   have cM:=zAa ok h1n c;have hml:=Rp ra rb ns xs n;have hne:=Ip h1n;have bn:af 6 .bm:=Ep h60;refine yT .bD;o_head ZU.v (hr'.by S1) (hn'.by S1) (p8 ok.ok ok.sz) () () .bg;have T2:=S1.trans S2;o_head NS.v rfl (U:=ra) (S:=rb) (Z:=ns) i2 (hx'.by T2) () (by rw[wD];exact ok) hl (λi=>(c.get i).mono ()) .aG;rw[wD]at i3;have i13:=i1.by .bF;obtain⟨a3,us,rfl,hs3,t3⟩:=bY.mp i3;have hul:=t3.length;rw[wl,pT]at hul;have bw:∀i,af 8100 ((gj (az (ra^ns.sum.toNat) 1 n) (GM.sumTo (az (ra^ns.sum.toNat) 1) n) xs (cb ra rb ns)).getD i 0):=λi=>((PR ok c).get i).mono ()
   o_head jz hs3 (o0:=none) (tl:=[some v1]) rfl (λj y H'=>Is K H' y (N ((jO ra rb ns xs n).getD j 0))) ?_ ?_
   . intro D j x ys o H4 hx inv
     obtain⟨hj,ix⟩:=cw t3 hx;rw[pT]at hj;o_head UU.v (ix.by inv.same) (i13.by inv.same) ((bw j).mono ⋯) (bn.mono ⋯) hne (λv5 H5 S5 i5=>?_);rw[<- Tv hj]at i5;exact d_ inv () eS ⟨_,rfl⟩ S5 i5
   . intro D ys H4 hn4 S4 e4 hl4 hr4
     have tz:ai K H4 ys ((jO ra rb ns xs n).map N):=e_ (by rw[hl4,hul,hml]) hr4;o_head gP (b_ e4 tz) (λv5 H5 S5 i5=>?_);have T5:=T2.trans (S3.trans .aN);have rok:dj ra rb ns (jO ra rb ns xs n):=⟨ok.ok.ba,ok.ok.bb,λk hk=>by have:=ok.sz.each k hk;lia,by rw[hml];exact hl,by lia,⟨_,cM,by lia⟩⟩;o_head Zb.v (hr'.by T5) (hn'.by T5) i5 rok cM () (λv6 H6 S6 i6=>?_);have bt:af 8000 (cP ra rb ns (jO ra rb ns xs n)):=(YD rok cM () .Y).d6 .bn;have i16:=i13.by (S4.trans (S5.trans S6));k_few;rename_i v7 H7 S7 i7;rw[zug hl h1n]at i7;exact q v7 H7 (T5.trans (S6.trans S7)) i7
def kc(ts:.c):List Bool:=ts.map λx=>decide (1<x)
theorem O1{ts:.c}(h:i<ts.length):(kc ts).getD i true=decide (1<ts.getD i 0):=by
 unfold kc;rw[wb,wu,wb,wc h]
 rfl
def je(a b:Rat)(ns:.p):Bool:=!((kc (cX a b ns (bQ a b ns))).any id)
theorem zuT{a:Rat}(h:.aH)(k:cQ ns)(hF:a^ns.sum.toNat≠1):dj a b ns (bQ a b ns):=⟨h.ba,h.bb,λn hn=>by have:=k.each n hn;lia,by rw[kj k.some];have:=k.some;lia,by have:=k.bS;lia,⟨268,BK h.ba h.bb k.bS k.upTo (by have:=k.sum;lia) hF,by have:=k.bS;have:=k.upTo;lia⟩⟩
inductive Y5(K:wa)(v w:V)(H:Hp)(Q:VK)(E:XK):Prop|v(h1:Is K H v (R U Z))(h2:Is K H w (TZ S))(ok:aM U Z)(sz:cQ S)(ha:U≠1)(q:Rq H Q (.bl (je U Z S)))
theorem Sx(T:.q):jp P w base T.CJ 9 Y5:=by
 exists T.CJ,["rule","sizes"],"c2",(au (aB (pG (dw (show bM _ (.builtin "any") (El K)from zyq rfl) rfl T.h0s zFO (ae (d4 rfl (cW ["top"] [none]) (kf (ao (Yo T) hr (ae .L (ae .X (ae (ao (OJ T) hr (q2 0 1)) ah))))) .U .an (λ_ _ _ _ _=>(ao (iH T:) hr (ae .af (q1 0))))) ah)))))
 obtain@⟨ra,rb,ns,hr',hn',ok,sz,ha,q⟩:=h;have h8:=sz.bS;have hps:=sz.pos;have hF:ra^ns.sum.toNat≠1:=λe=>ha ((j7 ok ()).mp e)
 have rok:=zuT ok sz hF;o_head Rf.v hr' hn' (p8 ok sz) () () (λe=>absurd e hF) (λ_ v1 H1 S1 i1=>?_);o_head Y7.v (hr'.by S1) (hn'.by S1) i1 rok .bg;obtain⟨a2,us,rfl,hs2,t2⟩:=bY.mp i2;have hl2:=t2.length;rw[wl,fb]at hl2;refine jz hs2 (o0:=none) (tl:=[]) rfl (λi v H=>v=V.bl ((kc (cX ra rb ns (bQ ra rb ns))).getD i true)) ?_ ?_
 ·rintro D i x ys o H3 hx inv
  obtain⟨hi,ix⟩:=cw t2 hx;rw[fb]at hi;have ix3:=ix.by inv.same;have b1:=B_ rok hi;have b2:af 1 1:=af.one;k_few;exact d_ inv () (λ_ _ _ _ _ h=>h) ⟨_,rfl⟩ .ax (by rw[O1 (by rw[fb];exact hi)])
 ·rintro D ys H3 hn3 S3 e3 hl3 hr3
  have hz:=pA (bs:=kc (cX ra rb ns (bQ ra rb ns))) (by unfold kc;rw[wl,fb];lia) hr3;rw[hz]at e3;o_head zCl (.of e3) ?_;k_few;exact q _ (S1.trans .bF)
def pC(ss:.c):List Bool:=ss.map λs=>decide (s=0)
theorem zzB{ts:.c}(h:i<ts.length):(pC ts).getD i true=decide (ts.getD i 0=0):=by
 unfold pC;rw[wb,wu,wb,wc h]
 rfl
def dS(a b:Rat)(ns:.p)(xs:.c):Bool:=if 1<a then decide (xs=bQ a b ns)else if a=1 then(pC (cb a b ns)).all id else je a b ns
inductive Ox(K:wa)(v w u:V)(H:Hp)(Q:VK)(E:XK):Prop|v(h1:Is K H v (R U Z))(h2:Is K H w (TZ S))(h3:Is K H u (TN W))(ok:aM U Z)(sz:cQ S)(q:Rq H Q (.bl (dS U Z S W)))
theorem zqt(T:.q):kw P w base T.Kh 10 Ox:=by
 exists T.Kh,["rule","sizes","places","way"],"c3",(ak (ay 3 ii (ao (SG T) hr (q1 0)))
     (ak (aY (eX K hu .au fJ) (au (aB (jc K hu (fi K T.h0i (q1 2)) (ao (OJ T) hr (q2 0 1))))) aZ)
     (ak (aY (eX K hu .au fJ) (au (aB (dw (show bM _ (.builtin "all") (mW K)from rE rfl) rfl T.h0q pj (ae (d4 rfl (cW ["shift"] [none]) (kf (eC (ao (tN T) hr (q2 0 1)))) .U .an (λ_ _ _ _ _=>(jc K hu .L .G))) ah)))) aZ)
     (au (aB (ao (Sx T) hr (q2 0 1)))))))
 obtain@⟨ra,rb,ns,xs,hr',hn',hx',ok,sz,q⟩:=h;have h8:=sz.bS;have h1:=sz.some;have hps:=sz.pos;o_head zxe.v hr' (ok.ba.mono ⋯) ?_;unfold s_;unfold dS at q
 by_cases z1:1<ra
 . rw[if_pos z1]at q ⊢
   have hF:ra^ns.sum.toNat≠1:=λe=>absurd ((j7 ok ()).mp e) .aB
   o_head kB _ _ true (by rw[wR];decide) ?_;o_head Y3 hx' ?_;o_head Rf.v hr' hn' (p8 ok sz) () () (λe=>absurd e hF) (λ_ v1 H1 S1 i1=>?_);o_head Fc (hx'.by S1) i1 ?_;exact q _ S1
 . rw[if_neg z1]at q ⊢
   by_cases z2:ra=1
   . rw[if_pos z2]at q ⊢
     o_head kB _ _ false (by rw[wR];decide) ?_;o_head kB _ _ true (by rw[wR];decide) ?_;o_head ZU.v hr' hn' (p8 ok sz) () () .bD;o_head aA (j:=1) i1 rfl (λv2 i2=>?_);obtain⟨a2,us,rfl,hs2,t2⟩:=bY.mp i2;have hl2:=t2.length;rw[wl]at hl2;have hsl:(cb ra rb ns).length=ns.length-1:=m_ h1;have t2:ai K H1 us ((cb ra rb ns).map N):=t2;have hl2:us.length=(cb ra rb ns).length:=hl2;refine jz hs2 (o0:=none) (tl:=[]) rfl (λi v H=>v=V.bl ((pC (cb ra rb ns)).getD i true)) ?_ ?_
     . rintro D i x ys o H3 hx inv
       obtain⟨hi,ix⟩:=cw t2 hx;have ix3:=ix.by inv.same;k_few;exact d_ inv () (λ_ _ _ _ _ h=>h) ⟨_,rfl⟩ .ax (by rw[zzB hi])
     . rintro D ys H3 hn3 S3 e3 hl3 hr3
       have hz:=pA (bs:=pC (cb ra rb ns)) (by unfold pC;rw[wl];lia) hr3;rw[hz]at e3;o_head oA (.of e3) ?_;exact q _ (S1.trans S3)
   . rw[if_neg z2]at q ⊢
     o_head kB _ _ false (by rw[wR];decide) ?_;o_head kB _ _ false (by rw[wR];decide) ?_;k_few;exact Y5.v hr' hn' ok sz z2 q
theorem zBu(k:Nat):aX 1 b ns k xs=dX ((k:Int):Rat) xs (aX 1 b ns 1 xs):=by
 have hl:=bZ 1 b ns 1 xs;refine hV (by rw[bZ,ly ()]) λi hi=>?_
 rw[bZ]at hi;rw[jf () hi,fD hi,fD hi,GM.one_pow',mr,mr,h9,h9,GM.one_pow',GM.one_pow'];generalize (cb 1 b ns).getD i 0=s;rw[yb 1 s k,yb 1 s 1,Jh,Jh];have e:(((1:Nat):Int):Rat)=1:=by decide
 rw[e]
 grind
theorem Dq{a:Rat}(hF:a^ns.sum.toNat≠1)(hl:.z)(k:Nat):aX a b ns k xs=dX (.E^k) (bQ a b ns) xs:=by
 have hs:(bQ a b ns).length=xs.length:=by rw[kj ()];lia
 refine hV (by rw[bZ,ly hs,hs]) λi hi=>?_
 rw[bZ]at hi;rw[jf hs (),fD hi,OI (BF hF ())]
theorem UH{u v:Rat}(c0:0<=c)(c1:c<=1)(h:x<u)(k:y<v):x+c*(y-x)<u+c*(v-u):=by
 by_cases z:c=1
 ·subst z;grind
 ·have p:0<1-c:=by have:=qq c1 z;grind
  have h1:=VB p (show 0<u-x by grind);have h2:=qF c0 (show 0<=v-y by grind)
  grind
theorem zC1(c0:0<c)(c1:c<=1)(h:x<=1)(k:y<1):x+c*(y-x)<1:=by
 have h1:=qF (show 0<=1-c by grind) (show 0<=1-x by grind);have h2:=VB c0 (show 0<1-y by grind)
 grind
theorem mS{a:Rat} : cE a b ns xs=true ↔ (∀i,i<xs.length+1->(cB xs).getD (i+1) 0<(cB xs).getD i 0) /\ ∀i,i<ns.length->(cX a b ns xs).getD i 0<1:=by
 unfold cE;rw[w8,Wk,Wk]
 constructor
 ·rintro ⟨h1,h2⟩
  refine⟨λi hi=>?_,λi hi=>?_⟩
  ·have:=h1 _ (wQ.mpr ⟨i,wH.mpr hi,rfl⟩)
   exact of_decide_eq_true this
  ·have:=h2 _ (wQ.mpr ⟨_,getD_mem (d:=0) (show i<(cX a b ns xs).length by rw[fb];exact hi),rfl⟩)
   exact of_decide_eq_true this
 ·rintro ⟨h1,h2⟩
  refine⟨λx hx=>?_,λx hx=>?_⟩
  ·obtain⟨i,hi,rfl⟩:=wQ.mp hx
   exact decide_eq_true (h1 i (wH.mp hi))
  ·obtain⟨t,ht,rfl⟩:=wQ.mp hx
   obtain⟨i,hi,rfl⟩:=wQ.mp ht;have:=h2 i (wH.mp hi);rw[lA (wH.mp hi)]at this;exact decide_eq_true this
theorem zzv(c:Rat)(h:.Z):cB (dX c xs ys)=dX c (cB xs) (cB ys):=by
 unfold cB;rw[HA c (xs:=[1]++xs) (ys:=[1]++ys) (by simp[h])]
 have:dX c ([1]++xs) ([1]++ys)=[1]++dX c xs ys:=by
  show(1+c*(1-1))::dX c xs ys=1::dX c xs ys
  congr 1
  grind
 rw[this]
theorem Yg{a:Rat}(c:Rat)(hn:.z)(h:.Z)(hi:i<ns.length):(cX a b ns (dX c xs ys)).getD i 0=(cX a b ns xs).getD i 0+c*((cX a b ns ys).getD i 0-(cX a b ns xs).getD i 0):=by
 have hm:(i+1) % ns.length<ns.length:=qr _ ();rw[lA hi,lA hi,lA hi,<- HA c h,Dl a b ns c (by simp[h]) (i+1) .aL,jf (by rw[dy,dy];simp[h]) (by rw[dy];simp;lia)]
theorem zzU{a:Rat}(hn:.z)(h:.Z)(c0:0<=c)(c1:c<=1)(fx:cE a b ns xs=true)(fy:cE a b ns ys=true):cE a b ns (dX c xs ys)=true:=by
 have hl:=ly (c:=c) h;obtain⟨x1,x2⟩:=mS.mp fx;obtain⟨y1,y2⟩:=mS.mp fy;refine mS.mpr ⟨λi hi=>?_,λi hi=>?_⟩
 ·rw[hl]at hi
  rw[zzv c h,jf (by rw[iF,iF,h]) (by rw[iF];lia),jf (by rw[iF,iF,h]) (by rw[iF];lia)];exact UH c0 c1 (x1 i hi) (y1 i ())
 ·rw[Yg c hn h hi]
  have:=UH c0 c1 (x2 i hi) (y2 i hi);have e:(1:Rat)+c*(1-1)=1:=by grind
  rw[e]at this;exact this
theorem Pe:∀l:List Rat,(∀i,i+1<l.length->l.getD (i+1) 0<l.getD i 0)->l.Pairwise (· > ·)
 | [],_=>.nil
 | x::l,h=>by
  have h':∀i,i+1<l.length->l.getD (i+1) 0<l.getD i 0:=λi hi=>by
   have:=h (i+1) .aL
   simpa using this
  have hd:∀j,j<l.length->l.getD j 0<x:=λj=>by
   induction j with
   | zero=>intro hj;have:=h 0 .aL;simpa using this
   | succ j ih=>intro hj;have h3:=h' j hj;have h4:=ih ();grind
  refine Vh.mpr ⟨λy hy=>?_,Pe l h'⟩;obtain⟨j,hj,e⟩:=wX hy;have:=hd j hj;rw[wb,wc hj]at this
  show y<x
  rw[<- e];exact this
theorem zBD{l:.c}(h:l.Pairwise (· > ·))(hi:i+1<l.length):l.getD (i+1) 0<l.getD i 0:=by
 rw[wb,wb,wc hi,wc (show i<l.length by lia)];exact(WD.mp h) i (i+1) () hi ()
theorem oS(xs:.c)(i:Nat):(cB xs).getD (i+1) 0=(xs++[0]).getD i 0:=by
 unfold cB;rw[Vo]
 rfl
theorem Td(h:∀i,i<xs.length+1->(cB xs).getD (i+1) 0<(cB xs).getD i 0):jg .bi/\(xs++[0]).getD 0 0<1:=by
 have pw:(xs++[0]).Pairwise (· > ·):=Pe _ λi hi=>by
  have:=h (i+1) (by simp at hi;lia);rw[oS,oS]at this;exact this
 refine⟨⟨pw,λy hy=>?_⟩,?_⟩
 ·rcases Wc.mp hy with z | z
  ·exact vY ((qL.mp pw).2.2 y z 0 (vc.mpr rfl))
  ·rw[vc.mp z];exact WV
 ·have:=h 0 ()
  rw[oS]at this;exact this
theorem OU(pw:(xs++[0]).Pairwise (· > ·))(one:(xs++[0]).getD 0 0<1):∀i,i<xs.length+1->(cB xs).getD (i+1) 0<(cB xs).getD i 0
 | 0,_=>by rw[oS];exact one
 | i+1,hi=>by rw[oS,oS];exact zBD pw .aL
theorem Dk{a:Rat}(h:.z):cF a b ns xs++[0]=aP a b ns .bi ns.length:=by
 have hl:=ny (a:=a) (b:=b) h;have hr:(aP a b ns .bi ns.length).length=xs.length+1:=by rw[dy];simp
 refine hV (by rw[hr,wL,hl];rfl) λi hi=>?_
 rw[wL,hl]at hi;have hi:i<xs.length+1:=hi;rcases wE i xs.length with z | z
 ·rw[Eu (),EN h z]
 ·have e:i=xs.length:=by lia
  have e2:(cF a b ns xs++[0]).getD i 0=0:=by rw[e,<- hl];exact sV
  rw[e2,e,h,aP,gM _ _ _ _ _ _ (by rw[dy];simp),if_pos rfl]
theorem UI{a b:Rat}(a0:0<a)(b0:0<=b){ns:.p}{row:.c}(F:jg row)(one:row.getD 0 0<1)(jy:∀t,t<row.length->eZ a b ns row t<1):∀i,i<=row.length->jg (turned a b ns row i)
 | 0,_=>F
 | i+1,hi=>by
  have ih:=UI a0 b0 F one jy i ()
  have oi:(aP a b ns row i).getD i 0<1:=by
   cases i with
   | zero=>exact one
   | succ j =>
    have:=jy j ();unfold eZ at this;rw[xC ()]at this;exact this
  obtain⟨x,l,ex⟩:∃x l,turned a b ns row i=x::l:=by
   cases e:turned a b ns row i with
   | nil =>
    have:=Dm a b ns row () i;rw[e]at this;simp at this;lia
   | cons x l=>exact⟨x,l,rfl⟩
  have hx:x=(aP a b ns row i).getD i 0:=by
   have:=Et a b ns row (show i<row.length by lia);rw[ex]at this;exact this
  show jg (om a b (ns.getD i 0).toNat (turned a b ns row i))
  rw[ex]at ih ⊢;exact ih.step a0 b0 (by rw[hx];exact oi)
theorem zpt{a:Rat}(ok:.aH)(hn:.z)(f:cE a b ns xs=true):∀i,i<(cF a b ns xs).length+1->(cB (cF a b ns xs)).getD (i+1) 0<(cB (cF a b ns xs)).getD i 0:=by
 obtain⟨h1,h2⟩:=mS.mp f;obtain⟨F,one⟩:=Td h1;have hl:(xs++[0]).length=ns.length:=by simp[hn]
 have jy:∀t,t<(xs++[0]).length->eZ a b ns .bi t<1:=λt ht=>by
  have:=h2 t ();rw[lA ()]at this;unfold eZ;rw[hl];exact this
 have Fl:=UI ok.a0 ok.b0 F one jy (xs++[0]).length .Y;rw[hl,zw1 a b ns _ hl.symm,<- Dk hn]at Fl;have t:=jy .aJ ();unfold eZ at t;rw[hl,show ns.length-1+1=ns.length by lia,Nat.mod_self,<- Dk hn]at t;exact OU Fl.pw t
theorem zF3{a:Rat}(h:.aH){S:Nat}(hS:1<=S)(ha:a<1):0<a^S/\a^S<=1:=by
 obtain⟨m,rfl⟩:∃m,S=m+1:=⟨S-1,by lia⟩;exact⟨ox h.a0 _,vY (Oq h.a0 ha m)⟩
theorem zyD{a:Rat}(ok:.aH)(sz:cQ ns)(hn:.z)(ha:a<1)(d:je a b ns=true)(f:cE a b ns xs=true):cE a b ns (aX a b ns 1 xs)=true:=by
 have hps:=sz.pos
 have hF:a^ns.sum.toNat≠1:=λe=>by
  have:=(j7 ok ()).mp e;rw[this]at ha;exact absurd ha ⋯
 have hs:(bQ a b ns).length=xs.length:=by rw[kj sz.some];lia
 refine mS.mpr ⟨?_,λi hi=>?_⟩
 ·rw[nT hn sz.nn]
  exact zpt ok hn f
 ·rw[Dq hF hn 1,Yg _ () hs hi]
  have hp:=zF3 ok (show 1<=ns.sum.toNat by lia) ha;have e1:.E^1=a^ns.sum.toNat:=by rw[WS,VF,Qx]
  rw[e1];refine zC1 hp.1 hp.2 ?_ ((mS.mp f).2 i hi);unfold je at d;rw[WX,List.any_eq_false]at d;have:=d (decide (1<(cX a b ns (bQ a b ns)).getD i 0)) (wQ.mpr ⟨_,getD_mem (d:=0) (show i<(cX a b ns (bQ a b ns)).length by rw[fb];exact hi),rfl⟩)
  by_cases z:1<(cX a b ns (bQ a b ns)).getD i 0
  ·exact absurd (decide_eq_true z) this
  ·exact W6.mp z
theorem zCc(c:Rat)(xs:.c):dX c xs xs=xs:=hV (ly rfl) λi hi=>by
 rw[ly rfl]at hi;rw[jf rfl hi]
 grind
def cv(a b:Rat)(ns:.p)(xs:.c)(k:Nat):Bool:=cE a b ns (aX a b ns k xs)
theorem lQ{a:Rat}(ok:.aH)(sz:cQ ns)(hk:k<=31):dY a b ns k:=⟨ok,sz,by lia,by
 have h1:=sz.sum;have h2:(6*ns.sum.toNat+1+1)*k<=50*k:=Wf k ();lia⟩
theorem Z3{a:Rat}(ok:.aH)(sz:cQ ns)(c:.bB)(hk:k<=31):Cm (m+188+102*k) (aX a b ns k xs):=(Zq (lQ ok sz hk) c).mono (by
 have h1:=sz.sum;have h2:(6*ns.sum.toNat+3)*k<=51*k:=Wf k ();lia)
theorem FY{a:Rat}(ok:.aH)(sz:cQ ns)(hn:.z)(c:.bB)(hm:m<=3700)(hk:k<=30):dj a b ns (aX a b ns k xs):=⟨ok.ba,ok.bb,λn hn=>by have:=sz.each n hn;lia,by rw[bZ];exact hn,by have:=sz.bS;lia,⟨_,Z3 ok sz c (),by have:=sz.bS;have:=sz.upTo;lia⟩⟩
def Je(K:wa)(a:Ad):Sp:=λvs H Q E=>∃x0 x1 x2,vs=[x0,x1,x2] /\ ∃(ra rb:Rat)(ns:.p)(xs:.c),Is K H x0 (R ra rb)/\Is K H x1 (TZ ns)/\Is K H x2 (TN xs)/\aM ra rb/\cQ ns/\ns.length=xs.length+1/\dj ra rb ns xs/\(dS ra rb ns xs=false->∃n:Nat,n<=30/\(n=30\/cv ra rb ns xs n=false)/\(∀k,k<=n->dj ra rb ns (aX ra rb ns k xs))/\(∀k,k<n->∀j,af 6900 ((aX ra rb ns k xs).getD j 0))) /\
 (cv ra rb ns xs 0=false->Rq H Q (.int 0)) /\
 (cv ra rb ns xs 0=true->dS ra rb ns xs=true->Rq H Q .bE) /\
 (∀c:Nat,1<=c->c<=30->dS ra rb ns xs=false->(∀k,k<c->cv ra rb ns xs k=true)->cv ra rb ns xs c=false->Rq H Q (.int (c:Int))) /\
 (dS ra rb ns xs=false->(∀k,k<=30->cv ra rb ns xs k=true)->∀H',ar H H'->E (.ref a.gg) none H')
theorem zoc{v w:V}(h1:Is K H v (R ra rb))(h2:Is K H w (TZ ns))(h3:Is K H u (TN xs))(ok:aM ra rb)(sz:cQ ns)(hn:.z)(r0:dj ra rb ns xs)(hb:dS ra rb ns xs=false->∃n:Nat,n<=30/\(n=30\/cv ra rb ns xs n=false)/\(∀k,k<=n->dj ra rb ns (aX ra rb ns k xs))/\(∀k,k<n->∀j,af 6900 ((aX ra rb ns k xs).getD j 0)))
  (q0:cv ra rb ns xs 0=false->Rq H Q (.int 0))
  (q1:cv ra rb ns xs 0=true->dS ra rb ns xs=true->Rq H Q .bE)
  (q2:∀c:Nat,1<=c->c<=30->dS ra rb ns xs=false->(∀k,k<c->cv ra rb ns xs k=true)->cv ra rb ns xs c=false->Rq H Q (.int (c:Int)))
  (q3:dS ra rb ns xs=false->(∀k,k<=30->cv ra rb ns xs k=true)->∀H',ar H H'->E (.ref a.gg) none H'):Je K a [v,w,u] H Q E:=⟨_,_,_,rfl,ra,rb,ns,xs,h1,h2,h3,ok,sz,hn,r0,hb,q0,q1,q2,q3⟩
theorem zo4{v w:V}(h1:Is K H v (R ra rb))(h2:Is K H w (TZ ns))(h3:Is K H u (TN xs))(ok:aM ra rb)(sz:cQ ns)(hn:.z)(c:.bB)(hm:m<=3700)
  (q0:cv ra rb ns xs 0=false->Rq H Q (.int 0))
  (q1:cv ra rb ns xs 0=true->dS ra rb ns xs=true->Rq H Q .bE)
  (q2:∀c:Nat,1<=c->c<=30->dS ra rb ns xs=false->(∀k,k<c->cv ra rb ns xs k=true)->cv ra rb ns xs c=false->Rq H Q (.int (c:Int)))
  (q3:dS ra rb ns xs=false->(∀k,k<=30->cv ra rb ns xs k=true)->∀H',ar H H'->E (.ref a.gg) none H'):Je K a [v,w,u] H Q E :=
 zoc h1 h2 h3 ok sz hn (by have:=FY ok sz hn c hm (k:=0) ⋯;rw[kx]at this;exact this) (λ_=>⟨30,wo 30,.inl rfl,λk hk=>FY ok sz hn c hm hk,λk hk j=>((Z3 ok sz c (k:=k) ()).get j).mono ()⟩) q0 q1 q2 q3
theorem zpY(T:.q):dL P w base T.J3 11 (Je K a):=by
 exists T.J3,["rule","sizes","places","both","ahead","count"],"y3",(ak (aY (cR (cz (ao (sH T) hr (q3 0 1 2)))) (au (aB av)) aZ)
     (ak (aY (cz (ao (zqt T) hr (q3 0 1 2))) (au (aB fS)) aZ)
     (ak (ay 3 ii (ao (tN T) hr (q2 0 1)))
     (ak (ay 4 ii .aV)
     (ak (eA ug rfl (zyQ rfl T.h0j (ae av (ae (aD cN (nI rfl T.Li) av) ah))) (cV (i:=5) ii rfl .y) (ak (ay 4 ii (ao (zrL T) hr (ae .au (ae (pv 4) .O))))
     (au (aY (cR (cz (ao (sH T) hr (q3 0 1 4)))) (au (aB (pv 5))) aZ))))
     (au (zvm T.aao rfl rfl T.L5 Oe (ae fJ ah))))))))
 obtain⟨ra,rb,ns,xs,hr',hn',hx',ok,sz,hn,r0,hb,q0,q1,q2,q3⟩:=h;have h8:=sz.bS;have h1:=sz.some;have hps:=sz.pos;have e0:cv ra rb ns xs 0=cE ra rb ns xs:=by unfold cv;rw[kx]
 o_head zpd.v hr' hn' hx' r0 (λH1 S1=>?_);k_few
 . rename_i z
   exact q0 (by rw[e0];exact z) H1 S1
 . rename_i z
   have hr1:=hr'.by S1;have hn1:=hn'.by S1;have hx1:=hx'.by S1;refine Ox.v hr1 hn1 hx1 ok sz (λH2 S2=>?_);k_few
   . rename_i y
     exact q1 (by rw[e0];exact z) y H2 .aM
   . rename_i y
     have y:dS ra rb ns xs=false:=by first | exact y | exact uH _ ▸ y
     obtain⟨n,n30,stop,rd,bd⟩:=hb y;refine ZU.v (hr1.by S2) (hn1.by S2) (p8 ok sz) () () .aG;have T3:ar H H3:=S1.trans .bF;have hr3:=hr'.by T3;have hn3:=hn'.by T3;have hx3:=hx'.by T3;clear hr1 hn1 hx1 S1 S2 S3;o_head zBB ?_;o_head zvD (lo:=1) (hi:=31) ⋯ ⋯ ⋯ ⋯ (λi σ H'=>∃(v:V)(o:.bf),σ = [some x0,some x1,some x2,some v3,some v,o]/\ar H3 H'/\Is K H' v (TN (aX ra rb ns i xs)) /\ ∀k,k<=i->cv ra rb ns xs k=true) ⟨_,_,rfl,ar.refl _,by rw[kx];exact hx3,λk hk=>by rw[show k=0 by lia,e0];exact z⟩ ?_ ?_
     . rintro i σ H4 hi hz;obtain⟨v,o,rfl,S4,iv,fr⟩:=hz
       have hi:i<30:=hi;have i34:=i3.by S4
       have hin:i<n:=by
         rcases stop with e | e
         . lia
         . rcases wE i n with u | u
           . exact u
           . rw[fr n u]at e;cases e
       o_head Rb.v rfl (Z:=cb ra rb ns) i34 iv ⋯ ⋯ (by rw[m_ h1,bZ];lia) (by rw[bZ];lia) ((iC ok _).mono (by have:=sz.sum;lia)) (λj hj=>((lQ ok sz (k:=1) ⋯).pow hj).mono ⋯) (λj hj=>((lQ ok sz (k:=1) ⋯).az hj).mono ⋯) (λj=>bd i hin j) (λj=>(ya ok sz j).mono ⋯) (λv5 H5 S5 i5=>?_);have i5:Is K H5 v5 (TN (aX ra rb ns 1 (aX ra rb ns i xs))):=i5;rw[pU]at i5;have T5:=S4.trans S5;o_head zpd.v (hr3.by T5) (hn3.by T5) i5 (rd (i+1) ()) (λH6 S6=>?_);have T6:=T5.trans S6;k_few
       . rename_i w
         have q:=q2 (i+1) () () y (λk hk=>fr k ()) (by unfold cv;exact w) H6 (T3.trans T6);rw[show((i+1:Nat):Int)=1+(i:Int) by lia]at q;exact q
       . rename_i w
         refine⟨_,_,rfl,T6,i5.by S6,λk hk=>?_⟩;rcases wE k (i+1)with u | u
         . exact fr k ()
         . have:k=i+1:=by lia
           subst this;unfold cv
           first | exact w | exact Bool.not_eq_false _ ▸ w
     . rintro σ H4 hz;obtain⟨v,o,rfl,S4,iv,fr⟩:=hz
       k_few;exact⟨by simp;decide,q3 y (λk hk=>fr k hk) H4 (T3.trans S4)⟩
inductive zlp(K:wa)(v u:V)(H:Hp)(Q:VK)(E:XK):Prop|v{U:.c}(e1:u=.int (U.length:Int))(i:Is K H v (.tuple (N Z::TN U::S)))(h8:U.length<=8)(q:Rq H Q (.bl true))
theorem NP(T:.q):jp P w base T.CP 3 zlp:=by
 exists T.CP,["row","worms"],"c2",(ak (aY (PW.pt (fF (cR (cz (ao (yo T) hr (ae .H ah)))) (fF (cR (cz (dw (show bM _ .ao (fg K)from kq) rfl T.h0c jY (ae .H (ae (jq (v:=.ty "tuple") rfl T.h0i nv rfl) ah))))) (g_ (iM K hu (dE K T.h0o (ae .H ah)) .X))))) (au (aB fe)) aZ)
     (au (aB (dw (show bM _ (.builtin "all") (mW K)from rE rfl) rfl T.h0q pj (ae (d4 rfl (cW ["phase"] [none]) (kf .H) .U .an (λ_ _ _ _ _=>(ao (yo T:) hr (q1 0)))) ah)))))
 obtain@⟨hh,ds,xs,rfl,hi,h8,q⟩:=h;o_head aA (j:=0) hi rfl (λv0 i0=>?_);k_few
 all_goals first | (rename_i e;rw[tZ]at e;cases (show true=false from e)) | skip
 refine aA (j:=1) hi rfl (λv1 i1=>?_);k_few
 all_goals first | (rename_i e;cases (show true=false from e)) | skip
 refine aA (j:=1) hi rfl (λv2 i2=>?_);o_head zx i2 ?_;k_few
 all_goals first | (rename_i e;exact absurd rfl e) | skip
 refine aA (j:=1) hi rfl (λv3 i3=>?_);k_few;obtain⟨a3,vs3,rfl,s3,t3⟩:=bY.mp i3;refine jz s3 (o0:=none) (tl:=[]) rfl (λj y _=>y=.bl true) ?_ ?_
 . intro D j x ys o H1 hx inv
   obtain⟨hj,ix⟩:=cw t3 hx;have ix:=ix.by inv.2.2.1;k_few;rw[tZ];exact d_ inv () (λ_ _ _ _ _ h=>h) ⟨_,rfl⟩ .ax rfl
 . intro D ys H1 n1 S1 e1 l1 r1
   have ey:ys=(vj ys.length true).map V.bl:=by
     refine W4 ∅ λi h1 h2=>?_
     rw[r1 i ys[i] (wc h1)];simp
   rw[ey]at e1;o_head oA (.of e1) ?_;rw[show(vj ys.length true).all id=true by simp];exact q _ S1
def Zp(K:wa):Sp:=λvs H Q _=>∃x0 x1,vs=[x0,x1] /\ ∃(h:Rat)(xs:.c)(f g:Int),Is K H x0 (.tuple [N h,TN xs,.int f,.int g])/\x1=.int (xs.length:Int)/\xs.length<=8/\0<=f/\f<=30/\0<=g/\g<=40/\Rq H Q (.bl true)
theorem zzH{f g:Int}{v:V}(e:xs.length=n)(i:Is K H v (.tuple [N h,TN xs,.int f,.int g]))(h8:xs.length<=8)(f0:0<=f)(f1:f<=30)(g0:0<=g)(g1:g<=40)(q:Rq H Q (.bl true)):Zp K [v,.int (n:Int)] H Q E:=⟨_,_,rfl,h,xs,f,g,i,by rw[e],h8,f0,f1,g0,g1,q⟩
theorem zzs(T:.q):cr P w base T.MC 4 (Zp K):=by
 exists T.MC,["thing","worms"],"b2",(ak (aY (PW.pt (fF (cR (cz (dw (show bM _ .ao (fg K)from kq) rfl T.h0c jY (ae .L (ae (jq (v:=.ty "tuple") rfl T.h0i nv rfl) ah))))) (fF (iM K hu (dE K T.h0o (q1 0)) av) (g_ (cR (cz (ao (NP T) hr (q2 0 1)))))))) (au (aB fe)) aZ)
     (au (aB (fj (ao (Rk T) hr (ae av (ae (nI rfl T.Li) (ae .H ah)))) (gR (ao (Rk T) hr (ae av (ae (nI rfl T.aai) (ae .H ah)))))))))
 obtain⟨hh,xs,f,g,hi,rfl,h8,f0,f1,g0,g1,q⟩:=h;k_few
 all_goals first | (rename_i e;cases (show true=false from e)) | skip
 refine mH hi ?_;k_few
 all_goals first | (rename_i e;exact absurd rfl e) | skip
 refine zlp.v rfl hi h8 (λH1 S1=>?_);have hi1:=hi.by S1;o_head aA (j:=2) hi1 rfl (λv2 i2=>?_);o_head zhn.v rfl rfl i2 ?_;rw[show nU 0 30 (.int f)=true by simp[nU,f0,f1]];o_head aA (j:=3) hi1 rfl (λv3 i3=>?_);o_head zhn.v rfl rfl i3 ?_;rw[show nU 0 40 (.int g)=true by simp[nU,g0,g1]];exact q _ S1
def fV(w:.ar):Prop:=w="one"\/w="rests"\/w="drawn"
def Ra(K:wa):Sp:=λvs H Q _=>∃x0 x1,vs=[x0,x1] /\ ∃(h:Rat)(xs:.c)(w:.ar),Is K H x0 (.tuple [N h,TN xs,.str (wM w)])/\x1=.int (xs.length:Int)/\xs.length<=8/\fV w/\Rq H Q (.bl true)
theorem zpS{w:.ar}{v:V}(e:xs.length=n)(i:Is K H v (.tuple [N h,TN xs,.str (wM w)]))(h8:xs.length<=8)(hw:fV w)(q:Rq H Q (.bl true)):Ra K [v,.int (n:Int)] H Q E:=⟨_,_,rfl,h,xs,w,i,by rw[e],h8,hw,q⟩
def yt:List wC:=[.str (wM "one"),.str (wM "rests"),.str (wM "drawn")]
theorem sr{w:PySem.Str}(h:XT w=true):Sh 1 (.str w):=⟨by simpa [vy] using h,by simp[WL]⟩
theorem zwO :vy (.tuple yt)=true:=(nY (n:=1) λd hd=>by
 simp only[yt,wG,WO,or_false]at hd;rcases hd with rfl | rfl | rfl<;>exact sr (oQ _)).1
theorem zFT{w:.ar}(t:aV K H p [.str (wM "one"),.str (wM "rests"),.str (wM "drawn")])(h:fV w)(q:Q (.bl true) H):rZ K (.str (wM w)) .aA H Q:=by
 refine⟨.str (wM w),yt,eU.mpr rfl,bY.mpr ⟨p,_,rfl,t,.cons (eU.mpr rfl) (.cons (eU.mpr rfl) (.cons (eU.mpr rfl) .nil))⟩,(sr (oQ _)).mono ⋯,zwO,?_⟩
 rw[show yt.any (wR · (.str (wM w)))=true by
  unfold yt;simp only[QC,List.any_nil,wR,Um,uW,beq_iff_eq];rcases h with rfl | rfl | rfl<;>simp]
 exact q
theorem zoH(T:.q):cr P w base T.JX 4 (Ra K):=by
 refine T.JX.F.ok zpq ?_ ?_;wtm_at "b2";have hgd:=hr.gd
 refine⟨_,(ak (aY (PW.pt (fF (cR (cz (dw (show bM _ .ao (fg K)from kq) rfl T.h0c jY (ae .L (ae (jq (v:=.ty "tuple") rfl T.h0i nv rfl) ah))))) (fF (iM K hu (dE K T.h0o (q1 0)) av) (g_ (cR (cz (ao (NP T) hr (q2 0 1)))))))) (au (aB fe)) aZ)
     (au (aB (fj (dw (show bM _ .ao (fg K)from kq) rfl T.h0c jY (ae .H (ae (jq (v:=.ty "str") rfl T.h0r zFS rfl) ah))) (gR (jk (show bL _ (vG .In) (rZ K)from ND hu) .H (ck (v:=.ref a.C0) rfl T.aav rfl) .ae)))))),?_⟩
 wtm_at "cl";rw[show start IT [x0,x1]=[some x0,some x1]from rfl];obtain⟨hh,xs,ww,hi,rfl,h8,hw,q⟩:=h;k_few
 all_goals first | (rename_i e;cases (show true=false from e)) | skip
 refine mH hi ?_;k_few
 all_goals first | (rename_i e;exact absurd rfl e) | skip
 refine zlp.v rfl hi h8 (λH1 S1=>?_);have hi1:=hi.by S1;o_head aA (j:=2) hi1 rfl (λv2 i2=>?_);o_head zBa i2 ?_;rw[show Gz (.str (wM ww))=true from rfl];o_head aA (j:=2) hi1 rfl (λv3 i3=>?_);cases eU.mp i3;k_few;exact zFT (T.aau _) hw (q _ S1)
structure iG where
 h:Rat
 xs:List Rat
 r:Nat
 g:Nat
def iG.d(e:iG):wC:=.tuple [N e.h,TN e.xs,.int (e.r:Int),.int (e.g:Int)]
def p_(h:Rat)(xs:.c)(w:.ar):wC:=.tuple [N h,TN xs,.str (wM w)]
inductive znO(K:wa)(v u:V)(H:Hp)(Q:VK)(E:XK):Prop|v{U:Nat}{ps:List iG}{w:.ar}(e1:u=.int (U:Int))(i:Is K H v (.list (ps.map iG.d++[p_ Z S w])))(h8:U<=8)(hp:∀W∈ps,W.xs.length=U/\W.r<=30/\W.g<=40)(hx:S.length=U)(hw:fV w)(bS:ps.length<=100)(q:Rq H Q (.bl true))
theorem zyJ(ds:.aY)(d : α):L2.cutD (ds++[d]) none (some (-1))=ds:=by
 unfold L2.cutD;have e1:HT.bA (ds++[d]).length 0 none=0:=by simp[HT.bA]
 have e2:HT.bA (ds++[d]).length (ds++[d]).length (some (-1))=ds.length:=by
  rw[wL,vX];simp[HT.bA];lia
 rw[e1,e2];simp
theorem zGU{ps:List iG}(t:ai K H us (ps.map iG.d)){x:V}(hx:us[i]? = some x):∃e∈ps,i<ps.length/\Is K H x e.d:=by
 obtain⟨hi,ix⟩:=mE t hx;rw[wl]at hi;refine⟨ps[i],We hi,hi,?_⟩;rw[wb,wu,wc hi]at ix;exact ix
theorem zuh(T:.q):jp P w base T.Lo 5 znO:=by
 exists T.Lo,["thing","worms"],"c2",(ak (aY (PW.pt (fF (cR (cz (dw (show bM _ .ao (fg K)from kq) rfl T.h0c jY (ae .L (ae (jq (v:=.ty "list") rfl T.h0n h_ rfl) ah))))) (g_ (cR (A9 .L))))) (au (aB fe)) aZ)
     (au (aB (fj (dw (show bM _ (.builtin "all") (mW K)from rE rfl) rfl T.h0q pj (ae (d4 rfl (cW ["row","worms"] [none,some 1]) (fC (mX mZ .L mD (mh (gy gC av)))) .U .an (λ_ _ _ _ _=>(ao (zzs T:) hr (q2 0 1)))) ah)) (gR (ao (zoH T) hr (ae (dD cZ .L (gy gC av) .aw) (q1 1))))))))
 obtain@⟨hl',xs,n,ps,wd,rfl,hi,h8,hp,hx',hw,bS,q⟩:=h;o_head zBI hi ?_;rw[show mK (PyData.list (ps.map iG.d++[p_ hl' xs wd]))=true from rfl];o_head GY hi ?_;rw[show(!(ps.map iG.d++[p_ hl' xs wd]).isEmpty)=true by simp];o_head oz hi (λl1 H1 us n1 S1 e1 t1=>?_);rw[zyJ]at t1;have lt:=t1.length;rw[wl]at lt;o_head j6 (.of e1) (o0:=none) (tl:=[some (.int (n:Int))]) rfl (λj y _=>y=.bl true) ?_ ?_
 . intro D j x ys o H2 hx inv
   obtain⟨e,he,hj,ir⟩:=zGU t1 hx;obtain⟨p1,p2,p3⟩:=hp e he;unfold iG.d at ir;o_head zzH p1 (ir.by inv.2.2.1) () () () () () (λH3 S3=>?_);k_few;exact d_ inv () (λ_ _ _ _ _ h=>h) ⟨_,rfl⟩ S3 rfl
 . intro D ys H2 n2 S2 e2 l2 r2
   have ey:ys=(vj ys.length true).map V.bl:=by
     refine W4 ∅ λi h1 h2=>?_
     rw[r2 i ys[i] (wc h1)];simp
   rw[ey]at e2;o_head oA (.of e2) ?_;rw[show(vj ys.length true).all id=true by simp];have T2:=S1.trans S2;o_head nB (hi.by T2) (λv3 i3=>?_);unfold p_ at i3;o_head zpS hx' i3 () hw (λH3 S3=>?_);exact q _ (T2.trans S3)
theorem sx{a:Rat}(ok:.aH)(L:gf xs (ps++[0]) fl ns)(hn:ns.length=ps.length+1)(f:cE a b ns ps=true) :
  gf (ag a b xs ns.length) (cF a b ns ps++[0]) fl ns/\(∀t,t<ns.length->cK a b (ag a b xs t)=[bW xs.length fl t])/\aF a b xs ns.length=cP a b ns ps:=by
 have hl:(ps++[0]).length=ns.length:=by simp[hn]
 have jy:∀t,t<(ps++[0]).length->eZ a b ns (ps++[0]) t<1:=λt ht=>by
  have:=(mS.mp f).2 t ();rw[lA ()]at this;unfold eZ;rw[hl];exact this
 obtain⟨P,F,_,W⟩:=Cr ok.a0 ok.b0 L _ .Y jy;have ht:=Pz ok.a0 ok.b0 L _ .Y jy;rw[hl]at P W ht;rw[<- Dk hn]at P;have st:=Td (zpt ok hn f);have hbl:=ny (a:=a) (b:=b) hn;have hbl2:(cF a b ns ps++[0]).length=(ps++[0]).length:=by simp[hbl]
 have hpl:=aW a b xs ns.length;refine⟨⟨P,st.1,st.2,by rw[hbl2];exact L.len,λc hc=>?_,λc hc=>?_⟩,W,?_⟩
 ·rw[hpl];exact L.some c ()
 ·rw[hpl];exact L.size c ()
 ·rw[ht];rfl
theorem lE{a b:Rat}(ok:.aH){xs ps:.c}{fl:Nat->Nat}{ns:.p}(L:gf xs (ps++[0]) fl ns)(hn:ns.length=ps.length+1)(n0:∀n∈ns,0<=n):∀k,(∀j,j<k->cv a b ns ps j=true) ->
  gf (ag a b xs (k*ns.length)) (aX a b ns k ps++[0]) fl ns/\aF a b xs (k*ns.length)=ik a b ns ps k
 | 0,_=>by
  rw[Qf,kx];exact⟨L,rfl⟩
 | k+1,h=>by
  obtain⟨Lk,Hk⟩:=lE ok L hn n0 k λj hj=>h j ()
  have hl:ns.length=(aX a b ns k ps).length+1:=by rw[bZ];exact hn
  obtain⟨L1,_,H1⟩:=sx ok Lk hl (h k ());rw[dH,<- nT hl n0,pU]at L1;have e:(k+1)*ns.length=k*ns.length+ns.length:=qD ..;rw[e];refine⟨L1,?_⟩;rw[<- kT,Hk,H1]
  rfl
theorem zzJ{a:Rat}(ok:.aH)(L:gf xs (ps++[0]) fl ns)(hn:ns.length=ps.length+1)(n0:∀n∈ns,0<=n){t:Nat}(h:∀j,j<k+1->cv a b ns ps j=true)(ht:t<ns.length):cK a b (ag a b xs (k*ns.length+t))=[bW xs.length fl t]:=by
 obtain⟨Lk,_⟩:=lE ok L hn n0 k λj hj=>h j ()
 have hl:ns.length=(aX a b ns k ps).length+1:=by rw[bZ];exact hn
 have:=(sx ok Lk hl (h k ())).2.1 t ht;rw[dH,aW]at this;exact this
theorem NK{a b:Rat}(a0:0<a)(b0:0<=b){xs row:.c}{fl:Nat->Nat}{ns:.p}(L:gf xs row fl ns):∀n,n<=row.length->(¬ ∀t,t<n->eZ a b ns row t<1)->∃t,t<n/\1<(cK a b (ag a b xs t)).length
 | 0,_,z=>absurd (λt ht=>by lia) z
 | n+1,hn,z=>by
  by_cases y:∀t,t<n->eZ a b ns row t<1
  ·refine⟨n,by lia,zy4 a0 b0 L () y (λu=>z λt ht=>?_)⟩
   rcases wE t n with k | k
   ·exact y t k
   ·have:t=n:=by lia
    rw[this];exact u
  ·obtain⟨t,h1,h2⟩:=NK a0 b0 L n () y
   exact⟨t,by lia,h2⟩
theorem zyV{a:Rat}(ok:.aH)(L:gf xs (ps++[0]) fl ns)(hn:ns.length=ps.length+1)(f:cE a b ns ps=false):∃t,t<ns.length/\1<(cK a b (ag a b xs t)).length:=by
 have hl:(ps++[0]).length=ns.length:=by simp[hn]
 refine NK ok.a0 ok.b0 L ns.length () λz=>?_
 have:cE a b ns ps=true:=mS.mpr ⟨OU L.oN.pw L.one,λi hi=>by
  have:=z i hi;unfold eZ at this;rw[hl]at this;rw[lA hi];exact this⟩
 rw[f]at this;cases this
theorem Jr{row:.c}(L:gf xs row fl ns)(hn:xs.length=n):((wp n).map λw=>row.getD (fl w) 0)=xs:=by
 refine hV (by simp[hn]) λw hw=>?_
 have hw:w<n:=by simpa using hw
 rw[L.pl.at' w (),wb,wu,vM hw]
 rfl
theorem rT(h1:.aj)(h8:xs.length<=8):cQ .aI:=by
 have hs:=pZ xs;have hv:=iQ xs;have hp:=mB h1;refine⟨by lia,by lia,λn hn=>?_,?_⟩
 ·have h2:=zwt xs n hn
  refine⟨?_,by lia⟩;obtain⟨v,hv,rfl⟩:=wQ.mp hn;have hm:=lD hv;obtain⟨j,hj,e⟩:=wX hm;have:j∈fc xs v:=wZ.mpr ⟨wH.mpr hj,decide_eq_true (by rw[wb,wc hj];exact e)⟩;have:=qx this;lia
 ·have h3:=zrN xs
  have:=zy (kD xs);lia
def eJ(a b:Rat)(xs:.c)(r:Nat):Prop:=∀k,k<r->cv a b .aI .bC k=true
structure fM(a b:Rat)(xs:.c):Prop where
 ok:aM a b
 h1:1<=xs.length
 h8:xs.length<=8
 hp:cu xs
 h0:0∈xs
 cm:Cm 3600 xs
theorem fM.round{a:Rat}(h:fM a b xs):dj a b .aI .bC/\cQ .aI/\(aR xs).length=(aT xs).length+1:=by
 have hz:aT xs++[0]=aj xs:=Bq h.hp h.h0;have h8:=h.h8;have sz:=rT h.h1 h8;have hsl:=pZ xs;have hvl:=iQ xs;have hsu:=Tn xs;have hpl:(aT xs).length+1=(aj xs).length:=by rw[<- hz];simp
 refine⟨⟨h.ok.ba,h.ok.bb,λn hn=>by have:=sz.each n hn;lia,by lia,by lia,⟨3600,mi h.cm,by lia⟩⟩,sz,by lia⟩
inductive R4(K:wa)(v u:V)(H:Hp)(Q:VK)(E:XK):Prop|v{U:Nat}(e1:u=.int (U:Int))(h:Is K H v (bG Z S W))(ok:fM Z S W)(r1:1<=U)(h30:U<=30)(f:eJ Z S W U)(q:Rq H Q (.bl true))
theorem zvA(T:.q):jp P w base T.Mc 9 R4:=by
 exists T.Mc,["swarm","rounds","both","last"],"c2",(ak (aY (cR (cz (ao (HW T) hr (q1 0)))) (au (aB fe)) aZ)
     (ak (ay 2 ii (nO (A1 T) hr T.rN Ij (q1 0)))
     (ak (ay 3 ii (ao (zgZ T) hr (by exact(@ae _ _ _ _ _ .H (@ae _ _ _ _ _ (qi 2) (@ae _ _ _ _ _ (qi 2) (@ae _ _ _ _ _ (aD ic .X av) ah Oy) ff) ff) ff))))
     (au (aB (fj (ao (sH T) hr (ae .H (ae (qi 2) (ae (qi 2) ah)))) (gR (ao (sH T) hr (ae .H (ae (qi 2) (q1 3)))))))))))
 obtain@⟨ra,rb,xs,r,rfl,hw,ok,r1,h30,fr,q⟩:=h;obtain⟨rok,sz,hn⟩:=ok.round;have h8:=ok.h8;have bx:∀i,af 4000 .ai:=λi=>(ok.cm.get i).mono ⋯
 have cp:Cm 3600 .bC:=mi ok.cm;have e1:((r:Int)-1).toNat=r-1:=by lia
 have hlk:dY ra rb .aI ((r:Int)-1).toNat:=lQ ok.ok sz ();have hbp:∀i,af 6900 ((aT xs).getD i 0):=λi=>(cp.get i).mono ⋯
 have f0:cE ra rb .aI .bC=true:=by
   have:=fr 0 ();unfold cv at this;rw[kx]at this;exact this
 have f1:cE ra rb .aI (aX ra rb .aI (r-1) .bC)=true:=fr (r-1) ();o_head RC.v hw ?_;rw[decide_eq_true ok.h0];o_head zC hw h8 bx (λz=>absurd ok.h0 z) (λ_ vl H1 S1 il=>?_);have hw1:=hw.by S1;o_head aA (j:=0) hw1 rfl (λvr ir=>?_);o_head aA (j:=0) il rfl (λvz iz=>?_);o_head aA (j:=1) il rfl (λvp ip=>?_);o_head TK.v rfl ir iz ip hn () hlk hbp .bg;rw[e1]at i2;o_head aA (j:=0) (hw1.by S2) rfl (λvr2 ir2=>?_);o_head aA (j:=0) (il.by S2) rfl (λvz2 iz2=>?_);o_head aA (j:=1) (il.by S2) rfl (λvp2 ip2=>?_);o_head zpd.v ir2 iz2 ip2 rok (λH3 S3=>?_);rw[f0];have S23:=S2.trans S3;o_head aA (j:=0) (hw1.by S23) rfl (λvr3 ir3=>?_);o_head aA (j:=0) (il.by S23) rfl (λvz3 iz3=>?_);o_head zpd.v ir3 iz3 (i2.by S3) (FY ok.ok sz hn cp ⋯ ()) (λH4 S4=>?_);rw[f1];exact q _ (S1.trans (S23.trans S4))
inductive Y0(K:wa)(v u:V)(H:Hp)(Q:VK)(E:XK):Prop|v{U:Nat}(e1:u=.int (U:Int))(h:Is K H v (bG Z S W))(ok:fM Z S W)(h30:U<=30)(f:eJ Z S W U)(q:Rs K H Q (BD Z S W (U*(aj W).length)))
theorem Ec{K:wa}{H:Hp} : ∀{xs:.c}{us:.x},ai K H us .aP->∃cs:List we,us=cs.map V.ref
 | [],us,h=>⟨[],gq.mp h⟩
 | x::xs,us,h=>by
  obtain⟨v,r,rfl,iv,t⟩:=d5.mp h;obtain⟨a,_,rfl,_,_⟩:=bY.mp (show Is K H v (.tuple _)from iv);obtain⟨cs,rfl⟩:=Ec t;exact⟨a::cs,rfl⟩
def gr(x:Rat):List Int:=[x.num,.S]
theorem zB4(h:gr x=gr y):x=y:=by
 unfold gr at h
 injection h with h1 h2
 injection h2 with h2 _
 exact Ug h1 ()
theorem zv3(h:xs.Nodup):(xs.map gr).Nodup:=by
 unfold List.Nodup at *;rw[Qp];exact h.imp λ{a b} n e=>n (zB4 e)
theorem Q_(h:j<xs.length):(xs.map gr).getD j []=gr (xs.getD j 0):=by
 rw[wb,wu,wb,wc h]
 rfl
theorem zyo{ks:.aQ}{us ws:.bp}(nd:ks.Nodup)(hl:ks.length=us.length)(hj:j<us.length):nH (ig ks us ws) (ks.getD j [])=some (ws.getD j 0):=by
 unfold nH ig;rw[List.find?_map];have pw:=WD.mp nd;cases e:(wp us.length).find? ((λx:NE=>decide (x.1=ks.getD j [])) ∘ λj=>(ks.getD j [],us.getD j 0,ws.getD j 0))with
 | none =>
  have:=List.find?_eq_none.mp e j (wH.mpr hj);simp at this
 | some i =>
  have hm:=wH.mp (xv e);have hp:=Ua e;have hp:ks.getD i []=ks.getD j []:=of_decide_eq_true hp;have hi:i<ks.length:=by lia
  have hj':j<ks.length:=by lia
  rw[wb,wb,wc hi,wc hj']at hp
  have hij:i=j:=by
   rcases Va i j with z | z | z
   ·exact absurd hp (pw i j hi hj' z)
   ·exact z
   ·exact absurd hp.symm (pw j i hj' hi z)
  rw[hij];rfl
theorem zyR{cs ws:.bp}(t:ai K H (cs.map V.ref) .aP):yZ K H (ig (xs.map gr) cs ws):=by
 intro x hx;obtain⟨j,hj,rfl⟩:=wQ.mp hx;have hj:=wH.mp hj;have hl:=t.length;simp only[wl]at hl;have:=(cw t (i:=j) (x:=.ref (cs.getD j 0)) (by rw[wu,wb,wc hj];rfl)).2
 show Is K H (.ref (cs.getD j 0)) (TZ ((xs.map gr).getD j []))
 rw[Q_ ()];exact this
theorem zhb(T:.q):jp P w base T.CF 9 Y0:=by
 exists T.CF,["swarm","rounds","both","later","now","phases"],"c2",(ak (ay 2 ii (nO (A1 T) hr T.rN Ij (q1 0)))
     (ak (ay 3 ii (ao (zgZ T) hr (by exact(@ae _ _ _ _ _ .H (@ae _ _ _ _ _ (qi 2) (@ae _ _ _ _ _ (qi 2) (@ae _ _ _ _ _ .X ah cj) ff) ff) ff))))
     (ak (ay 4 ii (zBJ rfl (Vg (XF ⋯ _) hu) rfl T.h0l rfl T.h0x (ae (aD (show bL _ (WQ .Add) (zr K)from UT) (qi 2) (aS (ae .G ah))) (ae (aD (show bL _ (WQ .Add) (zr K)from UT) .au (aS (ae .G ah))) ah))))
     (ak (ay 5 ii (fi K T.h0i (ae (d4 rfl (cW ["phase","now"] [none,some 4]) (kf .H) .U .an (λ_ _ _ _ _=>(show PE _ _ (Dy K _ _)from(zBo (by exact(Vg (XF ⋯ _) hu)) .X .L .aw)))) ah)))
     (au (aB (aS (ae (ao (zo8 T) hr (by exact(@ae _ _ _ _ _ .H (@ae _ _ _ _ _ (qi 2) (@ae _ _ _ _ _ (qi 2) (@ae _ _ _ _ _ .X ah cj) ff) ff) ff))) (ae (aS (ae .H (q1 5))) ah)))))))))
 obtain@⟨ra,rb,xs,r,rfl,hw,ok,h30,fr,q⟩:=h;have hz:aT xs++[0]=aj xs:=Bq ok.hp ok.h0;have h1:=ok.h1;have h8:=ok.h8;have sz:=rT h1 h8;have hsl:=pZ xs;have hvl:=iQ xs;have hvp:=mB h1;have hpl:(aT xs).length+1=(aj xs).length:=by rw[<- hz];simp
 have hn:(aR xs).length=(aT xs).length+1:=by lia
 have L:gf xs (aT xs++[0]) (aI xs) .aI:=by rw[hz];exact O0 ok.hp.nn ok.hp.lt
 obtain⟨Lr,Hr⟩:=lE ok.ok L hn (kD xs) r fr;rw[hsl]at Lr Hr;have hel:=Jr Lr (aW ra rb xs _);have bx:∀i,af 4000 .ai:=λi=>(ok.cm.get i).mono ⋯
 have cp:Cm 3600 .bC:=mi ok.cm;have hlk:dY ra rb .aI ((r:Int)).toNat:=by rw[wD];exact lQ ok.ok sz ()
 have hbp:∀i,af 6900 ((aT xs).getD i 0):=λi=>(cp.get i).mono ⋯
 o_head zC hw h8 bx (λz=>absurd ok.h0 z) (λ_ vl H1 S1 il=>?_);have hw1:=hw.by S1;o_head aA (j:=0) hw1 rfl (λvr ir=>?_);o_head aA (j:=0) il rfl (λvz iz=>?_);o_head aA (j:=1) il rfl (λvp ip=>?_);o_head TK.v rfl ir iz ip hn () hlk hbp .bg;rw[wD]at i2;o_head aA (j:=1) (il.by S2) rfl (λvp2 ip2=>?_);o_head cJ (ds:=[N 0]) ∅ (.cons (eQ 0 (T.fv _) rfl rfl) .nil) .aG;refine UJ (ip2.by S3) i3 (by rw[wl];simp;lia) (λv4 H4 S4 i4=>?_);o_head cJ (ds:=[N 0]) ∅ (.cons (eQ 0 (T.fv _) rfl rfl) .nil) (λv5 H5 S5 i5=>?_);have S25:=S3.trans .aN;refine UJ (i2.by S25) i5 (by rw[wl,bZ];simp;lia) (λv6 H6 S6 i6=>?_)
 have i46:Is K H6 v4 (TN (aj xs)):=by
   have:=i4.by (S5.trans S6);rw[<- hz];unfold TN;rw[w5];exact this
 have i66:Is K H6 v6 (TN (aX ra rb .aI r .bC++[0])):=by
   unfold TN;rw[w5];exact i6
 have S16:=S2.trans (S25.trans S6);have hw6:=hw1.by S16;have il6:=il.by S16;have T6:=S1.trans S16;clear hw hw1 il ir iz ip i2 ip2 i3 i4 i5 i6 S1 S2 S3 S4 S5 S6 S25 S16;have hrl:(aX ra rb .aI r .bC++[0]).length=(aj xs).length:=by rw[wL,bZ];simp;lia
 generalize aX ra rb .aI r .bC++[0]=row at *;obtain⟨aa,us,rfl,hs1,tu⟩:=bY.mp i46;obtain⟨ab,ws,rfl,hs2,tw⟩:=bY.mp i66;obtain⟨cs,rfl⟩:=Ec tu;obtain⟨ds,rfl⟩:=Ec tw;have hcl:=tu.length;have hdl:=tw.length;simp only[wl]at hcl hdl;have nd:=zv3 (HM xs);have hkl:((aj xs).map gr).length=cs.length:=by rw[wl];lia
 o_head ⟨aa,ab,(aj xs).map gr,cs,ds,rfl,hs1,hs2,by lia,by lia,?_,nd,λD ep hD=>?_⟩
 . rw[VH]
   exact tu
 . have S7:ar H6 (upd H6 D (iX D ep (ig ((aj xs).map gr) cs ds))):=ar.upd hD
   have e7:upd H6 D (iX D ep (ig ((aj xs).map gr) cs ds)) D=some (iX D ep (ig ((aj xs).map gr) cs ds)):=dk;generalize upd H6 D (iX D ep (ig ((aj xs).map gr) cs ds))=H7 at *;have tu7:ai K H7 (cs.map V.ref) ((aj xs).map N):=ai.same S7 _ _ tu;have tw7:ai K H7 (ds.map V.ref) (row.map N):=ai.same S7 _ _ tw;have hw7:=hw6.by S7;o_head aA (j:=1) hw7 rfl (λvq iq=>?_);obtain⟨aq,uq,rfl,hsq,tq⟩:=bY.mp iq;have hql:=tq.length;rw[wl]at hql;refine jz hsq (o0:=none) (tl:=[some .bx]) rfl (λj y H'=>Is K H' y (N (((wp xs.length).map λw=>row.getD (aI xs w) 0).getD j 0))) ?_ ?_
   . intro D' j x ys o H8 hx inv
     obtain⟨hj,ix⟩:=cw tq hx;have S8:=inv.same;obtain⟨ax,_,rfl,_,_⟩:=bY.mp (show Is K H7 x (.tuple _)from ix);have hfl:=(lS xs).lt j hj;have hxe:xs.getD j 0=(aj xs).getD (aI xs j) 0:=(lS xs).at' j hj;o_head ⟨D,ax,ep,_,gr (xs.getD j 0),ds.getD (aI xs j) 0,rfl,rfl,S8 _ _ e7,zyR (ai.same S8 _ _ tu7),ix.by S8,?_,?_⟩
     . rw[hxe,<- Q_ hfl]
       exact zyo nd hkl ()
     . refine d_ inv () eS ⟨_,rfl⟩ .ax ?_
       have hr:((wp xs.length).map λw=>row.getD (aI xs w) 0).getD j 0=row.getD (aI xs j) 0:=by
         rw[wb,wu,vM hj];rfl
       rw[hr];exact(cw tw7 (i:=aI xs j) (x:=.ref (ds.getD (aI xs j) 0)) (by rw[wu,wb,wc ()];rfl)).2.by S8
   . intro D' ys H8 n8 S8 e8 hl8 hr8
     have t8:ai K H8 ys (((wp xs.length).map λw=>row.getD (aI xs w) 0).map N):=e_ (by rw[hl8,hql];simp) hr8;rw[hel]at t8;o_head gP (b_ e8 t8) (λv9 H9 S9 i9=>?_);have S69:=S7.trans (S8.trans S9);o_head aA (j:=0) (hw6.by S69) rfl (λvr9 ir9=>?_);o_head aA (j:=0) (il6.by S69) rfl (λvz9 iz9=>?_);o_head aA (j:=1) (il6.by S69) rfl (λvp9 ip9=>?_);k_few
     refine ziG.v rfl ir9 iz9 ip9 hn () hlk cp (by
       have h5:=sz.sum;rw[wD];have:(6*(aR xs).sum.toNat+3)*r<=51*30:=W8 () h30;lia) (λv10 H10 S10 i10=>?_)
     rw[wD,<- Hr]at i10;o_head aA (j:=0) (hw6.by (S69.trans S10)) rfl (λvr10 ir10=>?_);o_head cJ (ds:=[R ra rb,TN (ag ra rb xs (r*(aj xs).length))]) ∅ (.cons ir10 (.cons (i9.by S10) .nil)) (λv11 H11 S11 i11=>?_);o_head cJ (ds:=[N (aF ra rb xs (r*(aj xs).length)),bG ra rb (ag ra rb xs (r*(aj xs).length))]) ∅ (.cons (i10.by S11) (.cons i11 .nil)) (λv12 H12 S12 i12=>?_);exact q v12 H12 (T6.trans (S69.trans (S10.trans (S11.trans S12)))) i12
inductive SN(K:wa)(v u w:V)(H:Hp)(Q:VK)(E:XK):Prop|v{U:Nat}{g:Nat}(e1:u=.int (U:Int))(e2:w=.int (g:Int))(h:Is K H v (bG Z S W))(ok:aM Z S)(h1:1<=W.length)(h8:W.length<=8)(f:1<=U->fM Z S W/\U<=30/\eJ Z S W U)(hg:g<=40)(c:af 8000 (aF Z S W (U*(aj W).length)))(c2:∀Y,Y<=g->Cm 3700 (aF Z S (ag Z S W (U*(aj W).length)) Y::ag Z S (ag Z S W (U*(aj W).length)) Y))(q:Rs K H Q (BD Z S W (U*(aj W).length+g)))
theorem Rv(T:.q):kw P w base T.CM 10 SN:=by
 exists T.CM,["swarm","rounds","glows","first","then"],"c3",(ak (ay 3 ii (tI (dP nP .X av (dF _)) (ao (zhb T) hr (q2 0 1)) (aS (ae .G (q1 0)))))
     (ak (ay 4 ii (ao (zzy T) hr (ae (qi 3) (q1 2))))
     (au (aB (aS (ae (ao (ie T) hr (ae (qi 3) (ae (qi 4) ah))) (ae (qi 4) ah)))))))
 obtain@⟨ra,rb,xs,r,g,rfl,rfl,hw,ok,h1,h8,f,hg,c,c2,q⟩:=h;k_few
 . rename_i z
   obtain⟨sw,h30,fr⟩:=f ();refine Y0.v rfl hw sw h30 fr .bD;o_head aA (j:=1) i1 rfl (λv2 i2=>?_);o_head zrg.v rfl i2 ok.ba ok.bb (by rw[aW];exact h1) (by rw[aW];exact h8) () () (by rw[wD];exact c2) .aG;rw[wD]at i3;have i13:=i1.by S3;o_head aA (j:=0) i13 rfl (λv4 i4=>?_);o_head aA (j:=0) i3 rfl (λv5 i5=>?_);have b5:af 3700 (aF ra rb (ag ra rb xs (r*(aj xs).length)) g):=(c2 g .Y).d6 .bn;k_few;rename_i v6 H6 S6 i6;refine aA (j:=1) (i3.by S6) rfl (λv7 i7=>?_);k_few;rw[kT]at i6;rw[dH]at i7;refine cJ (ds:=[N (aF ra rb xs (r*(aj xs).length+g)),bG ra rb (ag ra rb xs (r*(aj xs).length+g))]) ∅ (.cons i6 (.cons i7 .nil)) (λv8 H8 S8 i8=>?_);exact q v8 H8 (S1.trans (S3.trans (S6.trans S8))) i8
 . rename_i z
   have hr0:r=0:=by lia
   refine cJ (ds:=[N 0,bG ra rb xs]) ∅ (.cons (eQ 0 (T.fv _) rfl rfl) (.cons hw .nil)) .bD;have i1:Is K H1 v1 (BD ra rb xs (r*(aj xs).length)):=by rw[hr0,Qf];exact i1
   o_head aA (j:=1) i1 rfl (λv2 i2=>?_);o_head zrg.v rfl i2 ok.ba ok.bb (by rw[aW];exact h1) (by rw[aW];exact h8) () () (by rw[wD];exact c2) .aG;rw[wD]at i3;have i13:=i1.by S3;o_head aA (j:=0) i13 rfl (λv4 i4=>?_);o_head aA (j:=0) i3 rfl (λv5 i5=>?_);have b5:af 3700 (aF ra rb (ag ra rb xs (r*(aj xs).length)) g):=(c2 g .Y).d6 .bn;k_few;rename_i v6 H6 S6 i6;refine aA (j:=1) (i3.by S6) rfl (λv7 i7=>?_);k_few;rw[kT]at i6;rw[dH]at i7;refine cJ (ds:=[N (aF ra rb xs (r*(aj xs).length+g)),bG ra rb (ag ra rb xs (r*(aj xs).length+g))]) ∅ (.cons i6 (.cons i7 .nil)) (λv8 H8 S8 i8=>?_);exact q v8 H8 (S1.trans (S3.trans (S6.trans S8))) i8
def kn(h:Rat)(xs:.c)(r g:Nat):wC:=.tuple [N h,TN xs,.int (r:Int),.int (g:Int)]
def dJ(a b:Rat)(xs:.c)(i r g:Nat):Nat:=i+(r*(aj .ab).length+g)
def fU(a b:Rat)(xs:.c)(e:Nat × Nat × Nat):wC:=kn (aF a b xs e.1) (ag a b xs e.1) e.2.1 e.2.2
def sE(a b:Rat)(xs:.c)(n:Nat)(w:.ar):wC:=.tuple [N (aF a b xs n),TN (ag a b xs n),.str (wM w)]
def ft(a b:Rat)(xs:.c)(es:.am)(n:Nat)(w:.ar):List wC:=es.map (fU a b xs)++[sE a b xs n w]
def fQ(es:.am)(n j:Nat):Nat:=(es.map (·.1)++[n]).getD j 0
theorem zzu(es:.am)(n:Nat):fQ es n es.length=n:=by
 unfold fQ;rw[wb,vC ∅];simp
theorem zwv{a:Rat}{w:.ar}(h:j<es.length):(ft a b xs es n w)[j]? = some (fU a b xs es[j]):=by
 unfold ft;rw[vQ (by simpa using h),wu,wc h]
 rfl
inductive O4(K:wa)(v w u:V)(H:Hp)(Q:VK)(E:XK):Prop|v{Y:Nat}{g:Nat}(h0:Is K H v (R U Z))(h1:Is K H w (kn S W Y g))(h2:Is K H u (.tuple (N h'::TN D::G)))(ok:aM U Z)(x1:1<=W.length)(x8:W.length<=8)(f:1<=Y->fM U Z W/\Y<=30/\eJ U Z W Y)(hg:g<=40)(bh:af 3500 S)(bk:af 3500 (aF U Z W (Y*(aj W).length+g)))(c:af 8000 (aF U Z W (Y*(aj W).length)))(c2:∀I,I<=g->Cm 3700 (aF U Z (ag U Z W (Y*(aj W).length)) I::ag U Z (ag U Z W (Y*(aj W).length)) I))(q:Rq H Q (.bl (decide (h'=S+aF U Z W (Y*(aj W).length+g))&&decide (D=ag U Z W (Y*(aj W).length+g)))))
theorem zuB(T:.q):kw P w base T.Lz 11 O4:=by
 exists T.Lz,["rule","row","following","swarm","told"],"c3",(ak (ay 3 ii (aS (ae .L (ae .bc ah))))
     (ak (aY (PW.pt (tU (dP nP .bc av (dF _)) (yn (cR (cz (ao (zvA T) hr (ae .au (ae .bc ah)))))))) (au (aB fe)) aZ)
     (ak (ay 4 ii (ao (Rv T) hr (ae .au (ae .bc (ae .bc ah)))))
     (au (aB (fj (jc K hu (qi 2) (ao (ie T) hr (ae .bc (ae (qi 4) ah)))) (gR (jc K hu (qi 2) (eC (qi 4))))))))))
 obtain@⟨ra,rb,hh,xs,hn,ys,ds,r,g,hr,hrow,hf,ok,x1',x8,f,hg,bh,bk,c,c2,q⟩:=h;unfold kn at hrow;o_head aA (j:=1) hrow rfl (λv1 i1=>?_);o_head cJ (ds:=[R ra rb,TN xs]) ∅ (.cons hr (.cons i1 .nil)) .bg;have i2:Is K H2 v2 (bG ra rb xs):=i2;have hrow2:=hrow.by S2;o_head aA (j:=2) hrow2 rfl (λv3 i3=>?_);rw[cf.mp i3];k_few
 all_goals first
   | (rename_i z
      obtain⟨sw,h30,fr⟩:=f ();refine aA (j:=2) hrow2 rfl (λv3 i3=>?_);rw[cf.mp i3];o_head R4.v rfl i2 sw () h30 fr (λH3 F=>?_);k_few)
   | (have F:=ar.refl H2)
 all_goals
   have hrow3:=hrow2.by F;have i23:=i2.by F;have T3:=S2.trans F;have hf3:=hf.by T3;clear F;refine aA (j:=2) hrow3 rfl (λv4 i4=>?_);rw[cf.mp i4];o_head aA (j:=3) hrow3 rfl (λv5 i5=>?_);rw[cf.mp i5];o_head SN.v rfl rfl i23 ok x1' x8 f hg c c2 (λv6 H6 S6 i6=>?_);unfold BD at i6;have hf6:=hf3.by S6;o_head aA (j:=0) hf6 rfl (λv7 i7=>?_);o_head aA (j:=0) (hrow3.by S6) rfl (λv8 i8=>?_);o_head aA (j:=0) i6 rfl (λv9 i9=>?_);k_few
   . rename_i v10 H10 S10 i10 z
     have q':=q H10 (T3.trans (S6.trans S10));rw[decide_eq_true z,Ve]at q';refine aA (j:=1) (hf6.by S10) rfl (λv11 i11=>?_);o_head aA (j:=1) (i6.by S10) rfl (λv12 i12=>?_);o_head aA (j:=1) (show Is K H10 v12 (bG ra rb _)from i12) rfl (λv13 i13=>?_);exact Fc i11 i13 q'
   . rename_i v10 H10 S10 i10 z
     have q':=q H10 (T3.trans (S6.trans S10));rw[decide_eq_false z,WJ]at q';exact q'
def di(a b:Rat)(xs:.c):Option String :=
 if(aj xs).length=1 then some "one"
 else if cE a b .aI .bC=true then
  if cF a b .aI .bC=aT xs then some "rests"
  else if a<1/\je a b .aI=true then some "drawn" else none
 else none
def jS:Option String->V
 | none=>.bE
 | some s=>.str (wM s)
def fI(a b:Rat)(xs:.c):Option String:=if 0∈xs then di a b xs else if(aj xs).length=1 then some "one" else none
structure Co(a b:Rat)(xs:.c):Prop where
 ok:aM a b
 h1:1<=xs.length
 h8:xs.length<=8
 hp:cu xs
 cm:Cm 3600 xs
theorem Co.sw{a:Rat}(h:Co a b xs)(h0:0∈xs):fM a b xs:=⟨h.ok,h.h1,h.h8,h.hp,h0,h.cm⟩
def Iz(K:wa):Sp:=λvs H Q _=>∃x0,vs=[x0] /\ ∃(a b:Rat)(xs:.c),Is K H x0 (bG a b xs)/\Co a b xs/\Rq H Q (jS (fI a b xs))
theorem NL{a:Rat}{v:V}(h:Is K H v (bG a b xs))(ok:Co a b xs)(q:Rq H Q (jS (fI a b xs))):Iz K [v] H Q E:=⟨_,rfl,a,b,xs,h,ok,q⟩
theorem zvQ{a:Rat}{v:V}(h:Is K H v (bG a b xs))(ok:fM a b xs)(q:Rq H Q (jS (di a b xs))):Iz K [v] H Q E:=NL h ⟨ok.ok,ok.h1,ok.h8,ok.hp,ok.cm⟩ (by unfold fI;rw[if_pos ok.h0];exact q)
theorem YB(T:.q):cr P w base T.CV 10 (Iz K):=by
 exists T.CV,["swarm","both"],"b1",(ak (aY (eX K hu (dE K T.h0o (ae (ao (G7 T) hr (q1 0)) ah)) av) (au (aB fJ)) aZ)
     (ak (aY (cR (cz (ao (HW T) hr (q1 0)))) (au (aB fS)) aZ)
     (ak (ay 1 ii (nO (A1 T) hr T.rN Ij (q1 0)))
     (ak (aY (cR (cz (ao (sH T) hr (ae .H (ae .bc (ae .bc ah)))))) (au (aB fS)) aZ)
     (ak (aY (eX K hu (ao (RG T) hr (ae .H (ae .bc (ae .bc ah)))) .bc) (au (aB fJ)) aZ)
     (ak (aY (PW.pt (tU (eX K hu (ao (SG T) hr (ae .H ah)) fJ) (yn (cz (ao (Sx T) hr (ae .H (ae .bc ah))))))) (au (aB fJ)) aZ)
     (au (aB fS))))))))
 obtain⟨ra,rb,xs,hw,oka,q⟩:=h;unfold fI at q
 by_cases z0:0∈xs
 case neg =>
   rw[if_neg z0]at q;have h8:=oka.h8;have bx:∀i,af 4000 .ai:=λi=>(oka.cm.get i).mono ⋯
   o_head Zg.v hw h8 bx (λlf H1 us1 n1 S1 e1 t1=>?_);have hul:=t1.length;rw[wl]at hul;have hw1:=hw.by S1;o_head gE (.of e1) ?_;rw[hul];k_few
   . rename_i z
     rw[if_pos ()]at q;exact q _ S1
   . rename_i z
     rw[if_neg ()]at q;refine RC.v hw1 ?_;rw[decide_eq_false z0];k_few;exact q _ S1
 rw[if_pos z0]at q;have ok:=oka.sw z0;obtain⟨rok,sz,hn⟩:=ok.round;have h8:=ok.h8;have bx:∀i,af 4000 .ai:=λi=>(ok.cm.get i).mono ⋯
 have bp:∀i,af 4000 ((aT xs).getD i 0):=λi=>((mi ok.cm).get i).mono ⋯
 unfold di at q;o_head Zg.v hw h8 bx (λlf H1 us1 n1 S1 e1 t1=>?_);have hul:=t1.length;rw[wl]at hul;have hw1:=hw.by S1;o_head gE (.of e1) ?_;rw[hul];k_few
 . rename_i z
   have z:(aj xs).length=1:=by lia
   rw[if_pos z]at q;exact q _ S1
 . rename_i z
   have z:¬ (aj xs).length=1:=by lia
   rw[if_neg z]at q;refine RC.v hw1 ?_;rw[decide_eq_true ok.h0];o_head zC hw1 h8 bx (λz=>absurd ok.h0 z) (λ_ vl H2 S2 il=>?_);have hw2:=hw1.by S2;o_head aA (j:=0) hw2 rfl (λvr ir=>?_);o_head aA (j:=0) il rfl (λvz iz=>?_);o_head aA (j:=1) il rfl (λvp ip=>?_);o_head zpd.v ir iz ip rok (λH3 S3=>?_);have T3:=S1.trans .bF;have hw3:=hw2.by S3;have il3:=il.by S3;clear hw hw1 hw2 il ir iz ip S1 S2 S3 e1 t1 n1;k_few
   . rename_i y
     rw[if_neg (by rw[y];decide)]at q;exact q _ T3
   . rename_i y
     rw[if_pos y]at q;refine aA (j:=0) hw3 rfl (λvr ir=>?_);o_head aA (j:=0) il3 rfl (λvz iz=>?_);o_head aA (j:=1) il3 rfl (λvp ip=>?_);o_head Y4.v ir iz ip rok (λv4 H4 S4 i4=>?_);o_head aA (j:=1) (il3.by S4) rfl (λvp4 ip4=>?_);refine Fc i4 ip4 ?_;k_few
     . rename_i u
       rw[if_pos u]at q;exact q _ (T3.trans S4)
     . rename_i u
       rw[if_neg u]at q;refine aA (j:=0) (hw3.by S4) rfl (λvr4 ir4=>?_);o_head zxe.v ir4 (ok.ok.ba.mono ⋯) ?_;unfold s_
       by_cases z1:1<ra
       . rw[if_pos z1]
         o_head kB _ _ false (by rw[wR];decide) ?_;k_few;rw[if_neg (λh=>absurd h.1 .aB)]at q;exact q _ (T3.trans S4)
       . rw[if_neg z1]
         by_cases z2:ra=1
         . rw[if_pos z2]
           o_head kB _ _ false (by rw[wR];decide) ?_;k_few;rw[if_neg (λh=>absurd h.1 .aB)]at q;exact q _ (T3.trans S4)
         . rw[if_neg z2]
           have ha:ra<1:=by
             by_cases h:ra<1
             . exact h
             . exact absurd (qq (W6.mp h) (WI z2)) z1
           o_head kB _ _ true (by rw[wR];decide) ?_;o_head aA (j:=0) (hw3.by S4) rfl (λvr5 ir5=>?_);o_head aA (j:=0) (il3.by S4) rfl (λvz5 iz5=>?_);o_head Y5.v ir5 iz5 ok.ok sz z2 (λH5 S5=>?_);k_few
           . rename_i d
             rw[if_pos ⟨ha,d⟩]at q;exact q _ (T3.trans .aN)
           . rename_i d
             rw[if_neg (λh=>by rw[h.2]at d;cases d)]at q;exact q _ (T3.trans .aN)
def LW(a b:Rat)(xs:.c):Nat->List (Nat × Nat × Nat)->Nat->Prop
 | i,[],n=>i=n
 | i,e::es,n=>e.1=i/\(e.2.1<=30/\e.2.2<=40/\(1<=e.2.1->0∈ag a b xs i/\eJ a b .ab e.2.1))/\LW a b xs (dJ a b xs i e.2.1 e.2.2) es n
theorem LW.le{a b:Rat}{xs:.c} : ∀{es:.am}{i n:Nat},LW a b xs i es n->i<=n
 | [],_,_,h=>Nat.le_of_eq h
 | e::es,i,n,h=>by
  have:=LW.le h.2.2;unfold dJ at this;lia
theorem LW.first{a:Rat}(h:LW a b xs i es n):fQ es n 0=i:=by
 cases es with
 | nil=>exact(show i=n from h).symm
 | cons e es=>exact h.1
theorem LW.at{a b:Rat}{xs:.c} : ∀{es:.am}{i n:Nat},LW a b xs i es n->∀j (hj:j<es.length),es[j].1=fQ es n j/\(es[j].2.1<=30/\es[j].2.2<=40/\(1<=es[j].2.1->0∈ag a b xs es[j].1/\eJ a b (ag a b xs es[j].1) es[j].2.1))/\dJ a b xs es[j].1 es[j].2.1 es[j].2.2=fQ es n (j+1)/\fQ es n (j+1)<=n
 | [],_,_,_,j,hj=>absurd hj ∅
 | e::es,i,n,h,j,hj=>by
  obtain⟨e1,e2,e3⟩:=h;cases j with
  | zero =>
   have h1:=e3.first;have h2:=e3.le;rw[<- h1]at h2;refine⟨rfl,?_,?_,h2⟩
   ·show e.2.1<=30/\e.2.2<=40/\(1<=e.2.1->0∈ag a b xs e.1/\eJ a b (ag a b xs e.1) e.2.1)
    rw[e1];exact e2
   ·show dJ a b xs e.1 e.2.1 e.2.2=fQ es n 0
    rw[h1,e1]
  | succ j=>exact LW.at e3 j (by simpa using hj)
def zGD(a b:Rat)(xs:.c)(e:Nat × Nat × Nat):iG:=⟨aF a b xs e.1,ag a b xs e.1,e.2.1,e.2.2⟩
theorem zud(a b:Rat)(xs:.c)(es:.am)(n:Nat)(w:.ar):ft a b xs es n w=(es.map (zGD a b xs)).map iG.d++[p_ (aF a b xs n) (ag a b xs n) w]:=by
 rw[VH];rfl
theorem UQ{a:Rat}{w:.ar}(h:∀j (hj:j<es.length),es[j].1=fQ es n j)(hj:j<=es.length):∃ds,(ft a b xs es n w)[j]? = some (.tuple (N (aF a b xs (fQ es n j))::TN (ag a b xs (fQ es n j))::ds)):=by
 unfold ft;rcases wE j es.length with z | z
 ·rw[vQ (by simpa using z),wu,wc z,<- h j z]
  exact⟨_,rfl⟩
 ·have:j=es.length:=by lia
  subst this;rw[vC ∅,wl,Vm,zzu];exact⟨_,rfl⟩
theorem zAr{t u:Bool}{g:TG}{tb:TS}{D:c_}{σ : L2.St}{a b:we}{xs ys:.x}(hx:df t K H a xs)(hy:df u K H b ys)(hxy:ys.length<xs.length)(Pv:Nat->L2.St->Hp->Prop)(h0:Pv 0 σ H)(hl:∀i σ H,i<=ys.length->Pv i σ H->df t K H a xs/\df u K H b ys)
  (hs:∀i x y σ H c H',xs[i]? = some x->ys[i]? = some y->Pv i σ H->H c=none->ar H H'->H' c=some (.tup [x,y])->g (.ref c) σ H' λσ2 H2=>tb {D with nx:=Pv (i+1),ct:=Pv (i+1),bk:=D.nx} σ2 H2) (hd:∀σ H,Pv ys.length σ H->D.nx σ H):GQ t u K g tb D σ [.ref a,.ref b] H:=by
 refine⟨a,b,rfl,⟨xs,hx⟩,⟨ys,hy⟩,λi m σ H=>i+m=ys.length/\Pv i σ H,⟨ys.length,by lia,h0⟩,?_⟩;rintro i m σ H ⟨him,hp⟩;obtain⟨hq1,hq2⟩:=hl i σ H () hp
 by_cases hm:m=0
 ·have e:i=ys.length:=by lia
  subst e;exact .inl ⟨⟨xs,ys,hq1,hq2,.inr ⟨hxy,rfl⟩⟩,hd _ _ hp⟩
 ·have hi:i<xs.length:=by lia
  have hj:i<ys.length:=by lia
  refine .inr ⟨⟨xs,xs[i],ys,ys[i],hq1,by simp[hi],hq2,by simp[hj]⟩,λσ' H'=>Pv (i+1) σ' H',λσ' H' h=>⟨m-1,by lia,by lia,h⟩,?_⟩;rintro v H' hz;obtain⟨c,x,y,rfl,hn,hx',hy',rfl⟩:=hz;exact hs i x y σ H c _ (hx' xs hq1) (hy' ys hq2) hp hn (ar.upd hn) dk
theorem zzc{a:Rat} : di a b xs=none \/ ∃w,di a b xs=some w/\fV w:=by
 unfold di
 split
 ·exact .inr ⟨_,rfl,.inl rfl⟩
 ·split
  ·split
   ·exact .inr ⟨_,rfl,.inr .aZ⟩
   ·split
    ·exact .inr ⟨_,rfl,.inr (.inr rfl)⟩
    ·exact .inl rfl
  ·exact .inl rfl
theorem Se{a:Rat} : fI a b xs=none \/ ∃w,fI a b xs=some w/\fV w:=by
 unfold fI
 split
 ·exact zzc
 ·split
  ·exact .inr ⟨_,rfl,.inl rfl⟩
  ·exact .inl rfl
theorem zGb{o:Option String}{w:.ar}(ho:o=none \/ ∃w,o=some w/\fV w)(hw:fV w)(q:Q (.bl (decide (o=some w))) H):iE K (jS o) (.str (wM w)) H Q:=by
 rcases ho with rfl | ⟨v,rfl,hv⟩
 ·exact mC (d:=.none) (e:=.str (wM w)) (kK.mpr rfl) (eU.mpr rfl) ⋯ (Be w) (by rw[show wR .none (.str (wM w))=decide ((none:Option String)=some w) by rw[wR]<;>simp];exact q)
 ·refine kB _ _ _ ?_ q
  rcases hv with rfl | rfl | rfl<;>rcases hw with rfl | rfl | rfl<;>rw[wR]<;>decide
inductive NN(K:wa)(v u:V)(H:Hp)(Q:VK)(E:XK):Prop|v{D:Nat}{w:.ar}(h:Is K H v (bG U Z S))(hp:Is K H u (.list (ft U Z W Y D w)))(ok:aM U Z)(h1:1<=W.length)(h8:W.length<=8)(hl:S.length=W.length)(ph:cu W)(lw:LW U Z W 0 Y D)(bS:Y.length<=100)(hw:fV w)(c:∀G I,G+I<=D->Cm 3500 (aF U Z (ag U Z W G) I::ag U Z (ag U Z W G) I))(q:Rq H Q (.bl (decide (W=S)&&decide (fI U Z (ag U Z W D)=some w))))
theorem zwj(T:.q):jp P w base T.Mo 12 NN:=by
 exists T.Mo,["swarm","paper","row","following"],"c2",(ak (aY (cR (cz (ao (zuh T) hr (ae .X (ae (dE K T.h0o (ae .H ah)) ah))))) (au (aB fe)) aZ)
     (ak (aY (PW.pt (fF (iM K hu (eC .bc) .G) (g_ (iM K hu (eC .bc) .H)))) (au (aB fe)) aZ)
     (ak (eA w9 rfl (Ba rfl T.h0x (ae .X (ae (mX mZ .X (mh av) mD) ah))) (jm (n:=2) rfl (dZ (cV (i:=2) ii rfl .y) (dZ (cV (i:=3) ii rfl .y) jo))) (au (aY (cR (cz (ao (zuB T) hr (ae .H (q2 2 3))))) (au (aB fe)) aZ)))
     (au (aB (jc K hu (ao (YB T) hr (ae (aS (ae .H (ae (eC (dD cZ .X (gy gC av) .aw)) ah))) ah)) (eC (dD cZ .X (gy gC av) .aw))))))))
 obtain@⟨ra,rb,xs,ys,es,n,wd,hw,hp,ok,y1,y8,hl,ph,lw,bS,hwd,c,q⟩:=h;have hat:=lw.at;have hix:=λj hj=>(hat j hj).1
 have c0:∀i,i<=n->Cm 3500 (aF ra rb ys i::ag ra rb ys i):=λi hi=>c 0 i ()
 o_head aA (j:=1) hw rfl (λv1 i1=>?_);o_head zx i1 ?_;o_head znO.v rfl (U:=xs.length) (ps:=es.map (zGD ra rb ys)) (Z:=aF ra rb ys n) (S:=ag ra rb ys n) (w:=wd) (by rw[<- zud];exact hp) () ?_ (by rw[aW];exact hl.symm) hwd (by rw[wl];exact bS) (λH1 S1=>?_)
 . intro e he
   obtain⟨e',he',rfl⟩:=wQ.mp he;obtain⟨j,hj,rfl⟩:=wX he';obtain⟨_,⟨b1,b2,_⟩,_⟩:=hat j hj;exact⟨by show(ag ra rb ys _).length=_;rw[aW];exact hl.symm,b1,b2⟩
 have hp1:=hp.by S1;have hw1:=hw.by S1;obtain⟨ds0,e0⟩:=UQ (a:=ra) (b:=rb) (xs:=ys) (w:=wd) hix (j:=0) ();rw[lw.first]at e0;o_head Y8 (j:=0) hp1 e0 (λv2 i2=>?_);o_head aA (j:=0) i2 rfl (λv3 i3=>?_);k_few
 . rename_i z;exact absurd rfl z
 refine Y8 (j:=0) hp1 e0 (λv4 i4=>?_);o_head aA (j:=1) i4 rfl (λv5 i5=>?_);o_head aA (j:=1) hw1 rfl (λv6 i6=>?_);refine zDp (show Is K H1 v5 (TN ys)from i5) i6 ?_
 by_cases hxy:ys=xs
 . rw[decide_eq_true hxy]
   subst hxy;obtain⟨lp,us,rfl,hsp,tp⟩:=cq.mp hp1;have hul:=tp.length;have hpl:(ft ra rb ys es n wd).length=es.length+1:=by simp[ft]
   o_head oz hp1 (λl2 H2 us2 n2 S2 e2 t2=>?_);rw[UW]at t2;have hul2:=t2.length;rw[QE,hpl]at hul2;o_head zAr (t:=false) (u:=false) (S2.seq hsp) (aE.of e2) () (λj σ H'=>(∃o2 o3,σ = [some x0,some (.ref lp),o2,o3])/\ar H2 H') ⟨⟨_,_,rfl⟩,ar.refl _⟩ (λj σ H' _ h=>⟨h.2.seq (S2.seq hsp),h.2.seq (aE.of e2)⟩) ?_ ?_
   . rintro j x y σ H3 cc H4 hx hy ⟨⟨o2,o3,rfl⟩,S3⟩ nc S4 e4
     obtain⟨hi,ix⟩:=mE tp hx;obtain⟨hi2,iy⟩:=mE t2 hy;rw[QE,hpl]at hi2;have hj:j<es.length:=by lia
     obtain⟨e1,⟨lM,pe,fr⟩,e3,le⟩:=hat j hj;obtain⟨ds,ey⟩:=UQ (a:=ra) (b:=rb) (xs:=ys) (w:=wd) hix (j:=j+1) ();rw[wb,zwv hj]at ix;rw[wb,List.getElem?_tail,ey]at iy;have T4:=S2.trans (S3.trans S4);have ix4:Is K H4 x (kn (aF ra rb ys (fQ es n j)) (ag ra rb ys (fQ es n j)) es[j].2.1 es[j].2.2):=by rw[<- e1];exact ix.by T4
     have iy4:Is K H4 y (.tuple (N (aF ra rb ys (fQ es n (j+1)))::TN (ag ra rb ys (fQ es n (j+1)))::ds)):=iy.by (S3.trans S4);rw[e1]at e3 fr;unfold dJ at e3;generalize es[j].2.1=r at *;generalize es[j].2.2=g at *;have ci:=c0 (fQ es n j) ();refine kG (.of e4) rfl ?_;o_head aA (j:=0) (hw1.by T4) rfl (λv7 i7=>?_);o_head O4.v i7 ix4 iy4 ok (by rw[aW];exact y1) (by rw[aW];exact y8) (λr1=>⟨⟨ok,by rw[aW];exact y1,by rw[aW];exact y8,ph.at ok.a0 ok.b0 _,(fr r1).1,(iP ci λy hy=>wt _ hy).mono ⋯⟩,lM,(fr r1).2⟩) pe (ci.d6 .bn) ((c _ _ ()).d6 .bn) (((c (fQ es n j) (r*(aj (ag ra rb ys (fQ es n j))).length) ()).d6 .bn).mono ⋯) (λt ht=>by rw[dH];exact(c _ t ()).mono ⋯) (λH5 S5=>?_);rw[kT,dH,e3,decide_eq_true rfl,decide_eq_true rfl,Us];k_few;exact⟨⟨_,_,rfl⟩,S3.trans .aN⟩
   . rintro σ H3 ⟨⟨o2,o3,rfl⟩,S3⟩
     have T3:=S2.trans S3;have hw3:=hw1.by T3;have hp3:=hp1.by T3;have cn:=c0 n (wo n);o_head aA (j:=0) hw3 rfl (λv7 i7=>?_);o_head nB hp3 (λv8 i8=>?_);unfold sE at i8;o_head aA (j:=1) i8 rfl (λv9 i9=>?_);o_head cJ (ds:=[R ra rb,TN (ag ra rb ys n)]) ∅ (.cons i7 (.cons i9 .nil)) (λv10 H10 S10 i10=>?_);o_head NL (show Is K H10 v10 (bG ra rb (ag ra rb ys n))from i10) ⟨ok,by rw[aW];exact y1,by rw[aW];exact y8,ph.at ok.a0 ok.b0 _,(iP cn λy hy=>wt _ hy).mono ⋯⟩ (λH11 S11=>?_);have S311:=S10.trans S11;o_head nB (hp3.by S311) (λv12 i12=>?_);unfold sE at i12;o_head aA (j:=2) i12 rfl (λv13 i13=>?_);rw[eU.mp i13];refine zGb Se hwd ?_;have q':=q H11 (S1.trans (T3.trans S311));rw[decide_eq_true rfl,Ve]at q';exact q'
 . rw[decide_eq_false hxy]
   k_few;have q':=q H1 S1;rw[decide_eq_false hxy,WJ]at q';exact q'
inductive PH(K:wa)(v:V)(H:Hp)(Q:VK)(E:XK):Prop|v{g:Nat}(h:Is K H v (bG U Z S))(ok:aM U Z)(h1:1<=S.length)(h8:S.length<=8)(hg:g<=8)(c:∀W,W<=g->Cm 3700 (ag U Z S W))(w1:∀W,W<g->(cK U Z (ag U Z S W)).length=1)(w2:(cK U Z (ag U Z S g)).length≠1)(q:Rq H Q (.int ((g+1:Nat):Int)))
theorem zm9(T:.q):io P w base T.JL 5 PH:=by
 exists T.JL,["swarm","count","told"],"c1",(ak (ay 1 ii av)
     (ak (ay 2 ii (ao (Fs T) hr (q1 0)))
     (ak (m4 w9 (eX K hu (dE K T.h0o (ae (qi 2) ah)) av) (ak (zFe (i:=1) ii rfl .y av zFv)
     (au (ay 2 ii (ao (Fs T) hr (ae (qi 2) ah))))))
     (au (aB .X)))))
 obtain@⟨ra,rb,xs,g,hw,ok,h1,h8,hg,c,w1,w2,q⟩:=h;o_head Of.v hw ok.ba ok.bb h1 h8 (c 0 ()) () .bg;o_head rf (λm σ' H'=>∃(t:Nat)(v:V),σ'=[some x0,some (.int ((t+1:Nat):Int)),some v]/\m=g-t/\t<=g/\ar H H'/\Is K H' v (GD ra rb (ag ra rb xs t))) _ ⟨0,v2,rfl,rfl,by lia,S2,i2⟩ ?_;rintro m σ' H3 hz;obtain⟨t,v,rfl,rfl,ht,S3,iv⟩:=hz;o_head aA (j:=1) iv rfl (λv4 i4=>?_);o_head mH i4 ?_;rw[wl];k_few
 . rename_i z
   have z:(cK ra rb (ag ra rb xs t)).length=1:=by lia
   have htg:t<g:=by
     rcases wE t g with y | y
     . exact y
     . have:t=g:=by lia
       subst this;exact absurd z w2
   have hpl:=aW ra rb xs t;have hpl2:=aW ra rb xs (t+1);refine pY ?_;o_head zCS rfl ?_;o_head zFk ?_;o_head aA (j:=2) iv rfl (λv5 i5=>?_);o_head Of.v (show Is K H3 v5 (bG ra rb (ag ra rb xs (t+1)))from i5) ok.ba ok.bb () () (c (t+1) ()) () (λv6 H6 S6 i6=>?_);k_few;exact⟨g-(t+1),by lia,t+1,v6,by push_cast;rfl,rfl,by lia,S3.trans S6,i6⟩
 . rename_i z
   have htg:t=g:=by
     rcases wE t g with y | y
     . exact absurd (by rw[w1 t y];rfl) z
     . lia
   subst htg;exact q H3 S3
def Ov(B:Int)(x:Rat):Prop:=∃t:Int,x=wB t B
theorem Ov.zero(B:Int):Ov B 0:=⟨0,by simp⟩
theorem Ov.more{d:Int}(h:Ov B x)(hB:0<B)(hd:0<d):Ov (B*d) x:=by
 obtain⟨t,rfl⟩:=h;exact⟨t*d,sO hB hd⟩
theorem zCv(t u:Int):∃m,Bd m t/\Bd m u:=⟨t.natAbs+u.natAbs,⟨Vg (by lia:t.natAbs<=t.natAbs+u.natAbs) XG⟩,⟨Vg (by lia:u.natAbs<=t.natAbs+u.natAbs) XG⟩⟩
theorem zGx{a:Rat}(h:.aH):Bd 6 a.num:=by
 have h1:=h.a0;have h2:=h.a4;have h3:=h.ad;have n0:0<=a.num:=Qi.mpr (vY h1)
 have n1:a.num<=4*a.den:=by
   have:=(Xo a 4).mp h2
   simpa using this
 exact ⟨by have : (2 : Nat) ^ 6 = 64 := by decide
           lia⟩
theorem zGP{a:Rat}(h:.aH):Bd 4 .D:=by
 have h3:=h.ad
 exact ⟨by have : (2 : Nat) ^ 4 = 16 := by decide
           lia⟩
theorem zGJ{a:Rat}(h:.aH):Bd 4 b.num:=by
 have h1:=h.b0;have h2:=h.b1;have h3:=h.bd;have n0:0<=b.num:=Qi.mpr h1
 have n1:b.num<=b.den:=by
   have:=(Xo b 1).mp h2
   simpa using this
 exact ⟨by have : (2 : Nat) ^ 4 = 16 := by decide
           lia⟩
theorem Ov.push{a:Rat}(ok:.aH)(hB:0<B)(hd:.aU ∣ B)(h:Ov B x)(n:Nat):Ov (B*.D^n) (push a b n x):=by
 obtain⟨t,rfl⟩:=h;obtain⟨m,h1,h2⟩:=zCv t B;obtain⟨_,_,_,T,e,_⟩:=zpK (zGx ok) (zGP ok) (zGJ ok) hB hd h1 h2 n;exact⟨T,e⟩
theorem sR(a:Rat)(n:Nat):0<.D^n:=uk (den_pos a)
theorem Ov.up{a:Rat}(h:Ov B x)(hB:0<B)(n:Nat):Ov (B*.D^n) x:=h.more hB (sR a n)
theorem ZV(h:∀x∈xs,Ov B x)(i:Nat):Ov B .ai:=by
 rcases wE i xs.length with z | z
 ·exact h _ (getD_mem z)
 ·rw[wb,wN z];exact Ov.zero B
theorem zzx(h:∀i,i<xs.length->Ov B .ai):∀x∈xs,Ov B x:=λx hx=>by
 obtain⟨j,hj,rfl⟩:=wX hx;have:=h j hj;rw[wb,wc hj]at this;exact this
theorem zuV{a b:Rat}(ok:.aH):∀(n:Nat)(B:Int)(ps:.c)(left:List Nat),0<B->.aU ∣ B->left.Nodup->(∀w∈left,w<ps.length)->(∀x∈ps,Ov B x)->∀x∈(de a b n ps left).2.2,Ov (B*.D^(de a b n ps left).1.flatten.length) x
 | 0,B,ps,left,hB,_,_,_,h=>λx hx=>by
  have:Ov (B*.D^0) x:=by rw[QT,Qt];exact h x hx
  exact this
 | n+1,B,ps,left,hB,hd,nd,lt,h=>by
  by_cases e:aC ps left=[]
  ·rw[ou e]
   intro x hx;have:Ov (B*.D^0) x:=by rw[QT,Qt];exact h x hx
   exact this
  ·rw[jP e]
   have nd':(bV left .aD).Nodup:=rC nd;have lt':=pN (wave:=aC ps left) lt
   have ih:=zuV ok n (B*.D^(aC ps left).length) (cT (a^(aC ps left).length) (az a b (aC ps left).length) ps (bV left .aD)) (bV left .aD) (Wa hB (sR a _)) (qN hd (VX ..)) nd' (λw hw=>by rw[iB];exact lt' w hw) (zzx λi hi=>by
    rw[jF _ _ _ _ nd' lt']
    split
    ·rw[<- h9];exact(ZV h i).push ok hB hd _
    ·exact(ZV h i).up hB _)
   intro x hx;have:=ih x hx
   show Ov (B*.D^(aC ps left::_).flatten.length) x
   rw[VW,wL,ut,<- qm];exact this
theorem Ov.rise(hx:Ov B x)(hy:Ov B y)(hB:0<B):Ov B (x+(1-y)):=by
 obtain⟨t,rfl⟩:=hx;obtain⟨z,rfl⟩:=hy;refine⟨t+B-z,?_⟩
 symm
 refine fT () ?_;have q1:=dB t (show B≠0 by lia);have q2:=dB z (show B≠0 by lia);have q3:((t+B-z:Int):Rat)=(t:Rat)+(B:Rat)-(z:Rat):=by push_cast;rfl
 rw[q3,<- q1,<- q2]
 grind
def kI(a b:Rat)(xs:.c):Nat:=(cK a b xs).flatten.length
theorem zDC{a:Rat}(ok:.aH)(hB:0<B)(hd:.aU ∣ B)(h1:.aj)(h:∀x∈xs,Ov B x):∀y∈dh a b xs,Ov (B*.D^kI a b xs) y:=by
 have hr:∀x∈bN xs,Ov B x:=λx hx=>by
  obtain⟨y,hy,rfl⟩:=wQ.mp hx;exact(h y hy).rise (h _ (f_ h1)) hB
 have:=zuV ok xs.length B (bN xs) .B hB hd W3 (λw hw=>by rw[fo];exact wH.mp hw) hr;intro y hy;rcases zBG y hy with z | z
 ·exact this y z
 ·rw[z];exact Ov.zero _
def cO(a b:Rat)(xs:.c):Nat->Nat
 | 0=>0
 | k+1=>cO a b xs k+kI a b (ag a b xs k)
theorem tO(a b:Rat)(xs:.c)(m:Nat):∀k,cO a b xs (m+k)=cO a b xs m+cO a b (ag a b xs m) k
 | 0=>rfl
 | k+1=>by
  show cO a b xs (m+k)+kI a b (ag a b xs (m+k))=cO a b xs m+(cO a b (ag a b xs m) k+kI a b (ag a b (ag a b xs m) k))
  rw[tO a b xs m k,dH];lia
theorem IV{a b:Rat}(ok:.aH){B:Int}(hB:0<B)(hd:.aU ∣ B){xs:.c}(h1:.aj)(h:∀x∈xs,Ov B x):∀k,(∀y∈ag a b xs k,Ov (B*.D^cO a b xs k) y)/\Ov (B*.D^cO a b xs k) (aF a b xs k)
 | 0=>by
  show(∀y∈xs,Ov (B*.D^0) y)/\Ov (B*.D^0) 0
  rw[QT,Qt];exact⟨h,Ov.zero B⟩
 | k+1=>by
  obtain⟨hp,hh⟩:=IV ok hB hd h1 h k;have hBk:=Wa hB (sR a (cO a b xs k));have hpl:=aW a b xs k
  have e:B*.D^cO a b xs (k+1)=B*.D^cO a b xs k*.D^kI a b (ag a b xs k):=by
   rw[qm,<- ut];rfl
  rw[e];refine⟨zDC ok hBk (qN hd (VX ..)) () hp,?_⟩;exact(Ov.rise hh (hp _ (f_ ())) hBk).up hBk _
theorem Pj{a b:Rat}(a0:0<a)(b0:0<=b){xs:.c}(h1:.aj)(hp:cu xs):∀k:Nat,0<=aF a b xs k/\aF a b xs k<=((k:Int):Rat)
 | 0=>⟨WV,WV⟩
 | k+1=>by
  obtain⟨l,u⟩:=Pj a0 b0 h1 hp k;have hk:=hp.at a0 b0 k;have hm:=f_ (xs:=ag a b xs k) (by rw[aW];exact h1);have m0:=hk.nn _ hm;have m1:=hk.lt _ hm;have e:aF a b xs (k+1)=aF a b xs k+(1-a_ (ag a b xs k)):=rfl;have ek:(((k+1:Nat):Int):Rat)=((k:Int):Rat)+1:=by push_cast;rfl
  rw[e,ek];exact⟨by grind,by grind⟩
theorem EZ{l:Nat}(hB:0<B)(bB:Bd m B)(h:Ov B x)(x0:0<=x)(x1:x<=(((2^l:Nat):Int):Rat)):∃t:Int,x=wB t B/\Bd (m+l+1) t:=by
 obtain⟨t,rfl⟩:=h;refine⟨t,rfl,?_⟩;have q1:=dB t (show B≠0 by lia);have hBr:(0:Rat)<(B:Rat):=uT.mpr hB;have t0:(0:Rat)<=(t:Rat):=by rw[<- q1];exact qF x0 (vY hBr)
 have t1:(t:Rat)<=(((2^l:Nat):Int):Rat)*(B:Rat):=by
  rw[<- q1];exact QU x1 (vY hBr)
 have t0':0<=t:=Rat.intCast_nonneg.mp t0
 have t1':t<=((2^l:Nat):Int)*B:=by
  rw[<- vW]at t1;exact VC.mp t1
 have b:=bB.lt;refine⟨?_⟩
 have hb:t.natAbs<=2^l*B.natAbs:=by
  have e:((2^l*B.natAbs:Nat):Int)=((2^l:Nat):Int)*B:=by
   rw[VM]
   congr 1
   lia
  lia
 have:2^l*B.natAbs<2^l*2^m:=Nat.mul_lt_mul_of_pos_left b (Ws l);have e2:2^(m+l+1)=2^l*2^m*2:=by rw[VD,xV,xz (2^m)]
 lia
theorem zDm{a:Rat}(ok:.aH)(h:Bd m B)(n:Nat):Bd (m+3*n) (B*.D^n):=by
 refine⟨?_⟩;have h1:=h.lt;have h8:=ok.ad;rw[Xc,Int.natAbs_pow,Int.natAbs_natCast,xV,Nat.pow_mul];have e:(2:Nat)^3=8:=by decide
 rw[e];have h2:a.den^n<=8^n:=Nat.pow_le_pow_left h8 n;have hp:0<8^n:=Nat.pow_pos ⋯;exact Vg (qQ _ h2) (Nat.mul_lt_mul_of_pos_right h1 hp)
theorem Ov.sub(hx:Ov B x)(hy:Ov B y)(hB:0<B):Ov B (x-y):=by
 obtain⟨t,rfl⟩:=hx;obtain⟨z,rfl⟩:=hy;refine⟨t-z,?_⟩
 symm
 refine fT () ?_;have q1:=dB t (show B≠0 by lia);have q2:=dB z (show B≠0 by lia);have q3:((t-z:Int):Rat)=(t:Rat)-(z:Rat):=by push_cast;rfl
 rw[q3,<- q1,<- q2]
 grind
theorem U2{a:Rat}(ok:.aH)(c:jj b.den m xs)(h1:.aj)(hp:cu xs){l:Nat}(hk:k<=2^l):Cm (m+3*cO a b xs (i+k)+l+1) (aF a b .ab k::ag a b .ab k):=by
 obtain⟨B,hB,hd,bB,hx⟩:=c;have hov:=IV ok hB hd h1 (λx hx'=>let ⟨t,e,_⟩:=hx x hx';⟨t,e⟩);obtain⟨hph,hh⟩:=hov (i+k);have hBk:=Wa hB (sR a (cO a b xs (i+k)))
 have hi:Ov (B*.D^cO a b xs (i+k)) (aF a b xs i):=by
  have:=((hov i).2).up (a:=a) (Wa hB (sR a (cO a b xs i))) (cO a b .ab k);rw[qm,<- ut,<- tO]at this;exact this
 have hhk:Ov (B*.D^cO a b xs (i+k)) (aF a b .ab k):=by
  have e:aF a b .ab k=aF a b xs (i+k)-aF a b xs i:=by
   have:=kT a b xs i k
   grind
  rw[e];exact hh.sub hi hBk
 have bb:=zDm ok bB (cO a b xs (i+k));have hpi:=hp.at ok.a0 ok.b0 i;have hpk:=hpi.at ok.a0 ok.b0 k;have hl:(((k:Nat):Int):Rat)<=(((2^l:Nat):Int):Rat):=VC.mpr ()
 have h1l:(1:Rat)<=(((2^l:Nat):Int):Rat):=by
  have:((1:Int):Rat)<=(((2^l:Nat):Int):Rat):=VC.mpr (by have:=Ws l;lia);exact this
 refine⟨_,hBk,bb.mono (),λx hx'=>?_⟩;rcases wG.mp hx' with rfl | hx'
 ·have hb:=Pj ok.a0 ok.b0 (xs:=ag a b xs i) (by rw[aW];exact h1) hpi k
  exact EZ hBk bb hhk hb.1 (QM hb.2 hl)
 ·have:=hph x (by rw[<- dH];exact hx')
  exact EZ hBk bb this (hpk.nn x hx') (QM (vY (hpk.lt x hx')) h1l)
theorem zA7{a:Rat}(a0:0<a)(b0:0<=b)(h1:.aj)(hp:cu xs):kI a b xs<=xs.length:=by
 obtain⟨v,J⟩:=Cw a0 b0 h1 hp.nn hp.lt;unfold kI;rw[J.perm.length_eq];unfold seg;have:=vZ (λw=>decide (0<=aI xs w)&&decide (aI xs w<v)) .B;rw[vi]at this;exact this
theorem sC{a b:Rat}(a0:0<a)(b0:0<=b){xs:.c}(h1:.aj)(hp:cu xs):∀k,cO a b xs k<=k*xs.length
 | 0=>WN _
 | k+1=>by
  have ih:=sC a0 b0 h1 hp k;have hl:=aW a b xs k;have:=zA7 a0 b0 (xs:=ag a b xs k) () (hp.at a0 b0 k);rw[qD]
  show cO a b xs k+kI a b (ag a b xs k)<=_
  lia
theorem zwL{a:Rat}(a0:0<a)(b0:0<=b)(h1:.aj)(hp:cu xs):1<=(cK a b xs).length:=by
 obtain⟨v,J⟩:=Cw a0 b0 h1 hp.nn hp.lt;obtain⟨ws,e,_⟩:=J.first;rw[e];simp
theorem zxY{a:Rat}(a0:0<a)(b0:0<=b)(h1:.aj)(hp:cu xs):(aj (dh a b xs)).length<=(aj xs).length/\(1<(cK a b xs).length->(aj (dh a b xs)).length<(aj xs).length):=by
 obtain⟨v,J⟩:=Cw a0 b0 h1 hp.nn hp.lt;have e:=congrArg xT J.new;rw[jn,wL,Wd,jn,vX]at e;have v1:=J.v1;have vm:=J.vm;exact⟨by lia,λh=>by have:=J.more.mp h;lia⟩
theorem Ce{a b:Rat}(a0:0<a)(b0:0<=b){xs:.c}(h1:.aj)(hp:cu xs):∀k,(aj (ag a b xs k)).length<=(aj xs).length
 | 0=>wo _
 | k+1=>Wb (zxY a0 b0 (xs:=ag a b xs k) (by rw[aW];exact h1) (hp.at a0 b0 k)).1 (Ce a0 b0 h1 hp k)
theorem znQ{a b:Rat}(ok:.aH){xs ps:.c}{fl:Nat->Nat}{ns:.p}(L:gf xs (ps++[0]) fl ns)(hn:ns.length=ps.length+1)(f:cE a b ns ps=true):∀t,t<=ns.length->cO a b xs t=upTo ns t
 | 0,_=>rfl
 | t+1,ht=>by
  have ih:=znQ ok L hn f t ();have hw:=(sx ok L hn f).2.1 t ();have hl:(ps++[0]).length=ns.length:=by simp[hn]
  have hs:=L.size t ()
  show cO a b xs t+kI a b (ag a b xs t)=_
  unfold kI;rw[hw,ih,pf (),hs];simp
theorem PL{a b:Rat}(ok:.aH){xs ps:.c}{fl:Nat->Nat}{ns:.p}(L:gf xs (ps++[0]) fl ns)(hn:ns.length=ps.length+1)(n0:∀n∈ns,0<=n):∀k,(∀j,j<k->cv a b ns ps j=true)->cO a b xs (k*ns.length)=k*upTo ns ns.length
 | 0,_=>by rw[Qf,Qf];rfl
 | k+1,h=>by
  have ih:=PL ok L hn n0 k λj hj=>h j ()
  obtain⟨Lk,_⟩:=lE ok L hn n0 k λj hj=>h j ()
  have hl:ns.length=(aX a b ns k ps).length+1:=by rw[bZ];exact hn
  rw[qD,tO,ih,znQ ok Lk hl (h k ()) _ .Y,qD]
structure gX(a b:Rat)(xs:.c)(r g:Nat):Prop where
 lM:r<=30
 free:eJ a b xs r
 ends:cv a b .aI .bC r=false
 g1:1<=g
 gN:g<=(aj xs).length
 one:∀t,t+1<g->(cK a b (ag a b (ag a b xs (r*(aj xs).length)) t)).length=1
 join:1<(cK a b (ag a b (ag a b xs (r*(aj xs).length)) (g-1))).length
theorem PF{p:Nat->Prop} : ∀n,(∃t,t<n /\ ¬ p t)->∃g,g<n/\(∀t,t<g->p t) /\ ¬ p g
 | 0,h=>by obtain⟨t,ht,_⟩:=h;lia
 | n+1,h=>by
  by_cases z:∃t,t<n /\ ¬ p t
  ·obtain⟨g,h1,h2,h3⟩:=PF n z
   exact⟨g,by lia,h2,h3⟩
  ·obtain⟨t,ht,hp⟩:=h
   have htn:t=n:=by
    rcases wE t n with y | y
    ·exact absurd ⟨t,y,hp⟩ z
    ·lia
   subst htn;exact⟨t,by lia,λs hs=>Wm.mp λy=>z ⟨s,hs,y⟩,hp⟩
structure zEX(a b:Rat)(xs:.c):Prop where
 hz:aT xs++[0]=aj xs
 hn:(aR xs).length=(aT xs).length+1
 hs:(aR xs).length=(aj xs).length
 L:gf xs (aT xs++[0]) (aI xs) .aI
theorem mG{a:Rat}(hp:cu xs)(h0:0∈xs):zEX a b xs:=by
 have hz:aT xs++[0]=aj xs:=Bq hp h0;have hsl:=pZ xs;have hpl:(aT xs).length+1=(aj xs).length:=by rw[<- hz];simp
 exact⟨hz,by lia,hsl,by rw[hz];exact O0 hp.nn hp.lt⟩
theorem zvu{a:Rat}(ok:.aH)(h1:.aj)(hp:cu xs)(h0:0∈xs)(h30:r<=30)(f:eJ a b xs r)(e:cv a b .aI .bC r=false):∃g,gX a b xs r g:=by
 obtain⟨hz,hn,hs,L⟩:=mG (a:=a) (b:=b) hp h0;obtain⟨Lr,_⟩:=lE ok L hn (kD xs) r f;obtain⟨t,ht,hj⟩:=zyV ok Lr (by rw[bZ];exact hn) e;rw[hs]at ht hj;obtain⟨g,g1,g2,g3⟩:=PF (p:=λt=>(cK a b (ag a b (ag a b xs (r*(aj xs).length)) t)).length=1) (aj xs).length ⟨t,ht,λz=>by rw[z]at hj;lia⟩;refine⟨g+1,h30,f,e,by lia,by lia,λt ht=>g2 t (),?_⟩;have:=zwL (a:=a) (b:=b) ok.a0 ok.b0 (xs:=ag a b (ag a b xs (r*(aj xs).length)) g) (by rw[aW,aW];exact h1) ((hp.at ok.a0 ok.b0 _).at ok.a0 ok.b0 _);rw[Qb];have g3:¬ (cK a b (ag a b (ag a b xs (r*(aj xs).length)) g)).length=1:=g3;lia
theorem gX.cO{a:Rat}{g:Nat}(R:gX a b xs r g)(ok:.aH)(h1:.aj)(hp:cu xs)(h0:0∈xs){t:Nat}(ht:t<=g):cO a b xs (r*(aj xs).length+t)<=30*xs.length+xs.length*xs.length:=by
 obtain⟨hz,hn,hs,L⟩:=mG (a:=a) (b:=b) hp h0;have h2:=PL ok L hn (kD xs) r R.free;rw[hs]at h2;have h3:=Tn xs;rw[hs]at h3;have h4:=sC ok.a0 ok.b0 (xs:=ag a b xs (r*(aj xs).length)) (by rw[aW];exact h1) (hp.at ok.a0 ok.b0 _) t;rw[aW]at h4;rw[tO,h2];have h5:r*upTo .aI (aj xs).length<=30*xs.length:=W8 R.lM h3;have h6:t*xs.length<=xs.length*xs.length:=Wf _ (by have:=R.gN;have:=iQ xs;lia);lia
theorem gX.Np{a:Rat}{g:Nat}(R:gX a b xs r g)(ok:.aH)(h1:.aj)(hp:cu xs):(aj (ag a b xs (r*(aj xs).length+g))).length<(aj xs).length:=by
 have g1:=R.g1
 have e:ag a b xs (r*(aj xs).length+g)=dh a b (ag a b (ag a b xs (r*(aj xs).length)) (g-1)):=by
  rw[<- dH];obtain⟨k,rfl⟩:∃k,g=k+1:=⟨g-1,by lia⟩
  rfl
 have h2:cu (ag a b (ag a b xs (r*(aj xs).length)) (g-1)):=(hp.at ok.a0 ok.b0 _).at ok.a0 ok.b0 _;have hl:(ag a b (ag a b xs (r*(aj xs).length)) (g-1)).length=xs.length:=by rw[aW,aW]
 have h3:=(zxY ok.a0 ok.b0 (xs:=ag a b (ag a b xs (r*(aj xs).length)) (g-1)) () h2).2 R.join;have h4:=Ce ok.a0 ok.b0 (xs:=xs) h1 hp (r*(aj xs).length+(g-1));rw[dH]at h3;rw[dH]at e;rw[e];lia
theorem zuf{a:Rat}(ok:.aH)(sz:cQ ns)(hn:.z)(st:dS a b ns xs=true):cF a b ns xs=xs\/(a<1/\je a b ns=true):=by
 have hps:=sz.pos;unfold dS at st
 by_cases z1:1<a
 ·rw[if_pos z1]at st
  have e:=of_decide_eq_true st;have hF:a^ns.sum.toNat≠1:=λe=>absurd ((j7 ok ()).mp e) .aB
  refine .inl ?_;rw[<- nT hn sz.nn,Dq hF hn 1];rw[<- e,zCc]
 ·rw[if_neg z1]at st
  by_cases z2:a=1
  ·rw[if_pos z2]at st
   refine .inl ?_;rw[<- nT hn sz.nn]
   exact hV (bZ ..) λi hi=>by
    rw[bZ]at hi;have hi':i<(cb a b ns).length:=by rw[m_ ()];lia
    have hz:(cb a b ns).getD i 0=0:=by
     rw[Wk]at st;have:=st _ (wQ.mpr ⟨_,getD_mem (d:=0) hi',rfl⟩);exact of_decide_eq_true this
    rw[fD hi,hz];unfold fh;rw[z2,GM.one_pow',GM.one_pow']
    grind
  ·rw[if_neg z2]at st
   refine .inr ⟨?_,st⟩
   by_cases h:a<1
   ·exact h
   ·exact absurd (qq (W6.mp h) (WI z2)) z1
theorem zDG{a:Rat}(ok:fM a b xs)(h:di a b xs=none)(f:cv a b .aI .bC 0=true):dS a b .aI .bC=false:=by
 obtain⟨_,sz,hn⟩:=ok.round;unfold cv at f;rw[kx]at f;cases e:dS a b .aI (aT xs)with
 | false=>rfl
 | true =>
  unfold di at h;rw[if_pos f]at h
  split at h
  ·cases h
  ·split at h
   ·cases h
   ·rename_i y
    rcases zuf ok.ok sz hn e with z | z
    ·exact absurd z y
    ·rw[if_pos z]at h;cases h
def ZL(K:wa)(a:Ad):Sp:=λvs H Q E=>∃x0 x1,vs=[x0,x1] /\ ∃(ra rb h:Rat)(xs:.c),Is K H x0 (N h)/\Is K H x1 (bG ra rb xs)/\fM ra rb xs/\di ra rb xs=none/\(∀r g t,gX ra rb xs r g->t<=g->Cm 3600 (ag ra rb xs (r*(aj xs).length+t))) /\
 ((∀k,k<=30->cv ra rb .aI .bC k=true)->∀H',ar H H'->E (.ref a.gg) none H') /\ ∀r g v H',gX ra rb xs r g->ar H H'->Is K H' v (kn h xs r g)->Q v H'
theorem ztB{v w:V}(h1:Is K H v (N h))(h2:Is K H w (bG ra rb xs))(ok:fM ra rb xs)(hw:di ra rb xs=none)(c:∀r g t,gX ra rb xs r g->t<=g->Cm 3600 (ag ra rb xs (r*(aj xs).length+t)))(qe:(∀k,k<=30->cv ra rb .aI .bC k=true)->∀H',ar H H'->E (.ref a.gg) none H')(q:∀r g v H',gX ra rb xs r g->ar H H'->Is K H' v (kn h xs r g)->Q v H'):ZL K a [v,w] H Q E:=⟨_,_,rfl,ra,rb,h,xs,h1,h2,ok,hw,c,qe,q⟩
theorem ztS(T:.q):dL P w base T.LY 12 (ZL K a):=by
 exists T.LY,["hour","swarm","both","rounds","glows"],"y2",(ak (ay 2 ii (nO (A1 T) hr T.rN zP (q1 1)))
     (ak (ay 3 ii (nO (zpY T) hr T.J3 zP (ae .bc (ae (qi 2) (ae (qi 2) ah)))))
     (ak (ay 4 ii (ao (zm9 T) hr (ae (eC (ao (zhb T) hr (q2 1 3))) ah)))
     (au (aB (aS (by exact(@ae _ _ _ _ _ .L (@ae _ _ _ _ _ .bc (@ae _ _ _ _ _ .au (@ae _ _ _ _ _ (pv 4) ah cj) cj) ff) cj))))))))
 obtain⟨ra,rb,hr',xs,ih,hw,ok,hno,hc,qe,q⟩:=h;obtain⟨rok,sz,hn⟩:=ok.round;have h8:=ok.h8;have bx:∀i,af 4000 .ai:=λi=>(ok.cm.get i).mono ⋯
 o_head zC hw h8 bx (λz=>absurd ok.h0 z) (λ_ vl H1 S1 il=>?_);have hw1:=hw.by S1;o_head aA (j:=0) hw1 rfl (λvr ir=>?_);o_head aA (j:=0) il rfl (λvz iz=>?_);o_head aA (j:=1) il rfl (λvp ip=>?_);o_head zo4 ir iz ip ok.ok sz hn (mi ok.cm) ⋯ (λz H2 S2=>?_) (λz y H2 S2=>?_) (λc c1 c2 y z w H2 S2=>?_) (λy z H2 S2=>?_)
 . have RR:(0:Nat)<=30:=by decide
   have FF:eJ ra rb xs 0:=λk hk=>by lia
   have EE:=z;k_few;obtain⟨g,R⟩:=zvu ok.ok ok.h1 ok.hp ok.h0 RR FF EE;have g1:=R.g1;have gN:=R.gN;have hvl:=iQ xs;refine Y0.v rfl (U:=0) (hw1.by S2) ok RR FF .aG;o_head aA (j:=1) i3 rfl (λv4 i4=>?_);k_few;have hj:=R.join;refine PH.v (g:=g-1) i4 ok.ok (by rw[aW];exact ok.h1) (by rw[aW];exact h8) () (λt ht=>by rw[dH];exact(hc _ g t R ()).mono ⋯) (λt ht=>R.one t ()) () (λH5 S5=>?_);rw[show g-1+1=g by lia];have S15:=S2.trans (S3.trans S5);o_head aA (j:=1) (hw1.by S15) rfl (λv6 i6=>?_);o_head cJ (ds:=[N hr',TN xs,.int ((0:Nat):Int),.int (g:Int)]) ∅ (.cons (ih.by (S1.trans S15)) (.cons i6 (.cons .bw (.cons .bw .nil)))) (λv7 H7 S7 i7=>?_);exact q 0 g v7 H7 R (S1.trans (S15.trans S7)) i7
 . rw[zDG ok hno z]at y
   cases y
 . have RR:=c2
   have FF:eJ ra rb xs c:=z;have EE:=w;k_few;obtain⟨g,R⟩:=zvu ok.ok ok.h1 ok.hp ok.h0 RR FF EE;have g1:=R.g1;have gN:=R.gN;have hvl:=iQ xs;refine Y0.v rfl (U:=c) (hw1.by S2) ok RR FF .aG;o_head aA (j:=1) i3 rfl (λv4 i4=>?_);k_few;have hj:=R.join;refine PH.v (g:=g-1) i4 ok.ok (by rw[aW];exact ok.h1) (by rw[aW];exact h8) () (λt ht=>by rw[dH];exact(hc _ g t R ()).mono ⋯) (λt ht=>R.one t ()) () (λH5 S5=>?_);rw[show g-1+1=g by lia];have S15:=S2.trans (S3.trans S5);o_head aA (j:=1) (hw1.by S15) rfl (λv6 i6=>?_);o_head cJ (ds:=[N hr',TN xs,.int (c:Int),.int (g:Int)]) ∅ (.cons (ih.by (S1.trans S15)) (.cons i6 (.cons .bw (.cons .bw .nil)))) (λv7 H7 S7 i7=>?_);exact q c g v7 H7 R (S1.trans (S15.trans S7)) i7
 . exact qe z H2 .aM
def rY(a b:Rat)(xs:.c)(i r g:Nat):Prop:=(i=0/\r=0/\g=1)\/(1<=i/\di a b .ab=none/\gX a b .ab r g)
def iY(a b:Rat)(xs:.c):Nat->List (Nat × Nat × Nat)->Nat->Prop
 | i,[],n=>i=n
 | i,e::es,n=>e.1=i/\rY a b xs i e.2.1 e.2.2/\iY a b xs (dJ a b xs i e.2.1 e.2.2) es n
theorem iY.snoc{a b:Rat}{xs:.c} : ∀{es:.am}{i n r g:Nat},iY a b xs i es n->rY a b xs n r g->iY a b xs i (es++[(n,r,g)]) (dJ a b xs n r g)
 | [],i,n,r,g,h,k=>by
  have e:i=n:=h;subst e;exact⟨rfl,k,rfl⟩
 | e::es,i,n,r,g,h,k=>⟨h.1,h.2.1,iY.snoc h.2.2 k⟩
theorem sj(h:Rat)(xs:.c)(r g:Nat):dC (kn h xs r g)=true:=by rw[kn,dC,cg,cg,cg,cg,cg,lH,nX];rfl
theorem zzn(a b:Rat)(xs:.c)(n:Nat)(w:.ar):dC (sE a b xs n w)=true:=by rw[sE,dC,cg,cg,cg,cg,lH,nX];rfl
structure dq(a b:Rat)(xs:.c):Prop where
 ok:aM a b
 h1:1<=xs.length
 h6:xs.length<=6
 hp:cu xs
 sz:∃m,jj b.den m xs/\m+648*xs.length<=3935
theorem dq.of{a:Rat}(ok:.aH)(h1:.aj)(h6:xs.length<=6)(ph:∀x∈xs,fB x):dq a b xs/\jj b.den 47 xs:=by
 have b6:∀j,af 6 (xs.getD j 0):=λj=>by
  rcases wE j xs.length with z | z
  ·exact(ph _ (getD_mem z)).d6
  ·rw[wb,wN z];exact af.zero.mono ⋯
 have c0:Cm 43 xs:=(Cm.aaz b6).mono ();have c1:jj b.den 47 xs:=jj.of c0 (den_pos b) ⟨by have:=ok.bd;have:(2:Nat)^4=16:=⋯;lia⟩;exact⟨⟨ok,h1,h6,⟨λx hx=>(ph x hx).nn,λx hx=>(ph x hx).lt⟩,47,c1,by lia⟩,c1⟩
def mJ(a b:Rat)(xs:.c)(i:Nat):Prop:=cO a b xs i+216*(aj .ab).length<=6+216*xs.length/\i+186*(aj .ab).length<=1+186*6
structure iU(a b:Rat)(xs:.c)(es:.am)(n:Nat)(w:.ar):Prop where
 walk:iY a b xs 0 es n
 e1:1<=es.length
 bS:es.length<=9
 n1:1<=n
 word:di a b (ag a b xs n)=some w
 sp:mJ a b xs n
theorem dq.jX{a:Rat}(h:dq a b xs)(hg:cO a b xs (i+k)+216<=20+216*xs.length)(hk:k<=1024):Cm 3500 (aF a b .ab k::ag a b .ab k):=by
 obtain⟨m,c,hm⟩:=h.sz;exact(U2 h.ok c h.h1 h.hp (i:=i) (k:=k) (l:=10) (by rw[show(2:Nat)^10=1024 by decide];exact hk)).mono ()
theorem dq.cm{a:Rat}(h:dq a b xs)(hg:cO a b xs i+216<=20+216*xs.length)(hi:i<=1024):Cm 3500 (aF a b xs i::ag a b xs i):=h.jX (i:=0) (k:=i) (by rw[xD];exact hg) hi
theorem dq.Nz{a:Rat}(h:dq a b xs)(h1:1<=i)(c:Cm 3500 (aF a b xs i::ag a b xs i)):fM a b .ab :=
 ⟨h.ok,by rw[aW];exact h.h1,by rw[aW];have:=h.h6;lia,h.hp.at h.ok.a0 h.ok.b0 i,h.hp.zero h.ok.a0 h.ok.b0 h.h1 h1,(iP c λy hy=>wt _ hy).mono ⋯⟩
theorem dq.nf{a:Rat}(h:dq a b xs)(i:Nat):1<=(aj .ab).length/\(aj .ab).length<=6:=by
 have:=iQ .ab;rw[aW]at this;have h6:=h.h6;exact⟨mB (by rw[aW];exact h.h1),by lia⟩
theorem dq.nl{a:Rat}(i:Nat):(aj .ab).length<=xs.length:=by
 have:=iQ .ab;rw[aW]at this;exact this
theorem dq.one{a:Rat}(h:dq a b xs):mJ a b xs 1:=by
 have h6:=h.h6;have h1:=h.h1;have:=sC h.ok.a0 h.ok.b0 h.h1 h.hp 1;have:=(h.nf 1).2;have:=dq.nl (a:=a) (b:=b) (xs:=xs) 1;exact⟨by lia,by lia⟩
theorem dq.within{a:Rat}(h:dq a b xs){g t:Nat}(i1:1<=i)(sp:mJ a b xs i)(n2:2<=(aj .ab).length)(R:gX a b .ab r g)(ht:t<=g):cO a b xs (i+(r*(aj .ab).length+t))+216<=20+216*xs.length/\i+(r*(aj .ab).length+t)<=1024/\cO a b xs (i+(r*(aj .ab).length+t))<=cO a b xs i+216/\r*(aj .ab).length+t<=186:=by
 have h6:=h.h6;have nf:=(h.nf i).2;have hl:=aW a b xs i;have g1:=R.cO h.ok (by rw[hl];exact h.h1) (h.hp.at h.ok.a0 h.ok.b0 i) (h.hp.zero h.ok.a0 h.ok.b0 h.h1 i1) ht;rw[hl]at g1
 have g2:30*xs.length+xs.length*xs.length<=216:=by
  have:xs.length*xs.length<=6*6:=W8 h6 h6;lia
 have g3:r*(aj .ab).length<=30*6:=W8 R.lM nf;have g4:=R.gN;obtain⟨s1,s2⟩:=sp;rw[tO];exact⟨by lia,by lia,by lia,by lia⟩
theorem dq.next{a:Rat}(h:dq a b xs){g:Nat}(i1:1<=i)(sp:mJ a b xs i)(n2:2<=(aj .ab).length)(R:gX a b .ab r g):mJ a b xs (dJ a b xs i r g):=by
 obtain⟨_,_,w1,w2⟩:=h.within i1 sp n2 R (wo g);have f:=R.Np h.ok (by rw[aW];exact h.h1) (h.hp.at h.ok.a0 h.ok.b0 i);rw[dH]at f;obtain⟨s1,s2⟩:=sp;unfold mJ dJ;exact⟨by lia,by lia⟩
theorem SV{a:Rat}(h:di a b xs=none)(h1:1<=(aj xs).length):2<=(aj xs).length:=by
 unfold di at h
 split at h
 ·cases h
 ·lia
def lz(a b:Rat)(xs:.c):Prop:=∃es i,iY a b xs 0 es i/\1<=i/\di a b .ab=none /\ ∀k,k<=30->cv a b (aR .ab) (aT .ab) k=true
def SR(K:wa)(a:Ad):Sp:=λvs H Q E=>∃x0,vs=[x0] /\ ∃(ra rb:Rat)(xs:.c),Is K H x0 (bG ra rb xs)/\dq ra rb xs /\
 (lz ra rb xs->∀H',ar H H'->E (.ref a.gg) none H') /\ ∀l H' es n w,iU ra rb xs es n w->H l=none->ar H H'->Is K H' .al (.list (ft ra rb xs es n w))->Q .al H'
theorem ztY{v:V}(h:Is K H v (bG ra rb xs))(ok:dq ra rb xs)(qe:lz ra rb xs->∀H',ar H H'->E (.ref a.gg) none H')(q:∀l H' es n w,iU ra rb xs es n w->H l=none->ar H H'->Is K H' .al (.list (ft ra rb xs es n w))->Q .al H'):SR K a [v] H Q E:=⟨_,rfl,ra,rb,xs,h,ok,qe,q⟩
theorem zu4(T:.q):dL P w base T.Lq 13 (SR K a):=by
 exists T.Lq,["swarm","rows","word","row","told","hour"],"y1",(ak (ay 1 ii (dG (ae (aS (by exact(@ae _ _ _ _ _ .G (@ae _ _ _ _ _ .H (@ae _ _ _ _ _ av (@ae _ _ _ _ _ av ah Bl) Bl) ff) cj))) ah)))
     (ak (ay 2 ii fS)
     (ak (m4 ug (dP EX .aV fS (dF _)) (ak (ay 3 ii (dD cZ .X (gy gC av) .aw))
     (ak (ay 4 ii (ao (Rv T) hr (ae (aS (ae .H (ae (qi 3) ah))) (ae (qi 3) (ae (qi 3) ah)))))
     (ak (ay 5 ii (ao (ie T) hr (ae (qi 3) (ae (qi 4) ah))))
     (ak (ay 2 ii (ao (YB T) hr (ae (qi 4) ah)))
     (au (jK (i_ vP vU vV jh .X (ae (tI (dP EX .aV fS (dF _)) (nO (ztS T) hr T.LY zP (ae (pv 5) (ae (qi 4) ah))) (aS (ae (pv 5) (ae (eC (qi 4)) (q1 2))))) ah)))))))))
     (au (aB .X)))))
 obtain⟨ra,rb,xs,hw,ok,qe,q⟩:=h;o_head aA (j:=1) hw rfl (λv1 i1=>?_);o_head cJ (ds:=[N 0,TN xs,.int 0,.int 1]) ∅ (.cons (eQ 0 (T.fv _) rfl rfl) (.cons i1 (.cons .bw (.cons .bw .nil)))) .bg;o_head dN ∅ (λlr H3 n3 S3 e3=>?_);have hlr:H lr=none:=fK S2 n3;k_few
 refine rf (λm σ' H'=>∃(us:.x)(es:.am)(vw:V)(o3 o4 o5:.bf),σ'=[some x0,some (.ref lr),some vw,o3,o4,o5]/\ar H H'/\H' lr=some (.lst us) /\
   ((vw=.bE /\ ∃i r g,iY ra rb xs 0 es i/\rY ra rb xs i r g/\ai K H' us ((es++[(i,r,g)]).map (fU ra rb xs))/\(1<=i->mJ ra rb xs i)/\es.length+(aj (ag ra rb xs (dJ ra rb xs i r g))).length<=6/\m=(aj (ag ra rb xs (dJ ra rb xs i r g))).length) \/
     ∃n w,vw=.str (wM w)/\iU ra rb xs es n w/\ai K H' us (ft ra rb xs es n w)/\m=0)) _ ⟨[v2],[],.bE,_,_,_,rfl,S2.trans S3,e3,.inl ⟨rfl,0,0,1,rfl,.inl ⟨rfl,rfl,rfl⟩,.cons (i2.by S3) .nil,λh=>by lia,by have:=(ok.nf (dJ ra rb xs 0 0 1)).2;simpa using this,rfl⟩⟩ ?_
 rintro m σ' H4 hz;obtain⟨us,es,vw,o3,o4,o5,rfl,S4,e4,C⟩:=hz;rcases C with⟨rfl,i,r,g,wk,ro,t4,sp,bS,rfl⟩ | ⟨n,w',rfl,P,t4,rfl⟩
 . have hN:=(ok.nf i).2
   have h6:=ok.h6;have h1L:=ok.h1
   have facts:g<=40/\(1<=r->fM ra rb .ac/\r<=30/\eJ ra rb .ac r)/\cO ra rb xs (dJ ra rb xs i r g)+216<=20+216*xs.length/\dJ ra rb xs i r g<=1024/\cO ra rb xs i+216<=20+216*xs.length/\i<=1024/\(∀t,t<=g->cO ra rb xs (i+(r*(aj .ac).length+t))+216<=20+216*xs.length)/\mJ ra rb xs (dJ ra rb xs i r g)/\r<=30:=by
     rcases ro with⟨rfl,rfl,rfl⟩ | ⟨i1,hno,R⟩
     . have e:dJ ra rb xs 0 0 1=1:=by unfold dJ;lia
       have h2:=sC ok.ok.a0 ok.ok.b0 ok.h1 ok.hp;refine⟨by lia,λz=>by lia,by rw[e];have:=h2 1;lia,by lia,by have:=h2 0;lia,by lia,λt ht=>?_,by rw[e];exact ok.one,by lia⟩;have h3:=h2 (0+(0*(aj (ag ra rb xs 0)).length+t));have h4:(0+(0*(aj (ag ra rb xs 0)).length+t))*xs.length<=1*6:=W8 () h6;lia
     . have n2:=SV hno (ok.nf i).1
       have sp:=sp i1;have w:=λ{t:Nat}(ht:t<=g)=>ok.within i1 sp n2 R ht
       have w0:=w (wo g);have g4:=R.gN;have si:=sp.1;have si2:=sp.2;have c:Cm 3500 (aF ra rb xs i::ag ra rb xs i):=ok.cm () ();exact⟨by lia,λ_=>⟨ok.Nz i1 c,R.lM,R.free⟩,w0.1,w0.2.1,by lia,by lia,λt ht=>(w ht).1,ok.next i1 sp n2 R,R.lM⟩
   obtain⟨pe,fr,gl,nl,gi,ni,gw,sl,lM⟩:=facts;have cI:=ok.cm gi ni;have cL:=ok.cm gl nl
   have n1:1<=dJ ra rb xs i r g:=by
     unfold dJ;rcases ro with⟨rfl,rfl,rfl⟩ | ⟨i1,hno,R⟩
     . lia
     . lia
   have swL:=ok.Nz n1 cL;have hrN:r*(aj .ac).length<=30*6:=W8 lM hN;have hul:=t4.length;rw[wl,wL,vX]at hul;have hnf:=(ok.nf (dJ ra rb xs i r g)).1;o_head pY ?_;k_few
   have il:Is K H4 (.ref lr) (.list (es.map (fU ra rb xs)++[fU ra rb xs (i,r,g)])):=by
     rw[w5]at t4;exact cq.mpr ⟨lr,us,rfl,.of e4,t4⟩
   refine nB il (λv5 i5=>?_);have i5:Is K H4 v5 (kn (aF ra rb xs i) .ac r g):=i5;have hw4:=hw.by S4;o_head aA (j:=0) hw4 rfl (λv6 i6=>?_);o_head aA (j:=1) i5 rfl (λv7 i7=>?_);o_head cJ (ds:=[R ra rb,TN .ac]) ∅ (.cons i6 (.cons i7 .nil)) (λv8 H8 S8 i8=>?_);have i58:=i5.by S8;o_head aA (j:=2) i58 rfl (λv9 i9=>?_);rw[cf.mp i9];o_head aA (j:=3) i58 rfl (λv10 i10=>?_);rw[cf.mp i10];k_few;have bH:af 8000 (aF ra rb .ac (r*(aj .ac).length)):=((ok.jX (i:=i) (k:=r*(aj .ac).length) (by have:=gw 0 ();rw[xB]at this;exact this) ()).d6 .bn).mono ⋯
   have cG:∀t,t<=g->Cm 3700 (aF ra rb (ag ra rb .ac (r*(aj .ac).length)) t::ag ra rb (ag ra rb .ac (r*(aj .ac).length)) t):=λt ht=>by
     rw[dH ra rb xs];exact(ok.jX (i:=i+r*(aj .ac).length) (k:=t) (by have:=gw t ht;rw[<- Vq]at this;exact this) ()).mono ⋯
   refine SN.v rfl rfl (show Is K H8 v8 (bG ra rb .ac)from i8) ok.ok (by rw[aW];exact ok.h1) (by rw[aW];lia) fr pe bH cG (λv11 H11 S11 i11=>?_);have i11:Is K H11 v11 (.tuple [N (aF ra rb .ac (r*(aj .ac).length+g)),bG ra rb (ag ra rb .ac (r*(aj .ac).length+g))]):=i11;rw[dH]at i11;have i11:Is K H11 v11 (.tuple [N (aF ra rb .ac (r*(aj .ac).length+g)),bG ra rb (ag ra rb xs (dJ ra rb xs i r g))]):=i11;have i511:=i58.by S11;have bI:af 3500 (aF ra rb xs i):=cI.d6 .bn;have bJ:af 3500 (aF ra rb .ac (r*(aj .ac).length+g)):=(ok.jX (i:=i) (k:=r*(aj .ac).length+g) gl ()).d6 .bn;o_head aA (j:=0) i511 rfl (λv12 i12=>?_);o_head aA (j:=0) i11 rfl (λv13 i13=>?_);k_few;rename_i v14 H14 S14 i14;rw[kT]at i14;have i14:Is K H14 v14 (N (aF ra rb xs (dJ ra rb xs i r g))):=i14;have i1114:=i11.by S14;refine aA (j:=1) i1114 rfl (λv15 i15=>?_);have i15:Is K H14 v15 (bG ra rb (ag ra rb xs (dJ ra rb xs i r g))):=i15;o_head zvQ i15 swL (λH16 S16=>?_);have S816:=S8.trans (S11.trans (S14.trans S16));have e16:=S816 _ _ e4;have t16:ai K H16 us ((es++[(i,r,g)]).map (fU ra rb xs)):=ai.same S816 _ _ t4;have S416:=S4.trans S816;have i1116:=i1114.by S16;have i1416:=i14.by S16;have i1516:=i15.by S16;have wk':=wk.snoc ro;generalize hlead:dJ ra rb xs i r g=n at *;cases hwd:di ra rb (ag ra rb xs n)with
   | none =>
     first | show jC 2 V.bE _ _ _ | rw[show jS none=V.bE from rfl]
     o_head gU (aE.of e16) ?_;o_head aA (j:=1) i1116 rfl (λv17 i17=>?_);k_few;have n2:=SV hwd hnf;refine ztB i1416 (show Is K H16 v17 (bG ra rb .ag)from i17) swL hwd (λr' g' t R ht=>?_) (λz H' S=>qe ⟨_,n,wk',n1,hwd,z⟩ H' (S416.trans S)) (λr' g' v18 H18 R S18 i18=>?_)
     . have w:=ok.within n1 sl n2 R ht
       rw[dH];exact(iP (ok.cm w.1 w.2.1) λy hy=>wt _ hy).mono ⋯
     . k_few
       have e18:=S18 _ _ e16;refine iI e18 () (λH19 E19 e19=>?_);have K19:=E19.keep e18;have fw:=R.Np ok.ok (by rw[aW];exact ok.h1) (ok.hp.at ok.ok.a0 ok.ok.b0 n);rw[dH]at fw;have fw:(aj (ag ra rb xs (dJ ra rb xs n r' g'))).length<(aj .ag).length:=fw;o_head ⟨_,fw,us++[v18],es++[(i,r,g)],.bE,_,_,_,rfl,(S416.trans S18).grow hlr E19,e19,.inl ⟨rfl,n,r',g',wk',.inr ⟨n1,hwd,R⟩,?_,λ_=>sl,?_,rfl⟩⟩
       . rw[w5]
         exact(ai.keep K19 _ _ (sL _ (λe=>sj _ _ _ _) _) (ai.same S18 _ _ t16)).append (.cons (i18.gD K19 (sj _ _ _ _)) .nil)
       . rw[wL,vX]
         lia
   | some wd =>
     first | show jC 2 (V.str (wM wd)) _ _ _ | rw[show jS (some wd)=V.str (wM wd)from rfl]
     o_head gU (aE.of e16) ?_;k_few
     . rename_i z;cases z
     . refine aA (j:=1) i1116 rfl (λv17 i17=>?_)
       o_head aA (j:=1) i17 rfl (λv18 i18=>?_);o_head cJ (ds:=[N (aF ra rb xs n),TN .ag,.str (wM wd)]) ∅ (.cons i1416 (.cons i18 (.cons (eU.mpr rfl) .nil))) (λv19 H19 S19 i19=>?_);k_few;have e19:=S19 _ _ e16;refine iI e19 () (λH20 E20 e20=>?_);have K20:=E20.keep e19;o_head ⟨0,by lia,us++[v19],es++[(i,r,g)],_,_,_,_,rfl,(S416.trans S19).grow hlr E20,e20,.inr ⟨n,wd,rfl,⟨wk',by simp,by rw[wL,vX];lia,n1,hwd,sl⟩,?_,rfl⟩⟩;exact(ai.keep K20 _ _ (sL _ (λe=>sj _ _ _ _) _) (ai.same S19 _ _ t16)).append (.cons (i19.gD K20 (zzn _ _ _ _ _)) .nil)
 . k_few
   . rename_i z;cases z
   . exact q lr H4 es n w' P hlr S4 (cq.mpr ⟨lr,us,rfl,.of e4,t4⟩)
theorem zA6{a:Rat}{g r' g':Nat}(R:gX a b xs r g)(S:gX a b xs r' g'):r=r'/\g=g':=by
 have er:r=r':=by
  rcases Va r r' with z | z | z
  ·have:=S.free r z;rw[R.ends]at this;cases this
  ·exact z
  ·have:=R.free r' z;rw[S.ends]at this;cases this
 subst er;refine⟨rfl,?_⟩;have g1:=R.g1;have g2:=S.g1;have j1:=R.join;have j2:=S.join;rcases Va g g' with z | z | z
 ·have:=S.one (g-1) ();lia
 ·exact z
 ·have:=R.one (g'-1) ();lia
theorem N9{a:Rat}{g r' g':Nat}(R:rY a b xs i r g)(S:rY a b xs i r' g'):r=r'/\g=g':=by
 rcases R with⟨e,rfl,rfl⟩ | ⟨i1,_,R⟩<;>rcases S with⟨e',rfl,rfl⟩ | ⟨i1',_,S⟩
 ·exact⟨rfl,rfl⟩
 ·lia
 ·lia
 ·exact zA6 R S
theorem Oo{a b:Rat}{xs:.c} : ∀{es es':.am}{i n n':Nat},iY a b xs i es n->iY a b xs i es' n'->1<=n->di a b (ag a b xs n)≠none->1<=n'->di a b (ag a b xs n')=none->(∀k,k<=30->cv a b (aR (ag a b xs n')) (aT (ag a b xs n')) k=true)->False
 | [],[],i,n,n',h,k,n1,w,_,w',_=>by
  have e:i=n:=h;have e':i=n':=k;subst e;subst e';exact w w'
 | [],f::fs,i,n,n',h,k,n1,w,_,_,_=>by
  have e:i=n:=h;subst e;rcases k.2.1 with⟨z,_,_⟩ | ⟨_,z,_⟩
  ·lia
  ·exact w z
 | e::es,[],i,n,n',h,k,_,_,n1',_,all=>by
  have e':i=n':=k;subst e';rcases h.2.1 with⟨z,_,_⟩ | ⟨_,_,R⟩
  ·lia
  ·have:=R.ends
   rw[all _ R.lM]at this;cases this
 | e::es,f::fs,i,n,n',h,k,n1,w,n1',w',all=>by
  obtain⟨e1,e2⟩:=N9 h.2.1 k.2.1;have k2:=k.2.2;rw[<- e1,<- e2]at k2;exact Oo h.2.2 k2 n1 w n1' w' all
theorem Yk{a b:Rat}{xs:.c} : ∀{es es':.am}{i n n':Nat},iY a b xs i es n->iY a b xs i es' n'->1<=n->di a b (ag a b xs n)≠none->1<=n'->di a b (ag a b xs n')≠none->es=es'/\n=n'
 | [],[],i,n,n',h,k,_,_,_,_=>⟨rfl,(show i=n from h).symm.trans k⟩
 | [],f::fs,i,n,n',h,k,n1,w,_,_=>by
  have e:i=n:=h;subst e;rcases k.2.1 with⟨z,_,_⟩ | ⟨_,z,_⟩
  ·lia
  ·exact absurd z w
 | e::es,[],i,n,n',h,k,_,_,n1',w'=>by
  have e':i=n':=k;subst e';rcases h.2.1 with⟨z,_,_⟩ | ⟨_,z,_⟩
  ·lia
  ·exact absurd z w'
 | e::es,f::fs,i,n,n',h,k,n1,w,n1',w'=>by
  obtain⟨e1,e2⟩:=N9 h.2.1 k.2.1;have k2:=k.2.2;rw[<- e1,<- e2]at k2;obtain⟨q1,q2⟩:=Yk h.2.2 k2 n1 w n1' w';refine⟨?_,q2⟩;rw[q1]
  congr 1
  exact VQ (h.1.trans k.1.symm) (VQ e1 e2)
theorem zwf{a:Rat}{es':.am}{n':Nat}{w w':.ar}(P:iU a b xs es n w)(S:iU a b xs es' n' w'):es=es'/\n=n'/\w=w':=by
 have hw:=P.word;have hw':=S.word;obtain⟨e1,e2⟩:=Yk P.walk S.walk P.n1 (by rw[hw];simp) S.n1 (by rw[hw'];simp);subst e2;rw[hw]at hw';exact⟨e1,rfl,wI hw'⟩
theorem zrA{a:Rat}{w:.ar}(P:iU a b xs es n w)(F:lz a b xs):False:=by
 obtain⟨es',i,h,i1,hw,all⟩:=F;exact Oo P.walk h P.n1 (by rw[P.word];simp) i1 hw all
def r8(w:.ar)(n:Nat):wC:=.tuple [.str (wM w),.int (n:Int)]
def GK(K:wa)(a:Ad):Sp:=λvs H Q E=>∃x0,vs=[x0] /\ ∃(ra rb:Rat)(xs:.c),Is K H x0 (bG ra rb xs)/\dq ra rb xs /\
 (lz ra rb xs->∀H',ar H H'->E (.ref a.gg) none H') /\ ∀es n w v H',iU ra rb xs es n w->ar H H'->Is K H' v (r8 w (aj .ag).length)->Q v H'
theorem zDv{v:V}(h:Is K H v (bG ra rb xs))(ok:dq ra rb xs)(qe:lz ra rb xs->∀H',ar H H'->E (.ref a.gg) none H')(q:∀es n w v H',iU ra rb xs es n w->ar H H'->Is K H' v (r8 w (aj .ag).length)->Q v H'):GK K a [v] H Q E:=⟨_,rfl,ra,rb,xs,h,ok,qe,q⟩
theorem iU.cm{a:Rat}{w:.ar}(P:iU a b xs es n w)(ok:dq a b xs):Cm 3500 (aF a b xs n::ag a b xs n):=by
 have hnf:=ok.nf n;have s1:=P.sp.1;have s2:=P.sp.2;exact ok.cm () ()
theorem zCC(T:.q):dL P w base T.yL 14 (GK K a):=by
 exists T.yL,["swarm","last"],"y1",(ak (ay 1 ii (dD cZ (nO (zu4 T) hr T.Lq zP (q1 0)) (gy gC av) .aw))
     (au (aB (aS (ae .bc (ae (dE K T.h0o (ae (ao (G7 T) hr (ae (aS (ae .H (ae .bc ah))) ah)) ah)) ah))))))
 obtain⟨ra,rb,xs,hw,ok,qe,q⟩:=h;have h6:=ok.h6;o_head ztY hw ok qe (λl H1 es n wd P hl S1 i1=>?_);have c:=P.cm ok;have bx:∀i,af 4000 ((ag ra rb xs n).getD i 0):=λi=>((iP c λy hy=>wt _ hy).get i).mono ⋯
 have hw1:=hw.by S1;o_head nB i1 (λv2 i2=>?_);have i2:Is K H1 v2 (.tuple [N (aF ra rb xs n),TN .ag,.str (wM wd)]):=i2;o_head aA (j:=2) i2 rfl (λv3 i3=>?_);rw[eU.mp i3];o_head aA (j:=0) hw1 rfl (λv4 i4=>?_);o_head aA (j:=1) i2 rfl (λv5 i5=>?_);o_head cJ (ds:=[R ra rb,TN .ag]) ∅ (.cons i4 (.cons i5 .nil)) (λv6 H6 S6 i6=>?_);o_head Zg.v (show Is K H6 v6 (bG ra rb .ag)from i6) (by rw[aW];lia) bx (λlf H7 us7 n7 S7 e7 t7=>?_);have hul:=t7.length;rw[wl]at hul;o_head gE (.of e7) ?_;rw[hul];o_head cJ (ds:=[.str (wM wd),.int ((aj .ag).length:Int)]) ∅ (.cons (eU.mpr rfl) (.cons .bw .nil)) (λv8 H8 S8 i8=>?_);exact q es n wd v8 H8 P (S1.trans (S6.trans (S7.trans S8))) i8
inductive R8(K:wa)(u w:V)(H:Hp)(Q:VK)(E:XK):Prop|v{Z:.p}{k:Int}(e0:u=.ref U)(e1:w=.int k)(h:jN K H U (Z.map V.int))(hl:Z.length<=63)(h0:0<=k)(h1:k<=1000)(q:∀S:Int,Q (.int S) H)
theorem zuj(T:.q):jp P w base T.LQ 1 R8:=by
 exists T.LQ,["_law_script","_law_k"],"c2",(ak (aY (dP mQ .X (dE K T.h0o (q1 0)) (dF _)) (au (aB (dw nC rfl T.h0t nq (ae (dD cZ .L .X .aw) ah)))) aZ)
     (ak (aY (eX K hu (dE K T.h0o (q1 0)) av) (au (aB (aD cN (aD cU av .X) av))) aZ)
     (au (aB (aD cN (aD iN (dw nC rfl T.h0t nq (ae (dD cZ .L (aD iN .X (dE K T.h0o (q1 0))) .aw) ah)) (RW (v:=100000000000000000) ⟨by decide,by decide,by decide⟩ (by decide +kernel))) (aD cU av .X))))))
 obtain@⟨a',ns,k,rfl,rfl,hs,hl,h0,h1,q⟩:=h;o_head gE hs.sq ?_;k_few
 . refine OK hs h0 .bo (λz=>?_)
   k_few;exact q _
 . refine gE hs.sq ?_
   k_few
   . exact q _
   . refine gE hs.sq ?_
     o_head OK hs (QQ _ ()) (Qe _ ()) (λz=>?_);k_few;exact q _
def cH(H:Hp)(p:we)(k:Int):Prop:=∃(a:Int)(b:Bool)(n:Int),H p=some (.lst [.int a,.bl b,.int n])/\0<=n/\n<=k
theorem cH.same{H':Hp}{k:Int}(s:ar H H')(h:cH H p k):cH H' p k:=by
 obtain⟨x,y,n,e,h1,h2⟩:=h;exact⟨x,y,n,s _ _ e,h1,h2⟩
theorem cH.le{j k:Int}(h:cH H p j)(e:j<=k):cH H p k:=by
 obtain⟨x,y,n,z,h1,h2⟩:=h;exact⟨x,y,n,z,h1,Int.le_trans h2 e⟩
theorem cH.ne{k:Int}(e:H q=none)(h:cH H p k):q≠p:=by
 obtain⟨x,y,n,z,_⟩:=h;exact(lT z e).symm
def zo6(K:wa):Sp:=λvs H Q _=>∃x0 x1,vs=[x0,x1] /\ ∃(a:we)(ns:.p)(k:Int),x0=.ref a/\x1=.int k/\jN K H a .aq/\ns.length<=63/\0<=k/\k<=1000 /\
 ∀p H',H p=none->ar H H'->cH H' p 0->Q .aA H'
theorem Dt{a:we}{k:Int}(h:jN K H a .aq)(hl:ns.length<=63)(h0:0<=k)(h1:k<=1000)
  (q:∀p H',H p=none->ar H H'->cH H' p 0->Q .aA H'):zo6 K [.ref a,.int k] H Q E:=⟨_,_,rfl,a,ns,k,rfl,rfl,h,hl,h0,h1,q⟩
local macro_rules | `(tactic| wtm_at "pen")=>`(tactic| first
 | assumption
 | (apply cH.same;(focus assumption);wtm_at "pen"))
local macro_rules | `(tactic| wtm_at "ne")=>`(tactic| ((with_reducible apply cH.ne); (focus assumption); wtm_at "pen"))
local macro_rules | `(tactic| wtm_at "penle")=>`(tactic| exact cH.le (by wtm_at "pen") ())
theorem Dr(T:.q):cr P w base T.yB 2 (zo6 K):=by
 exists T.yB,["_law_script","_law_k","_law_cell_here"],"b2",(ak (ay 2 ii (ao (zuj T) hr (q2 0 1)))
     (au (aB (dG (ae .aV (ae (jk A6 .aV (RW (v:=1000000000000000000) ⟨by decide,by decide,by decide⟩ (by decide +kernel)) (dF _)) .O))))))
 obtain⟨a',ns,k,rfl,rfl,hs,hl,h0,h1,q⟩:=h;o_head R8.v rfl rfl hs hl h0 h1 (λc=>?_);k_few;exact dN (by show 3<=1000;decide) λp H' hp s e=>q p H' hp s ⟨_,_,0,e,by decide,by decide⟩
def znI(K:wa):Sp:=λvs H Q _=>∃x0 x1,vs=[x0,x1] /\ ∃(p:we)(k m:Int),x0=.ref p/\x1=.int m/\cH H p k/\k<=1000000/\0<m/\Bd 8999 m /\
 ∀(r:Int)(H':Hp),0<=r->r<m->Exc p H H'->bC H H'->cH H' p (k+1)->Q (.int r) H'
theorem zts{k m:Int}(h:cH H p k)(hk:k<=1000000)(hm:0<m)(hb:Bd 8999 m)
  (q:∀(r:Int)(H':Hp),0<=r->r<m->Exc p H H'->bC H H'->cH H' p (k+1)->Q (.int r) H'):znI K [.ref p,.int m] H Q E:=⟨_,_,rfl,p,k,m,rfl,rfl,h,hk,hm,hb,q⟩
local macro_rules | `(tactic| wtm_at "gs")=>`(tactic| subst 1 7 zts "pen" "L" "L" "bd128")
theorem fL(T:.q):cr P w base T.fu 1 (znI K):=by
 exists T.fu,["_law_pen_here","_law_most","_law_found","_law_mixed"],"b2",(ak (jH (aD cN .H av) (nR .L av nZ))
     (ak (aY (cz .H) (ak (ay 2 ii (aD iN .H .X))
     (ak (jH (aD fz .H .X) (nR .L av nZ))
     (au (aB .aV)))) aZ)
     (ak (ay 3 ii (aD iN (aD cU (aD cN (aD iN .H av) av) (aD cN av (aD cU .H .H))) av))
     (ak (ay 3 ii (aD iN (aD cU .au (aD cN .au (aD cU av .H))) av))
     (au (aB (aD iN (aD fz (aD iN (aD cU .au (aD cN (aD fz .au av) av)) av) av) .X)))))))
 obtain⟨p,k,m,rfl,rfl,⟨x,y,n,hp,hn0,hn1⟩,hk,hm,hbm,q⟩:=h;k_few
 all_goals
   exact q _ _ (QQ _ ()) (Qe _ hm) (by wtm_at "exc") (Exc.keep (p:=p) (by wtm_at "exc") hp) ⟨_,_,_,by assumption,by lia,by lia⟩
inductive Df(K:wa)(u w:V)(H:Hp)(Q:VK)(E:XK):Prop|v{U:Int}{b:Int}(e0:u=.int U)(e1:w=.int b)(hb:0<b)(hB:Bd 8999 b)(q:Rs K H Q (N (wB U b)))
theorem zy9{b:Int}(hb:0<b)(h1 : -100000000000000000000000000000000000000<=t)(h2:t<=100000000000000000000000000000000000000)(h3 : -100000000000000000000000000000000000000<=b)(h4:b<=100000000000000000000000000000000000000)
  (q:∀v H' (x:Rat),ar H H'->Is K H' v (N x)->x=wB t b->af 128 x->Q v H'):Df K (.int t) (.int b) H Q E :=
 Df.v rfl rfl hb ((Bd.ma h3 h4).mono ⋯) λv H' s h=>q v H' _ s h rfl (af.divInt (show b≠0 by lia) (Bd.ma h1 h2) (Bd.ma h3 h4))
local macro_rules | `(tactic| wtm_at "gs")=>`(tactic| subst 1 7 zy9 "L" "L" "L" "L" "L")
theorem iJ(T:.q):jp P w base T.gH 1 Df:=by
 exists T.gH,["_law_top","_law_bottom","_law_one","_law_other"],"c2",(ak (ay 2 ii (dw nC rfl T.h0t nq (q1 0)))
     (ak (ay 3 ii .X)
     (ak (m4 w9 (dP nP .au av (dF _)) (au (zE9 (i:=2) (j:=3) rfl ii rfl rfl ⋯ rfl rfl (ae .au (ae (aD iN .aV .au) ah)) rfl)))
     (au (aB (aS (ae (aD fz .L .aV) (ae (aD fz .X .aV) ah))))))))
 obtain@⟨t,b,rfl,rfl,hp,hB,q⟩:=h;have hb:b≠0:=by lia
 o_head PV (λσ H'=>∃(x y:Int),σ = [some (.int t),some (.int b),some (.int x),some (.int y)]/\0<=x/\0<=y/\vI x y=vI t b/\H'=H) (λσ=>(R5 σ 3).toNat) ⟨_,_,rfl,by split<;>lia,by lia,An t b,rfl⟩ ?_;rintro σ H' hz;obtain⟨x,y,rfl,hx,hy,hg,rfl⟩:=hz
 have hgb:Bd 8999 ((vI t b:Nat):Int):=hB.le (by
   have:vI t b ∣ b.natAbs:=Int.gcd_dvd_natAbs_right t b;have:=Ur () this
   simpa using this)
 k_few
 . refine U7 ?_
   k_few;have h1:=QQ x (show y≠0 by lia);have h2:=Qe x (show 0<y by lia)
   first | refine⟨?_,_,_,rfl,hy,h1,?_,rfl⟩ | refine⟨_,_,rfl,?_,_,_,rfl,hy,h1,?_,rfl⟩
   . show(x % y).toNat<y.toNat
     lia
   . rw[<- hg];exact NI () hx
 . rename_i h0
   have e0:y=0:=by lia
   subst e0
   have e:x=((vI t b:Nat):Int):=by
     rw[<- hg,XZ];lia
   have e1:x=dv t b:=by unfold dv;rw[if_neg (),<- e]
   rw[e1];have hd:oX t (dv t b):=⟨SS hb,by unfold dv;rw[if_neg ()];exact hgb⟩;refine yl hd ?_;k_few;exact dg (W_ hb) (zFf hb) q
def Em(K:wa):Sp:=λvs H Q _=>∃x0 x1,vs=[x0,x1] /\ ∃(x:Rat)(t u:Int)(n:Nat),Is K H x0 (N x)/\Is K H x1 (.tuple [.int t,.int u])/\0<u/\af n x/\n<=4400/\Bd 4400 t/\Bd 4400 u/\Rs K H Q (N (x+wB t u))
theorem znN{u:Int}{v w:V}(h1:Is K H v (N x))(h2:Is K H w (.tuple [.int t,.int u]))(hu:0<u)(b1:af 4400 x)(b2:Bd 4400 t)(b3:Bd 4400 u)(q:Rs K H Q (N (x+wB t u))):Em K [v,w] H Q E:=⟨_,_,rfl,x,t,u,4400,h1,h2,hu,b1,wo _,b2,b3,q⟩
theorem zwa{v w:V}(h1:Is K H v (N x))(h2:Is K H w (N y))(b1:af 4400 x)(b2:af 4400 y)(q:Rs K H Q (N (x+y))):Em K [v,w] H Q E :=
 znN h1 h2 (den_pos y) b1 b2.t b2.b (λv H' s i=>q v H' s (by rw[VE]at i;exact i))
local macro_rules | `(tactic| wtm_at "gs")=>`(tactic| subst 1 4 zwa "is" "is" "bdr" "bdr")
theorem zCI{v:V}{u:Int}(h:Is K H v (.tuple [.int t,.int u]))(q:Q (.int t) H):du K v (.int 0) H Q:=aA (j:=0) h rfl (λx i=>by rw[cf.mp i];exact q)
theorem Yn{v:V}{u:Int}(h:Is K H v (.tuple [.int t,.int u]))(q:Q (.int u) H):du K v (.int 1) H Q:=aA (j:=1) h rfl (λx i=>by rw[cf.mp i];exact q)
theorem zBp(x:Rat){u:Int}(hu:0<u):wB (x.num*u+t*.S) (.S*u)=x+wB t u:=by
 have hp:=Wa (den_pos x) hu;refine fT () ?_;have k1:=ki x;have k2:=dB t (show u≠0 by lia);have e1:((x.num*u+t*.S:Int):Rat)=(x.num:Rat)*(u:Rat)+(t:Rat)*(.S:Rat):=by push_cast;rfl
 have e2:((.S*u:Int):Rat)=(.S:Rat)*(u:Rat):=by push_cast;rfl
 rw[e1,e2,<- k1,<- k2]
 grind
theorem jb(T:.q):cr P w base T.iu 2 (Em K):=by
 exists T.iu,["_law_one","_law_other"],"b2",(au (aB (ao (iJ T) hr (ae (aD cN (aD cU .H .bc) (aD cU .bc .H)) (ae (aD cU .H .bc) ah)))))
 obtain⟨x,t,u,n,hx,hy,hu,bx,hn,bt,bu,q⟩:=h;obtain⟨bx1,bx2⟩:=bx.mono hn;have hp:=Wa (den_pos x) hu;o_head Yn hy ?_;o_head zCI hy ?_;o_head Yn hy ?_;o_head Df.v rfl rfl hp ((bx2.mul bu).mono ⋯) (λv H' s hv=>?_);rw[zBp x hu]at hv;exact q v H' s hv
inductive zn2(K:wa)(v w:V)(H:Hp)(Q:VK)(E:XK):Prop|v{S:Nat}{W:Nat}(h1:Is K H v (N U))(h2:Is K H w (N Z))(b1:af S U)(b2:af W Z)(hmn:S+W<=8999)(q:Rs K H Q (N (U-Z)))
theorem mw(T:.q):jp P w base T.kP 2 zn2:=by
 exists T.kP,["_law_one","_law_other"],"c2",(au (aB (ao (iJ T) hr (ae (aD ic (aD cU .H .bc) (aD cU .bc .H)) (ae (aD cU .H .bc) ah)))))
 obtain@⟨x,y,m,n,hx,hy,bx,by',hmn,q⟩:=h;have cx:=bx.mono (show m<=8999 by lia);have cy:=by'.mono (show n<=8999 by lia);o_head Df.v rfl rfl (N7 x y) ((bx.b.mul by'.b).mono hmn) (λv H' s hv=>?_);rw[UY]at hv;exact q v H' s hv
inductive RA(K:wa)(v w:V)(H:Hp)(Q:VK)(E:XK):Prop|v(h1:Is K H v (N U))(h2:Is K H w (N Z))(b1:af 4000 U)(b2:af 4000 Z)(q:Rs K H Q (N (U*Z)))
local macro_rules | `(tactic| wtm_at "gs")=>`(tactic| subst 1 4 RA.v "is" "is" "bdr" "bdr")
theorem lF(T:.q):jp P w base T.jZ 2 RA:=by
 exists T.jZ,["_law_one","_law_other"],"c2",(au (aB (ao (iJ T) hr (ae (aD cU .H .bc) (ae (aD cU .H .bc) ah)))))
 obtain@⟨x,y,hx,hy,⟨bx1,bx2⟩,⟨by1,by2⟩,q⟩:=h;o_head Df.v rfl rfl (N7 x y) ((bx2.mul by2).mono ⋯) (λv H' s hv=>?_);rw[NR]at hv;exact q v H' s hv
inductive Z0(K:wa)(v w:V)(H:Hp)(Q:VK)(E:XK):Prop|v{S:Nat}{W:Nat}(h1:Is K H v (N U))(h2:Is K H w (N Z))(b1:af S U)(b2:af W Z)(hmn:S+W<=8998)(hy:Z≠0)(q:Rs K H Q (N (U / Z)))
theorem zvp{p q:Int}(h:q≠0):wB (0-p) (0-q)=wB p q:=by
 refine fT () ?_;have k:=dB p h;have e1:((0-p:Int):Rat) = -(p:Rat):=by rw[X0];push_cast;rfl
 have e2:((0-q:Int):Rat) = -(q:Rat):=by rw[X0];push_cast;rfl
 rw[e1,e2,<- k]
 grind
theorem Sd(T:.q):jp P w base T.CT 2 Z0:=by
 exists T.CT,["_law_one","_law_other"],"c2",(ak (aY (dP mQ .bc av (dF _)) (au (aB (ao (iJ T) hr (ae (aD ic av (aD cU .H .bc)) (ae (aD ic av (aD cU .H .bc)) ah))))) aZ)
     (au (aB (ao (iJ T) hr (ae (aD cU .H .bc) (ae (aD cU .H .bc) ah))))))
 obtain@⟨x,y,m,n,hx,hy,bx,by',hmn,h0,q⟩:=h;have cx:=bx.mono (show m<=8999 by lia);have cy:=by'.mono (show n<=8999 by lia);have hn:=x_ h0;have bb:=bx.b.mul by'.t;have hd:=den_pos x;have bo:Bd 8999 (0-.S*y.num):=by rw[X0];exact bb.neg.mono ()
 k_few
 . rename_i z
   have hp:0<0-.S*y.num:=by
     have:=Int.mul_neg_of_pos_of_neg hd z;lia
   refine Df.v rfl rfl hp bo (λv H' s hv=>?_);rw[zvp (),Ew]at hv;exact q v H' s hv
 . rename_i z
   refine Df.v rfl rfl (Wa hd ()) (bb.mono ()) (λv H' s hv=>?_);rw[Ew]at hv;exact q v H' s hv
inductive ZC(K:wa)(v w:V)(H:Hp)(Q:VK)(E:XK):Prop|v(h1:Is K H v (N U))(h2:Is K H w (N Z))(b1:af 8999 U)(b2:af 8999 Z)(q:Q (.bl (decide (U<Z))) H)
local macro_rules | `(tactic| wtm_at "gs")=>`(tactic| subst 1 0 ZC.v "is" "is" "bdr" "bdr")
theorem yc(T:.q):jp P w base T.oD 1 ZC:=by
 exists T.oD,["_law_one","_law_other"],"c2",(au (aB (jk mQ (aD cU .H .bc) (aD cU .bc .H) (dF _))))
 obtain@⟨x,y,hx,hy,⟨bx1,bx2⟩,⟨by1,by2⟩,q⟩:=h;k_few;rw[OZ];exact q
theorem BP{w z n d:Int}(hw:1<=w)(hw8:w<=8)(hz:w<z)(hz4:z<=4*w)(hn:0<=n)(hd:1<=d)(hnd:n<=d)(hd12:d<=12):aM (wB z w) (wB n d):=by
 obtain⟨a1,a2,a3⟩:=Tr (x:=wB z w) rfl hw hw8 () hz4;obtain⟨b1,b2,b3⟩:=FC (y:=wB n d) rfl hd hd12 hn hnd
 have h1:(1:Rat)<wB z w:=by
  have:=dB z (show w≠0 by lia);refine Xu.mp λk=>?_
  have h2:=QU k (vY (nQ (show 0<w by lia)));rw[this,Qx]at h2;have:=VC.mp h2;lia
 exact⟨a1,a2,a3,b1,b2,b3,by grind⟩
theorem P_{n d:Int}(hn:0<=n)(hd:1<=d)(hnd:n<=d)(hd12:d<=12):aM 1 (wB n d):=by
 obtain⟨b1,b2,b3⟩:=FC (y:=wB n d) rfl hd hd12 hn hnd;exact⟨by decide,by decide,by decide,b1,b2,b3,by grind⟩
theorem Af{w n d:Int}(hw:2<=w)(hw8:w<=8)(ht:1<=t)(htw:t<w)(hn:0<=n)(hd:1<=d)(hnd:n<=d)(hd12:d<=12)(h:(w-t)*d<=n*w):aM (wB t w) (wB n d):=by
 obtain⟨a1,a2,a3⟩:=Tr (x:=wB t w) rfl () hw8 ht ();obtain⟨b1,b2,b3⟩:=FC (y:=wB n d) rfl hd hd12 hn hnd;refine⟨a1,a2,a3,b1,b2,b3,?_⟩;have e1:=dB t (show w≠0 by lia);have e2:=dB n (show d≠0 by lia);have pw:(0:Rat)<(w:Rat):=nQ (show 0<w by lia);have pd:(0:Rat)<(d:Rat):=nQ (show 0<d by lia);refine W6.mp λk=>?_
 have k1:=qJ k (VB pw pd)
 have e3:(wB t w+wB n d)*((w:Rat)*(d:Rat))=(t:Rat)*(d:Rat)+(n:Rat)*(w:Rat):=by
  rw[<- e1,<- e2];grind
 rw[e3,Qx]at k1
 have k2:((t*d+n*w:Int):Rat)<((w*d:Int):Rat):=by
  rw[qp,vW,vW,vW];exact k1
 have k3:=xW.mp k2;rw[Int.sub_mul]at h;lia
theorem NX{w d:Int}(hw:2<=w)(ht:1<=t)(htw:t<w)(hd:1<=d):1<=0-((t-w)*d).fdiv w/\0-((t-w)*d).fdiv w<=d/\(w-t)*d<=(0-((t-w)*d).fdiv w)*w:=by
 rw[Wy _ ()];have e:(t-w)*d = -((w-t)*d):=by rw[<- Int.neg_mul];congr 1;lia
 have p:1<=(w-t)*d:=by
  have:=Uk (show(1:Int)<=w-t by lia) hd () ();lia
 have hle:(w-t)*d<=w*d:=W2 () ();rw[e];generalize (w-t)*d=m at *;have h1:=Ub (-m) (show w≠0 by lia);have h2:=Int.lt_ediv_add_one_mul_self (-m) (show 0<w by lia);generalize -m / w=q at *;have e2:(0-q)*w = -(q*w):=by rw[Int.sub_mul,Int.zero_mul];lia
 have e3:(q+1)*w=q*w+w:=by rw[uu,Q8]
 rw[e3]at h2;refine⟨?_,?_,by rw[e2];lia⟩
 ·refine Int.not_lt.mp λk=>?_
  have:0<=q*w:=Xj () ();lia
 ·refine Int.not_lt.mp λk=>?_
  have:(q+1)*w<=(-d)*w:=W2 () ();rw[e3,Int.neg_mul,Int.mul_comm d w]at this;lia
inductive Rz(K:wa)(u:V)(H:Hp)(Q:VK)(E:XK):Prop|v{k:Int}(e0:u=.ref U)(h:cH H U k)(hk:k<=1000)(q:∀v H' (Z S:Rat),Exc U H H'->bC H H'->cH H' U (k+8)->Is K H' v (R Z S)->aM Z S->Q v H')
theorem zmg(T:.q):io P w base T.JH 2 Rz:=by
 exists T.JH,["_law_pen_here","_law_way","_law_bottom","_law_deep","_law_more","_law_top","_law_need"],"c1",(ak (ay 1 ii (ao (fL T) hr (ae .L .O)))
     (ak (ay 2 ii (aD cN av (ao (fL T) hr (ae .L .O))))
     (ak (ay 3 ii (aD cN av (ao (fL T) hr (ae .L .O))))
     (ak (ay 4 ii (ao (fL T) hr (ae .L (ae (aD cN .au av) ah))))
     (ak (aY (eX K hu (ao (fL T) hr (ae .L .O)) av) (au (ay 4 ii (dw (show bM _ (.builtin "min") Hz from zyP rfl) rfl T.h0w zFB (ae (pv 4) .O)))) aZ)
     (ak (aY (dP mQ .X av (dF _)) (au (aB (aS (ae (ao (iJ T) hr (ae (aD cN (aD cN .aV av) (aD cU .X (ao (fL T) hr (ae .L (ae (aD cU av .aV) ah))))) (q1 2))) (ae (ao (iJ T) hr (q2 4 3)) ah))))) aZ)
     (ak (aY (eX K hu .X av) (au (aB (aS (ae (aS .aX) (ae (ao (iJ T) hr (q2 4 3)) ah))))) aZ)
     (ak (ay 2 ii (aD cN av (aD iN .aV av)))
     (ak (ay 5 ii (aD cN av (ao (fL T) hr (ae .L (ae (aD ic .aV av) ah)))))
     (ak (aY (eX K hu .X av) (au (aB (aS (ae (ao (iJ T) hr (q2 5 2)) (ae (ao (iJ T) hr (ae (aD ic .aV (pv 5)) (q1 2))) ah))))) aZ)
     (ak (ay 6 ii (aD ic av (aD fz (aD cU (aD ic (pv 5) .aV) .au) .aV)))
     (au (aB (aS (ae (ao (iJ T) hr (q2 5 2)) (ae (ao (iJ T) hr (ae (aD cN (pv 6) (ao (fL T) hr (ae .L (ae (aD cN (aD ic .au (pv 6)) av) ah)))) (q1 3))) ah))))))))))))))))
 obtain@⟨p,k,rfl,hp,hk,q⟩:=h;wtm_at "ga"
 . rename_i way H1 w0 w1 E1 K1 P1 bt H2 b0 b1 E2 K2 P2 dr H3 d0 d1 E3 K3 P3 mo H4 m0 m1 E4 K4 P4 tw H5 t0 t1 E5 K5 P5 z mn mn0 mn1 mn2 hw rr H6 r0 r1 E6 K6 P6
   have hw2:way=0\/way=1:=by lia
   rcases hw2 with rfl | rfl
   . wtm_at "ga"
     rename_i v7 H7 x7 S7 i7 e7 b7 v8 H8 x8 S8 i8 e8 b8 v9 H9 S9 i9;exact q _ _ x7 x8 (by wtm_at "exc") (by wtm_at "keep") (by wtm_at "penle") i9 (by rw[e7,e8];exact BP () () () () () () () ())
   . wtm_at "ga"
     rename_i v7 H7 x7 S7 i7 e7 b7 v8 H8 x8 S8 i8 e8 b8 v9 H9 S9 i9;exact q _ _ x7 x8 (by wtm_at "exc") (by wtm_at "keep") (by wtm_at "penle") i9 (by rw[e7,e8];exact BP () () () () () () () ())
 . rename_i way H1 w0 w1 E1 K1 P1 bt H2 b0 b1 E2 K2 P2 dr H3 d0 d1 E3 K3 P3 mo H4 m0 m1 E4 K4 P4 tw H5 t0 t1 E5 K5 P5 z mn mn0 mn1 mn2 hw hw2 v7 H7 S7 i7 v8 H8 x8 S8 i8 e8 b8 v9 H9 S9 i9
   exact q _ _ 1 x8 (by wtm_at "exc") (by wtm_at "keep") (by wtm_at "penle") i9 (by rw[e8];exact P_ () () () ())
 . rename_i way H1 w0 w1 E1 K1 P1 bt H2 b0 b1 E2 K2 P2 dr H3 d0 d1 E3 K3 P3 mo H4 m0 m1 E4 K4 P4 tw H5 t0 t1 E5 K5 P5 z mn mn0 mn1 mn2 hw hw2 rr H6 r0 r1 E6 K6 P6 hw3 v7 H7 x7 S7 i7 e7 b7 v8 H8 x8 S8 i8 e8 b8 v9 H9 S9 i9
   exact q _ _ x7 x8 (by wtm_at "exc") (by wtm_at "keep") (by wtm_at "penle") i9 (by rw[e7,e8];exact Af () () () () () () () () (Int.le_refl _))
 . rename_i way H1 w0 w1 E1 K1 P1 bt H2 b0 b1 E2 K2 P2 dr H3 d0 d1 E3 K3 P3 mo H4 m0 m1 E4 K4 P4 tw H5 t0 t1 E5 K5 P5 z mn mn0 mn1 mn2 hw hw2 rr H6 r0 r1 E6 K6 P6 hw3
   have nd:=NX (t:=1+rr) (w:=2+(1+bt) % 7) (d:=1+dr) () () () ();refine yl ⟨by lia,(Bd.ma () ()).mono ⋯⟩ ?_;generalize ((1+rr-(2+(1+bt) % 7))*(1+dr)).fdiv (2+(1+bt) % 7)=fd at nd ⊢;obtain⟨n1,n2,n3⟩:=nd;wtm_at "ga";rename_i v7 H7 x7 S7 i7 e7 b7 s8 H8 s0 s1 E8 K8 P8 v9 H9 x9 S9 i9 e9 b9 v10 H10 S10 i10
   exact q _ _ x7 x9 (by wtm_at "exc") (by wtm_at "keep") (by wtm_at "penle") i10 (by
     rw[e7,e9];refine Af () () () () () () () () ?_;have:(0-fd)*(2+(1+bt) % 7)<=(0-fd+s8)*(2+(1+bt) % 7):=W2 () ();lia)
 . rename_i way H1 w0 w1 E1 K1 P1 bt H2 b0 b1 E2 K2 P2 dr H3 d0 d1 E3 K3 P3 mo H4 m0 m1 E4 K4 P4 tw H5 t0 t1 E5 K5 P5 z hw rr H6 r0 r1 E6 K6 P6
   have hw2:way=0\/way=1:=by lia
   rcases hw2 with rfl | rfl
   . wtm_at "ga"
     rename_i v7 H7 x7 S7 i7 e7 b7 v8 H8 x8 S8 i8 e8 b8 v9 H9 S9 i9;exact q _ _ x7 x8 (by wtm_at "exc") (by wtm_at "keep") (by wtm_at "penle") i9 (by rw[e7,e8];exact BP () () () () () () () ())
   . wtm_at "ga"
     rename_i v7 H7 x7 S7 i7 e7 b7 v8 H8 x8 S8 i8 e8 b8 v9 H9 S9 i9;exact q _ _ x7 x8 (by wtm_at "exc") (by wtm_at "keep") (by wtm_at "penle") i9 (by rw[e7,e8];exact BP () () () () () () () ())
 . rename_i way H1 w0 w1 E1 K1 P1 bt H2 b0 b1 E2 K2 P2 dr H3 d0 d1 E3 K3 P3 mo H4 m0 m1 E4 K4 P4 tw H5 t0 t1 E5 K5 P5 z hw hw2 v7 H7 S7 i7 v8 H8 x8 S8 i8 e8 b8 v9 H9 S9 i9
   exact q _ _ 1 x8 (by wtm_at "exc") (by wtm_at "keep") (by wtm_at "penle") i9 (by rw[e8];exact P_ () () () ())
 . rename_i way H1 w0 w1 E1 K1 P1 bt H2 b0 b1 E2 K2 P2 dr H3 d0 d1 E3 K3 P3 mo H4 m0 m1 E4 K4 P4 tw H5 t0 t1 E5 K5 P5 z hw hw2 rr H6 r0 r1 E6 K6 P6 hw3 v7 H7 x7 S7 i7 e7 b7 v8 H8 x8 S8 i8 e8 b8 v9 H9 S9 i9
   exact q _ _ x7 x8 (by wtm_at "exc") (by wtm_at "keep") (by wtm_at "penle") i9 (by rw[e7,e8];exact Af () () () () () () () () (Int.le_refl _))
 . rename_i way H1 w0 w1 E1 K1 P1 bt H2 b0 b1 E2 K2 P2 dr H3 d0 d1 E3 K3 P3 mo H4 m0 m1 E4 K4 P4 tw H5 t0 t1 E5 K5 P5 z hw hw2 rr H6 r0 r1 E6 K6 P6 hw3
   have nd:=NX (t:=1+rr) (w:=2+(1+bt) % 7) (d:=1+dr) () () () ();refine yl ⟨by lia,(Bd.ma () ()).mono ⋯⟩ ?_;generalize ((1+rr-(2+(1+bt) % 7))*(1+dr)).fdiv (2+(1+bt) % 7)=fd at nd ⊢;obtain⟨n1,n2,n3⟩:=nd;wtm_at "ga";rename_i v7 H7 x7 S7 i7 e7 b7 s8 H8 s0 s1 E8 K8 P8 v9 H9 x9 S9 i9 e9 b9 v10 H10 S10 i10
   exact q _ _ x7 x9 (by wtm_at "exc") (by wtm_at "keep") (by wtm_at "penle") i10 (by
     rw[e7,e9];refine Af () () () () () () () () ?_;have:(0-fd)*(2+(1+bt) % 7)<=(0-fd+s8)*(2+(1+bt) % 7):=W2 () ();lia)
inductive U0(K:wa)(v u:V)(H:Hp)(Q:VK)(E:XK):Prop|v{n:Int}(e1:u=.int n)(h1:Is K H v (R U Z))(b1:af 10 U)(b2:af 10 Z)(h0:0<=n)(h64:n<=64)(q:Rs K H Q (R (U^n.toNat) (az U Z n.toNat)))
theorem Tp(T:.q):jp P w base T.CL 3 U0:=by
 exists T.CL,["_law_rule","_law_many","_law_found","_law_k"],"c2",(ak (ay 2 ii (aS (ae (aS .aX) (ae (aS .aX) ah))))
     (ak (eA w9 rfl (fA rfl T.h0j (q1 1)) (cV (i:=3) ii rfl .y) (au (ay 2 ii (aS (ae (ao (lF T) hr (ae .H (ae (qi 2) ah))) (ae (ao (jb T) hr (ae (ao (lF T) hr (ae .H (ae (qi 2) ah))) (ae .H ah))) ah))))))
     (au (aB .aV))))
 obtain@⟨r,s',n,rfl,hr',ba,bb,h0,h64,q⟩:=h;o_head dg (r:=1) rfl rfl .bD;o_head dg (r:=0) rfl rfl .bg;o_head Ht (i1.by S2) i2 .aG;o_head iA (n:=n) () () (λi σ H'=>∃(f:V)(o:.bf),σ = [some x0,some (.int n),some f,o]/\ar H H'/\Is K H' f (R (r^i) (az r s' i))) ⟨_,_,rfl,S1.trans .bF,by rw[VF];exact i3⟩ ?_ ?_
 . rintro i σ H' hi hz;obtain⟨f,o,rfl,S,hf⟩:=hz
   have hr1:=hr'.by S;have bf:af 650 (r^i):=(ba.pow i).mono ();have bg:af 1400 (az r s' i):=(ba.az bb i).mono ();o_head Ht (a:=r*r^i) (b:=r*az r s' i+s') (by wtm_at "is") (by wtm_at "is") (λv4 H4 S4 i4=>?_);o_head ⟨_,_,rfl,ar.back S4 (by wtm_at "same"),?_⟩;rw[WS,qh];exact i4
 . rintro σ H' hz;obtain⟨f,o,rfl,S,hf⟩:=hz
   k_few;exact q _ _ S hf
def fO(a b:Rat)(ns:.p)(xs:.c):Nat->Rat
 | 0=>0
 | k+1=>fO a b ns xs k+(1-(aP a b ns .bi k).getD k 0)
def ke(a b:Rat)(ns:.p)(xs:.c)(k:Nat):List Rat:=(wp k).map λj=>(aP a b ns .bi (j+1)).getD ((j+1) % ns.length) 0
theorem zy2(a b:Rat)(ns:.p)(xs:.c)(k:Nat):ke a b ns xs (k+1)=ke a b ns xs k++[(aP a b ns .bi (k+1)).getD ((k+1) % ns.length) 0]:=by
 unfold ke;rw[QP,w5];rfl
theorem IS(h:ai K H us .aP)(k:Is K H u (N x)):ai K H (us++[u]) ((xs++[x]).map N):=by
 rw[w5];exact h.append (.cons k .nil)
theorem zC5{m:Int}(h:aE K H p .aq)(h0:0<=m)(h1:m<ns.length)(q:Q (.int (ns.getD m.toNat 0)) H):du K .aA (.int m) H Q:=by
 obtain⟨n,rfl⟩:∃n:Nat,m=(n:Int):=⟨m.toNat,by lia⟩;refine jA h (m5 (j:=n) (v:=.int (ns.getD n 0)) ?_) q;rw[wu,wb,wc ()]
 rfl
inductive EO(K:wa)(v w u:V)(H:Hp)(Q:VK)(E:XK):Prop|v{W:.p}(e1:w=.ref U)(h1:Is K H v (R Z S))(h2:aE K H U (W.map V.int))(h3:Is K H u (LN Y)\/Is K H u (TN Y))(ok:dj Z S W Y)(hrow:∀D,D<=W.length->Cm 3500 (aP Z S W (Y++[0]) D))(htm:∀D,D<W.length->af 4300 (fO Z S W Y D))(q:∀G lb vt lh I hs H',ar H H'->H' G=some (.tup [.ref lb,vt,.ref lh])->H' lb=some (.lst I)->ai K H' I ((cF Z S W Y).map N)->Is K H' vt (N (fO Z S W Y W.length))->H lh=none->H' lh=some (.lst hs)->ai K H' hs ((ke Z S W Y W.length).map N)->Q (.ref G) H')
theorem lq{a:Rat}{v:V}(h1:Is K H v (R a b))(h2:aE K H p1 .aq)(h3:Is K H u (LN xs)\/Is K H u (TN xs))(ok:dj a b ns xs)(hrow:∀k,k<=ns.length->Cm 3500 (aP a b ns .bi k))(htm:∀k,k<ns.length->af 4300 (fO a b ns xs k))(q:Rs K H Q (.tuple [LN (cF a b ns xs),N (fO a b ns xs ns.length),LN (ke a b ns xs ns.length)])):EO K v (.ref p1) u H Q E :=
 EO.v rfl h1 h2 h3 ok hrow htm (λt lb vt lh us hs H' S et eb tb it _ eh th=>q (.ref t) H' S (bY.mpr ⟨t,_,rfl,.of et,.cons (b_ eb tb) (.cons it (.cons (b_ eh th) .nil))⟩))
theorem zG8{row:.c}(c:Cm m row)(hj:j<row.length)(hk:k<row.length):af (m+2) (row.getD j 0+(1-row.getD k 0)):=by
 have c0:Cm m (0::row):=c.gI λy hy=>by rcases wG.mp hy with rfl | hy;(exact .inr rfl);exact .inl hy
 exact(c0.rise (GM.getD_mem hk)).d6 (wt _ (wQ.mpr ⟨_,GM.getD_mem hj,rfl⟩))
theorem lO(T:.q):kw P w base T.j3 4 EO:=by
 exists T.j3,["_law_rule","_law_sizes","_law_places","_law_phases","_law_time_here","_law_heights","_law_at","_law_wait","_law_often","_law_risen"],"c3",(ak (ay 3 ii (aD cN (iS (show bM _ (.type "list") (gc K)from jI) rfl T.h0n h_ (q1 2)) (dG (ae (aS .aX) ah))))
     (ak (ay 4 ii (aS .aX))
     (ak (ay 5 ii (dG ah))
     (ak (eA w9 rfl (fA rfl T.h0j (ae (dE K T.h0o (q1 1)) ah)) (cV (i:=6) ii rfl .y) (ak (ay 7 ii (ao (mw T) hr (ae (aS .aX) (ae (dD cZ .au (pv 6) .aw) ah))))
     (ak (ay 4 ii (ao (jb T) hr (q2 4 7)))
     (ak (ay 8 ii (ao (Tp T) hr (ae .L (ae (dD cZ .X (pv 6) .aw) ah))))
     (ak (kJ (i:=9) ii rfl .y rfl (cW ["_law_phase","_law_wait"] [none,some 7]) (fC .au) .U .an (λ_ _ _ _ _=>(ao (jb T:) hr (q2 0 1))))
     (ak (kJ (i:=3) ii rfl .y rfl (cW ["_law_phase","_law_often"] [none,some 8]) (fC (pv 9)) .U .an (λ_ _ _ _ _=>(ao (jb T:) hr (ae (ao (lF T:) hr (ae (pg (K:=K) cZ .X) (q1 0))) (ae (pg (K:=K) cZ .X) ah)))))
     (ak (jH (aS .aX) (nR .au (pv 6) nZ))
     (au (jK (i_ vP vU vV jh (pv 5) (ae (dD cZ .au (aD iN (aD cN (pv 6) av) (dE K T.h0o (q1 1))) .aw) ah)))))))))))
     (au (aB (aS (ae (mX mZ .au mD (mh (gy gC av))) (q2 4 5)))))))))
 obtain@⟨p1,ra,rb,xs,ns,rfl,hr',hn',hp',ok,hrow,htm,q⟩:=h;have hlen:=ok.len;have hfew:=ok.bS;o_head rF hp' (λl1 H1 us hl1 S1 e1 t1=>?_);have hul:=t1.length;rw[wl]at hul;o_head dg (r:=0) rfl rfl .bg;o_head dN ∅ (λl3 H3 hl3 S3 e3=>?_);refine jQ (S3 _ _ (S2 _ _ e1)) e3 (WH (gW .aL)) (λlp H4 hl4 S4 e4=>?_);o_head dg (r:=0) rfl rfl (λv5 H5 S5 i5=>?_);o_head dN ∅ (λlh H6 hlh S6 e6=>?_);have T4:ar H H4:=S1.trans (S2.trans (S3.trans S4));have T6:ar H H6:=T4.trans (S5.trans S6);have t6:ai K H6 (us++[v2]) ((xs++[0]).map N):=IS (ai.same (S2.trans (S3.trans (S4.trans (S5.trans S6)))) _ _ t1) (i2.by (S3.trans (S4.trans (S5.trans S6))));have e46:=S6 _ _ (S5 _ _ e4);have hD:=fK (T4.trans S5) hlh;have neph:lp≠lh:=λz=>by subst z;rw[S5 _ _ e4]at hlh;cases hlh
 have i56:=i5.by S6;clear S1 S2 S3 S4 S5 S6 e1 e3 e4 t1 i2 i5 hl1 hl3 hl4 hlh T4;o_head gE (T6.seq hn') ?_;rw[wl];refine iA (n:=(ns.length:Int)) () () (λk σ H'=>∃lp vt o6 o7 o8 o9 us hs,σ = [some x0,some (.ref p1),some x2,some (.ref lp),some vt,some (.ref lh),o6,o7,o8,o9]/\ar H H'/\lp≠lh/\H' lp=some (.lst us)/\ai K H' us ((aP ra rb ns .bi k).map N)/\Is K H' vt (N (fO ra rb ns xs k))/\H' lh=some (.lst hs)/\ai K H' hs ((ke ra rb ns xs k).map N)) ⟨lp,v5,_,_,_,_,_,[],rfl,T6,neph,e46,t6,i56,e6,.nil⟩ ?_ ?_
 . rintro k σ H7 hk hz;obtain⟨lp,vt,o6,o7,o8,o9,us,hs,rfl,S7,neph,e7,t7,it7,h7,th7⟩:=hz
   have hk':k<ns.length:=by simpa using hk
   have b1:=htm k hk';have hmk:=hrow k ();have hrl:(aP ra rb ns .bi k).length=ns.length:=by rw[dy,wL];simp;lia
   have e8:aP ra rb ns .bi (k+1)=d7 ra rb (ns.getD k 0).toNat (aP ra rb ns .bi k) k:=rfl;have et:fO ra rb ns xs (k+1)=fO ra rb ns xs k+(1-(aP ra rb ns .bi k).getD k 0):=rfl;have eh:=zy2 ra rb ns xs k;have bb:∀j,af 3500 ((aP ra rb ns .bi k).getD j 0):=λj=>hmk.get j
   have hnk:=ok.n0 (ns.getD k 0) (by rw[wb,wc hk'];exact We _);generalize aP ra rb ns .bi k=row at *;have bw:af 3502 (1-row.getD k 0):=(af.one.sub (bb k)).mono ⋯;have bk:=bb k;o_head dg (r:=1) rfl rfl (λv8 H8 S8 i8=>?_);o_head gY (b_ (S8 _ _ e7) (ai.same S8 _ _ t7)) () () (λv9 i9=>?_);rw[wD]at i9;have it8:=it7.by S8;o_head zn2.v i8 i9 af.one bk ⋯ (λv10 H10 S10 i10=>?_);have it10:=it8.by S10;k_few;rename_i v11 H11 S11 i11;have T11:=S8.trans (S10.trans S11);refine zC5 (T11.seq (S7.seq hn')) () () ?_;rw[wD];o_head U0.v rfl ((hr'.by S7).by T11) ok.ba ok.bb hnk.1 hnk.2 (λv12 H12 S12 i12=>?_);have T12:=T11.trans S12;have bf:af 700 (ra^(ns.getD k 0).toNat):=(ok.ba.pow _).mono ();have bg:af 1500 (az ra rb (ns.getD k 0).toNat):=(ok.ba.az ok.bb _).mono ();have i1012:=i10.by (S11.trans S12);have i1112:=i11.by S12;have e12:=T12 _ _ e7;have t12:ai K H12 us (row.map N):=ai.same T12 _ _ t7;have h12:=T12 _ _ h7;have th12:ai K H12 hs ((ke ra rb ns xs k).map N):=ai.same T12 _ _ th7;have X12:=S7.trans T12;have hul:us.length=row.length:=by rw[t12.length,wl]
   rw[<- et]at i1112;clear S8 S10 S11 S12 T11 T12 i8 i9 i10 i11 e7 t7 h7 th7 it7 it8;o_head j6 (.of e12) (o0:=none) (tl:=[some v10]) rfl (λj v H=>Is K H v (N ((row.map λx=>x+(1-row.getD k 0)).getD j 0))) ?_ ?_
   . rintro D j x ys o H1 hx' inv
     obtain⟨hj,ix⟩:=cw t12 hx';have ix1:=ix.by inv.same;have jv:=i1012.by inv.same;have bx:=bb j;k_few;rename_i v4 H4 S4 iv4;exact d_ inv () eS ⟨_,rfl⟩ S4 (by rw[pJ hj];exact iv4)
   . rintro D ys H13 hn13 S13 e13 hl13 hr13
     have hyl:ys.length=row.length:=by lia
     have t13:ai K H13 ys ((row.map λx=>x+(1-row.getD k 0)).map N):=e_ (by rw[wl];exact hyl) hr13;have hn0:H12 D=none:=hn13;o_head j6 (.of e13) (o0:=none) (tl:=[some v12]) rfl (λj v H=>Is K H v (N ((row.map λx=>push ra rb (ns.getD k 0).toNat (x+(1-row.getD k 0))).getD j 0))) ?_ ?_
     . rintro D2 j x zs o H1 hx' inv
       obtain⟨hj,ix⟩:=cw t13 hx';rw[wl]at hj;rw[pJ hj]at ix;have ix1:=ix.by inv.same;have jv:=(i12.by S13).by inv.same;have bx:af 3502 (row.getD j 0+(1-row.getD k 0)):=zG8 hmk hj ();k_few;rename_i v4 H4 S4 iv4 v5 iv5 v6 H6 S6 iv6;exact d_ inv () eS ⟨_,rfl⟩ (S4.trans S6) (by rw[pJ hj,h9];exact iv6)
     . rintro D2 zs H14 hn14 S14 e14 hl14 hr14
       have hzl:zs.length=row.length:=by lia
       have T14:=S13.trans S14;o_head dg (r:=0) rfl rfl (λv15 H15 S15 i15=>?_);o_head rG (j:=k) (S15 _ _ e14) (by unfold gQ;rw[if_pos (),if_pos ()];simp) (λH16 E16 e16=>?_);have hD2:H12 D2=none:=fK S13 hn14;have ne2:lh≠D2:=λz=>by subst z;rw[h12]at hD2;cases hD2
       have hDH:=fK X12 hD2;have T15:=T14.trans S15;have h16:=E16 lh _ ne2 (T15 _ _ h12);have K16:bC H15 H16:=E16.keep (S15 _ _ e14)
       have t16:ai K H16 (zs.set k v15) ((d7 ra rb (ns.getD k 0).toNat row k).map N):=by
         refine e_ (by rw[Wz,iZ];exact hzl) λj v hv=>?_
         rw[W9]at hv
         by_cases hij:k=j
         . subst hij
           rw[if_pos rfl,if_pos ()]at hv;cases hv;rw[gM _ _ _ _ _ _ (),if_pos rfl];exact i15.dA K16
         . rw[if_neg hij]at hv
           have hj:j<row.length:=by
             rcases wE j zs.length with z | z
             . lia
             . rw[wN z]at hv;cases hv
           have hz:=hr14 j v hv;rw[pJ hj]at hz;rw[gM _ _ _ _ _ _ hj,if_neg (WI hij)];exact(hz.by S15).dA K16
       rw[<- e8]at t16;have th16:ai K H16 hs ((ke ra rb ns xs k).map N):=ai.keep (T15.keep.trans K16) _ _ (eI _) th12;have i1116:=(i1112.by T15).dA K16;have X16:ar H H16:=(X12.trans T15).grow hDH E16;have hrl2:(aP ra rb ns .bi (k+1)).length=ns.length:=by rw[dy,wL];simp;lia
       have hhl:hs.length=k:=by
         have:=th16.length;rw[wl]at this;unfold ke at this
         simpa using this
       clear hr14 e14 hn14 S14 S15 T14 T15 S13 e13 t13 hr13 hn13 i12 i1012 i1112 e12 t12 h12 th12 i15;o_head gU (aE.of h16) ?_;o_head gE (X16.seq hn') ?_;rw[wl];have hn0':(0:Int)<(ns.length:Int):=by lia
       k_few;have em:((k:Int)+1) % (ns.length:Int)=(((k+1) % ns.length:Nat):Int):=by push_cast;rfl
       have hmd:(k+1) % ns.length<ns.length:=qr _ ();rw[em];refine gY (b_ e16 t16) () () (λv17 i17=>?_);rw[wD]at i17;o_head iI h16 () (λH18 E18 e18=>?_);have K18:=E18.keep h16;o_head ⟨D2,_,_,_,_,_,_,hs++[v17],rfl,X16.grow hD E18,WI ne2,E18 D2 _ (WI ne2) e16,ai.keep K18 _ _ (eI _) t16,i1116.dA K18,e18,?_⟩;rw[eh];exact IS (ai.keep K18 _ _ (eI _) th16) (i17.dA K18)
 . rintro σ H7 hz;obtain⟨lp,vt,o6,o7,o8,o9,us,hs,rfl,S7,neph,e7,t7,it7,h7,th7⟩:=hz
   o_head oz (b_ e7 t7) (λl20 H20 ys20 n20 S20 e20 t20=>?_);rw[B8,<- Qs]at t20;o_head nS ∅ (λt21 H21 n21 S21 e21=>?_);exact q t21 l20 vt lh ys20 hs H21 (S7.trans (S20.trans S21)) e21 (S21 _ _ e20) (ai.same S21 _ _ t20) (it7.by (S20.trans S21)) hD ((S20.trans S21) _ _ h7) (ai.same (S20.trans S21) _ _ th7)
inductive RZ(K:wa)(v u:V)(H:Hp)(Q:VK)(E:XK):Prop|v{Z:Nat}{n:Int}(e1:u=.int n)(h:Is K H v (N U))(b:af Z U)(hk:Z<=4000)(n0:0<=n)(n1:n<=100)(hkn:Z*n.toNat<=4000)(q:Rs K H Q (N (U^n.toNat)))
theorem DX{k:Nat}{x:Int}(h:Bd k x):∀n:Nat,Bd (k*n+1) (x^n)
 | 0=>⟨by simp⟩
 | n+1=>by
  rw[qd];exact((DX h n).mul h).mono (by rw[Q9];lia)
theorem yd(T:.q):jp P w base T.oE 1 RZ:=by
 exists T.oE,["_law_one","_law_many","_law_top","_law_bottom","_law_k"],"c2",(ak (ay 2 ii av)
     (ak (ay 3 ii av)
     (ak (eA w9 rfl (fA rfl T.h0j (q1 1)) (cV (i:=4) ii rfl .y) (ak (ay 2 ii (aD cU .aV .H))
     (au (ay 3 ii (aD cU .au .H)))))
     (au (aB (aS (q2 2 3)))))))
 obtain@⟨ra,kk,n,rfl,hx,ba,hk4,n0,n1,hkn,q⟩:=h;have bt:Bd 4000 ra.num:=ba.t.mono hk4;have bd:Bd 4000 (ra.den:Int):=ba.b.mono hk4;o_head iA (n:=n) () () (λi σ H'=>∃o,σ = [some x0,some (.int n),some (.int (ra.num^i)),some (.int ((ra.den:Int)^i)),o]/\H'=H) ⟨none,by rw[QT,QT],rfl⟩ ?_ ?_
 . rintro i σ H' hi ⟨o,rfl,rfl⟩
   have hki:kk*i<=kk*n.toNat:=qQ _ ();have b1:Bd 4001 (ra.num^i):=(DX ba.t i).mono ();have b2:Bd 4001 ((ra.den:Int)^i):=(DX ba.b i).mono ();have e1:ra.num^(i+1)=ra.num^i*ra.num:=qd ..;have e2:(ra.den:Int)^(i+1)=(ra.den:Int)^i*(ra.den:Int):=qd ..;generalize ra.num^i=t at *;generalize (ra.den:Int)^i=u at *;k_few;exact⟨_,by rw[e1,e2],rfl⟩
 . rintro σ H' ⟨o,rfl,rfl⟩
   k_few;exact dg (r:=ra^n.toNat) (Rat.num_pow ..).symm (by rw[Rat.den_pow];push_cast;rfl) q
inductive Zh(K:wa)(v u:V)(H:Hp)(Q:VK)(E:XK):Prop|v{W:.p}(e1:u=.ref U)(h1:Is K H v (R Z S))(h2:aE K H U (W.map V.int))(ok:aM Z S)(sz:cQ W)(ha:Z≠1)(q:∀l H' Y,H l=none->ar H H'->H' l=some (.lst Y)->ai K H' Y ((bQ Z S W).map N)->Q .al H')
theorem k_{a:Rat}(h:.aH)(k:cQ ns)(hl:.z)(c:.bB)(hm:m<=3290):dj a b ns xs/\(∀j,j<=ns.length->Cm 3500 (aP a b ns .bi j)) /\ ∀j,j<ns.length->af 4300 (fO a b ns xs j):=by
 have h8:=k.bS;have hu:=k.upTo
 have ht:∀j,fO a b ns xs j=dW a b ns .bi j:=λj=>by
  induction j with
  | zero=>rfl
  | succ j ih=>rw[fO,dW,ih]
 have hc:∀j,j<=ns.length->Cm 3500 (dW a b ns .bi j::aP a b ns .bi j):=λj hj=>by
  have h1:=G8 (ns:=ns) hj .Y;exact(c.snoc.yM h.ba h.bb (ns:=ns) j hj).mono ()
 refine⟨⟨h.ba,h.bb,λn hn=>by have:=k.each n hn;lia,hl,by lia,⟨m,c,by lia⟩⟩,λj hj=>iP (hc j hj) λy hy=>wt _ hy,λj hj=>?_⟩;rw[ht];exact((hc j ()).d6 .bn).mono ⋯
theorem IP{l:we}{v:V}{k:Int}(e:H l=some (.lst [v]))(h0:0<=k)(h1:k<=1000)(q:∀p H',H p=none->ar H H'->H' p=some (.lst (vj k.toNat v))->Q .aA H'):rA .al (.int k) H Q :=
 zFR e () h1 (by rw[vX];lia) (λp H' n s e'=>q p H' n s (by rw[e',List.flatten_replicate_singleton]))
theorem RX{v:V}(h:Is K H v (N 0))(n:Nat):ai K H (vj n v) ((cY n).map N):=by
 unfold cY;rw[X1];exact ai.Ny h n
theorem zV(T:.q):jp P w base T.rH 5 Zh:=by
 exists T.rH,["_law_rule","_law_sizes","_law_factor","_law_shifts"],"c2",(ak (ay 2 ii (ao (yd T) hr (ae .H (ae (dw (show bM _ (.builtin "sum") (w_ K)from Fd rfl) rfl T.h0u Ai (q1 1)) ah))))
     (ak (ay 3 ii (eC (ao (lO T) hr (ae .L (ae .X (ae (aD (show bL _ (WQ .Mult) rA from Hw) (dG (ae (aS .aX) ah)) (aD ic (dE K T.h0o (q1 1)) av)) ah))))))
     (au (aB (d4 rfl (cW ["_law_shift","_law_factor"] [none,some 2]) (fC .au) .U .an (λ_ _ _ _ _=>by exact(ao (Sd T:) hr (ae .L (ae (ao (mw T:) hr (ae (show PE _ _ (mf K _)from aS .aX) (q1 1))) ah)))))))))
 obtain@⟨p1,ra,rb,ns,rfl,hr',hn',ok,sz,ha,q⟩:=h;have h8:=sz.bS;have h1:=sz.some;have hp:=sz.pos;have hF:ra^ns.sum.toNat≠1:=λe=>ha ((j7 ok ()).mp e)
 have bF:af 49 (ra^ns.sum.toNat):=(iC ok _).mono ();have hne:1-ra^ns.sum.toNat≠0:=λe=>hF .aB
 have rc:=k_ ok sz (xs:=cY .aJ) (by rw[sU];lia) (rB _) ⋯;k_few;rename_i va ia;refine DB hn' ?_;o_head RZ.v rfl ia (Bs ok) ⋯ () () () .bD;o_head dg (r:=0) rfl rfl .bg;o_head dN ∅ (λl3 H3 n3 S3 e3=>?_);o_head gE ((S1.trans .bF).seq hn') ?_;rw[wl];o_head IP e3 () () (λl4 H4 n4 S4 e4=>?_);have T4:=S1.trans (S2.trans (S3.trans S4));have hk:((ns.length:Int)-1).toNat=ns.length-1:=by lia
 rw[hk]at e4;have i4:Is K H4 (.ref l4) (LN (cY .aJ)):=b_ e4 (RX (i2.by (S3.trans S4)) _);o_head lq (hr'.by T4) (T4.seq hn') (.inl i4) rc.1 rc.2.1 rc.2.2 (λv5 H5 S5 i5=>?_);o_head aA (j:=0) i5 rfl (λv6 i6=>?_);have T5:=T4.trans S5;have i15:=i1.by (S2.trans (S3.trans .aN));obtain⟨l6,us,rfl,hs6,t6⟩:=cq.mp i6;have hul:=t6.length;rw[wl]at hul;have hsl:(cb ra rb ns).length=ns.length-1:=m_ h1;have hul:us.length=ns.length-1:=by rw[hul];exact hsl
 have hstl:(bQ ra rb ns).length=ns.length-1:=kj h1;o_head j6 hs6 (o0:=none) (tl:=[some v1]) rfl (λj y H'=>Is K H' y (N ((bQ ra rb ns).getD j 0))) ?_ ?_
 . intro D j x ys o H7 hx inv
   obtain⟨hj,ix⟩:=cw (xs:=cb ra rb ns) t6 hx;have S7:=inv.same;have ix7:=ix.by S7;o_head dg (r:=1) rfl rfl (λv8 H8 S8 i8=>?_);o_head zn2.v i8 (i15.by (S7.trans S8)) af.one bF ⋯ (λv9 H9 S9 i9=>?_);o_head Z0.v (ix7.by (S8.trans S9)) i9 (ya ok sz j) (af.one.sub bF) ⋯ hne (λv10 H10 S10 i10=>?_);have e:(bQ ra rb ns).getD j 0=(cb ra rb ns).getD j 0 / (1-ra^ns.sum.toNat):=UL ();rw[<- e]at i10;exact d_ inv () eS ⟨_,rfl⟩ (S8.trans (S9.trans S10)) i10
 . intro D ys H7 hn S7 hD hl hr
   exact q D H7 ys (fK T5 hn) (T5.trans S7) hD (e_ (by rw[hl,hul,hstl]) hr)
inductive zjZ(K:wa)(v w u t:V)(H:Hp)(Q:VK)(E:XK):Prop|v{W:.p}{k:Int}(e1:w=.ref U)(e3:t=.int k)(h1:Is K H v (R Z S))(h2:aE K H U (W.map V.int))(h3:Is K H u (LN Y))(hl:W.length=Y.length+1)(k0:0<=k)(ok:dY Z S W k.toNat)(bx:∀D,af 2500 (Y.getD D 0))(q:∀l H' G,H l=none->ar H H'->H' l=some (.lst G)->ai K H' G ((aX Z S W k.toNat Y).map N)->Q .al H')
theorem zzA{a:Rat}(ok:.aH)(sz:cQ ns)(hF:a^ns.sum.toNat≠1)(i:Nat):af 268 ((bQ a b ns).getD i 0):=(BK ok.ba ok.bb sz.bS sz.upTo (by have:=sz.sum;lia) hF).get i
theorem G3(T:.q):ms P w base T.yx 6 zjZ:=by
 exists T.yx,["_law_rule","_law_sizes","_law_places","_law_many","_law_shifts","_law_factor","_law_found","_law_place","_law_rest_here"],"c4",(ak (aY (eX K hu .H (aS .aX)) (ak (ay 4 ii (eC (ao (lO T) hr (ae .L (ae .X (ae (aD (show bL _ (WQ .Mult) rA from Hw) (dG (ae (aS .aX) ah)) (aD ic (dE K T.h0o (q1 1)) av)) ah))))))
     (au (aB (d4 rfl (cW ["_law_place","_law_shift","_law_many"] [none,none,some 3]) (Ba rfl T.h0x (q2 2 4)) (λ_ _ _ _ _=>by exact(show PG _ _ (mF K 2 _)from jm (n:=2) rfl (dZ (cC 0) (dZ (cC 1) jo)))) .an (λ_ _ _ _ _=>by exact(ao (jb T:) hr (ae .L (ae (show PE _ _ (mf K _)from aS (ae (aD cU .aV (pg (K:=K) cZ .X)) (ae (pg (K:=K) cZ .X) ah))) ah)))))))) aZ)
     (ak (ay 5 ii (ao (yd T) hr (ae (ao (yd T) hr (ae .H (ae (dw (show bM _ (.builtin "sum") (w_ K)from Fd rfl) rfl T.h0u Ai (q1 1)) ah))) (q1 3))))
     (ak (ay 6 ii (dG ah))
     (ak (eA w9 rfl (Ba rfl T.h0x (ae .aV (ae (ao (zV T) hr (q2 0 1)) ah))) (jm (n:=2) rfl (dZ (cV (i:=7) ii rfl .y) (dZ (cV (i:=8) ii rfl .y) jo))) (au (jK (i_ vP vU vV jh (pv 6) (ae (ao (jb T) hr (ae (pv 8) (ae (ao (lF T) hr (ae (pv 5) (ae (ao (mw T) hr (q2 7 8)) ah))) ah))) ah)))))
     (au (aB (pv 6)))))))
 obtain@⟨p1,ra,rb,xs,ns,k,rfl,rfl,hr',hn',hp',hl,k0,ok,bx,q⟩:=h;have h8:=ok.sz.bS;have h1:=ok.sz.some;have hps:=ok.sz.pos;have hk60:=ok.bS;have hkk:=ok.k;obtain⟨k,rfl⟩:∃j:Nat,k=(j:Int):=⟨k.toNat,by lia⟩;rw[wD]at q ok hk60 hkk;obtain⟨lp,ps,rfl,hsp0,tp0⟩:=cq.mp hp';have hpl:=tp0.length;rw[wl]at hpl;have hsl:(cb ra rb ns).length=ns.length-1:=m_ h1;have bs:=ya ok.ok ok.sz;k_few;rename_i va ia;refine dg (r:=1) rfl rfl .bD;refine zT (ia.by S1) i1 ?_;k_few
 . rename_i ha
   have hF:ra^ns.sum.toNat=1:=by rw[ha,GM.one_pow']
   have rc:=k_ ok.ok ok.sz (xs:=cY .aJ) (by rw[sU];lia) (rB _) ⋯;refine dg (r:=0) rfl rfl .bg;o_head dN ∅ (λl3 H3 n3 S3 e3=>?_);o_head gE ((S1.trans .bF).seq hn') ?_;rw[wl];o_head IP e3 () () (λl4 H4 n4 S4 e4=>?_);have T4:=S1.trans (S2.trans (S3.trans S4));have hk1:((ns.length:Int)-1).toNat=ns.length-1:=by lia
   rw[hk1]at e4;have i4:Is K H4 (.ref l4) (LN (cY .aJ)):=b_ e4 (RX (i2.by (S3.trans S4)) _);o_head lq (hr'.by T4) (T4.seq hn') (.inl i4) rc.1 rc.2.1 rc.2.2 (λv5 H5 S5 i5=>?_);o_head aA (j:=0) i5 rfl (λv6 i6=>?_);have T5:=T4.trans S5;obtain⟨l6,us,rfl,hs6,t6⟩:=cq.mp i6;have hul:=t6.length;rw[wl]at hul;have hul:us.length=ns.length-1:=by rw[hul];exact hsl
   have hsp:=T5.seq hsp0;have tp:ai K H5 ps .aP:=ai.same T5 _ _ tp0;o_head zxs (t:=false) (u:=false) hsp hs6 () (o0:=none) (o0':=none) (tl:=[some (.int (k:Int))]) rfl (λj y H'=>Is K H' y (N ((aX ra rb ns k xs).getD j 0))) eS ?_ ?_
   . intro D j y z zs o1 o2 H7 c hy hz inv hc
     obtain⟨hj,iy⟩:=cw tp hy;obtain⟨_,iz⟩:=cw (xs:=cb ra rb ns) t6 hz;have S7:=inv.2.2.1;have iy7:=iy.by S7;have iz7:=iz.by S7;have h64:(2:Nat)^6=64:=by decide
     have bk:Bd 6 (k:Int):=⟨by rw[h64];lia⟩;have bj:=bs j;have bkt:Bd 191 ((k:Int)*((cb ra rb ns).getD j 0).num):=(bk.mul bj.t).mono ⋯;refine kG (.of hc) rfl ?_;o_head cJ (ds:=[.int ((k:Int)*((cb ra rb ns).getD j 0).num),.int (((cb ra rb ns).getD j 0).den:Int)]) ∅ (.cons .bw (.cons .bw .nil)) (λv8 H8 S8 i8=>?_);o_head znN (iy7.by S8) i8 (den_pos _) ((bx j).mono ⋯) (bkt.mono ⋯) (bj.b.mono ⋯) (λv9 H9 S9 i9=>?_);have e:(aX ra rb ns k xs).getD j 0=xs.getD j 0+wB ((k:Int)*((cb ra rb ns).getD j 0).num) (((cb ra rb ns).getD j 0).den:Int):=by rw[fD hj,hF,zzp]
     rw[<- e]at i9;exact yg inv () eS ⟨_,_,rfl⟩ (S8.trans S9) i9
   . intro D zs H7 hn S7 hD hl7 hr
     exact q D H7 zs (fK T5 hn) (T5.trans S7) hD (e_ (by rw[hl7,hpl,bZ]) hr)
 . rename_i ha vb ib
   have hF:ra^ns.sum.toNat≠1:=λe=>ha ((j7 ok.ok ()).mp e)
   have br:=zzA ok.ok ok.sz hF;have hstl:(bQ ra rb ns).length=ns.length-1:=kj h1;refine DB (S1.seq hn') ?_;o_head RZ.v rfl ib (Bs ok.ok) ⋯ () () () .bg;k_few;have hkn:(6*ns.sum.toNat+1)*k<=1600:=Wb (Wf _ ()) hkk;refine RZ.v rfl i2 (iC ok.ok _) () () () (by rw[wD];lia) .aG;rw[wD]at i3;have bP:af 1601 ((ra^ns.sum.toNat)^k):=ok.pow .Y;o_head dN ∅ (λlf H4 n4 S4 e4=>?_);have T4:=S1.trans (S2.trans (S3.trans S4));o_head Zh.v rfl (hr'.by T4) (T4.seq hn') ok.ok ok.sz ha (λl5 H5 us n5 S5 e5 t5=>?_);have T5:=T4.trans S5;have ef5:=S5 _ _ e4;have i35:=i3.by .aN;have hfH:H lf=none:=fK (S1.trans .bF) n4;have n5f:l5≠lf:=λz=>by subst z;rw[e4]at n5;cases n5
   have hsp:=T5.seq hsp0;have tp:ai K H5 ps .aP:=ai.same T5 _ _ tp0;have hul:=t5.length;rw[wl]at hul;generalize hpow:(ra^ns.sum.toNat)^k=Fk at *;refine zyY (t:=false) (u:=false) hsp (aE.of e5) () (λi σ H'=>∃o7 o8 ws,σ = [some x0,some (.ref p1),some (.ref lp),some (.int (k:Int)),none,some v3,some (.ref lf),o7,o8]/\Exc lf H5 H'/\H' lf=some (.lst ws)/\ai K H' ws (((aX ra rb ns k xs).take i).map N)) ⟨_,_,[],rfl,Exc.refl _ _,ef5,.nil⟩ (λi σ H' _ ⟨_,_,_,_,E,_⟩=>⟨(T5.grow hfH E).seq hsp0,aE.of (E _ _ n5f e5)⟩) ?_ ?_
   . rintro i y z σ H6 c H7 hy hz ⟨o7,o8,ws,rfl,E6,e6,t6⟩ hc S7 e7
     obtain⟨hj,iy⟩:=cw tp hy;obtain⟨hj2,iz⟩:=cw t5 hz;have K7:=(E6.keep ef5).trans S7.keep;have iy7:=iy.dA K7;have iz7:=iz.dA K7;have i37:=i35.dA K7;have hwl:=t6.length;rw[wl,Wi,bZ]at hwl;have bri:=br i;have bxi:=bx i;have e:(aX ra rb ns k xs).getD i 0=(bQ ra rb ns).getD i 0+Fk*(xs.getD i 0-(bQ ra rb ns).getD i 0):=by rw[fD hj,OI (BF hF hj2),hpow]
     have hlj:i<(aX ra rb ns k xs).length:=by rw[bZ];exact hj
     have b8:af 2769 (xs.getD i 0-(bQ ra rb ns).getD i 0):=(bxi.sub bri).mono ⋯;have bPx:af 4370 (Fk*(xs.getD i 0-(bQ ra rb ns).getD i 0)):=(bP.mul b8).mono ⋯;refine kG (.of e7) rfl ?_;o_head gU (aE.of (S7 _ _ e6)) ?_;o_head zn2.v iy7 iz7 bxi bri ⋯ (λv8 H8 S8 i8=>?_);have i38:=i37.by S8;have iz8:=iz7.by S8;k_few;rename_i v9 H9 S9 i9 v10 H10 S10 i10;rw[<- e]at i10;have T10:=S7.trans (S8.trans (S9.trans S10));have e10:=T10 _ _ e6;refine iI e10 () (λH11 E11 e11=>?_);have K11:=E11.keep e10;refine⟨_,_,_,rfl,E6.trans (T10.exc.trans E11),e11,?_⟩;rw[gv hlj,w5];exact(ai.keep (T10.keep.trans K11) _ _ (eI _) t6).append (.cons (i10.dA K11) .nil)
   . rintro σ H6 hz;obtain⟨o7,o8,ws,rfl,E6,e6,t6⟩:=hz
     rw[hpl,WU (by rw[bZ];lia)]at t6;k_few;exact q lf H6 ws hfH (T5.grow hfH E6) e6 t6
theorem zAx(bs:List Bool):(bs.map V.bl).all ku=true:=by
 rw[Wk];intro y hy;obtain⟨b,_,rfl⟩:=wQ.mp hy
 rfl
theorem zF9(c:Bool)(bs:List Bool):pM (.bl c) (bs.map V.bl)=decide (c∈bs):=by
 unfold pM;rw[vA,QG,decide_eq_true_eq]
 constructor
 ·rintro ⟨y,hy,e⟩
  obtain⟨b,hb,rfl⟩:=wQ.mp hy;have:b=c:=by revert e;cases b<;>cases c<;>decide
  rw[<- this];exact hb
 ·intro h
  exact⟨.bl c,wQ.mpr ⟨c,h,rfl⟩,by cases c<;>decide⟩
theorem Yx{bs:List Bool}{c:Bool}(h:aE K H p (bs.map V.bl))(q:Q (.bl (!decide (c∈bs))) H):gu K true (.bl c) .aA H Q:=⟨p,_,rfl,.inl h,rfl,zAx bs,by rw[zF9];exact q⟩
theorem zss(h:∀i,i<xs.length+1->(cB xs).getD (i+1) 0<(cB xs).getD i 0):(mz xs).all id=true:=by
 rw[Wk];intro b hb;obtain⟨i,hi,rfl⟩:=wQ.mp hb;exact decide_eq_true (h i (wH.mp hi))
theorem zvS(hi:i<xs.length+1)(h:¬ (cB xs).getD (i+1) 0<(cB xs).getD i 0):(mz xs).all id=false:=by
 rw[uh];intro e;have:=Wk.mp e _ (wQ.mpr ⟨i,wH.mpr hi,rfl⟩);exact h (of_decide_eq_true this)
theorem zuO(ts:.c):(!decide (false∈ts.map λx=>decide (x<1)))=(lI ts).all id:=by
 rw[vA,WX,decide_eq_false_iff_not,Wk]
 constructor
 ·intro h b hb
  cases b with
  | true=>rfl
  | false=>exact absurd hb h
 ·intro h hb
  have:=h _ hb;cases this
def NG(K:wa):Sp:=λvs H Q _=>∃x0 x1 x2,vs=[x0,x1,x2] /\ ∃(a b:Rat)(ns:.p)(xs:.c)(p1:we),x1=.ref p1/\Is K H x0 (R a b)/\aE K H p1 .aq/\(Is K H x2 (LN xs)\/Is K H x2 (TN xs))/\dj a b ns xs/\(∀k,k<=ns.length->Cm 3500 (aP a b ns .bi k))/\(∀k,k<ns.length->af 4300 (fO a b ns xs k))/\Rq H Q (.bl (cE a b ns xs))
theorem Fe{a:Rat}{v:V}(h1:Is K H v (R a b))(h2:aE K H p1 .aq)(h3:Is K H u (LN xs)\/Is K H u (TN xs))(ok:.aH)(sz:cQ ns)(hl:.z)(c:.bB)(hm:m<=3290)(q:Rq H Q (.bl (cE a b ns xs))):NG K [v,.ref p1,u] H Q E :=
 have rc:=k_ ok sz hl c hm
 ⟨_,_,_,rfl,a,b,ns,xs,p1,rfl,h1,h2,h3,rc.1,rc.2.1,rc.2.2,q⟩
theorem Fx(T:.q):cr P w base T.yy 5 (NG K):=by
 exists T.yy,["_law_rule","_law_sizes","_law_places","_law_row","_law_k"],"b3",(ak (ay 3 ii (aD cN (aD cN (dG (ae (aS .aX) ah)) (iS (show bM _ (.type "list") (gc K)from jI) rfl T.h0n h_ (q1 2))) (dG (ae (aS .aX) ah))))
     (ak (eA w9 rfl (fA rfl T.h0j (ae (aD ic (dE K T.h0o (q1 3)) av) ah)) (cV (i:=4) ii rfl .y) (au (aY (cR (cz (ao (yc T) hr (ae (dD cZ .au (aD cN (pv 4) av) .aw) (ae (dD cZ .au (pv 4) .aw) ah))))) (au (aB fe)) aZ)))
     (au (aB (jk (show bL _ (vG .NotIn) (gu K true)from sF) fe (d4 rfl (cW ["_law_one"] [none]) (fC (eC (ao (lO T) hr (q3 0 1 2)))) .U .an (λ_ _ _ _ _=>by exact(ao (yc T:) hr (ae .L (ae (show PE _ _ (mf K _)from aS .aX) ah))))) .ae)))))
 obtain⟨ra,rb,ns,xs,p1,rfl,hr',hn',hp',ok,hrow,htm,q⟩:=h;have hlen:=ok.len;have hfew:=ok.bS;obtain⟨m,hcm,hm⟩:=ok.cm;o_head dg (r:=1) rfl rfl .bD;o_head dN ∅ (λl2 H2 n2 S2 e2=>?_);k_few
 have hp2:Is K H2 x2 (.list .aP)\/Is K H2 x2 (.tuple .aP):=by
   rcases hp' with z | z
   . exact .inl (z.by .aM)
   . exact .inr (z.by .aM)
 refine rF hp2 (λl3 H3 us n3 S3 e3 t3=>?_);have hul:=t3.length;rw[wl]at hul;o_head jQ (S3 _ _ e2) e3 (WH (gW .aL)) (λl4 H4 n4 S4 e4=>?_);o_head dg (r:=0) rfl rfl (λv5 H5 S5 i5=>?_);o_head dN ∅ (λl6 H6 n6 S6 e6=>?_);refine jQ (S6 _ _ (S5 _ _ e4)) e6 (WH (gW .aL)) (λl7 H7 n7 S7 e7=>?_);have S37:=S4.trans (S5.trans (S6.trans S7));have T7:ar H H7:=S1.trans (S2.trans (S3.trans S37))
 have t7:ai K H7 ([v1]++us++[v5]) ((cB xs).map N):=by
   unfold cB;rw[w5,w5];exact(ai.append (.cons (i1.by (S2.trans (S3.trans S37))) .nil) (ai.same S37 _ _ t3)).append (.cons (i5.by (S6.trans S7)) .nil)
 have ir7:=hr'.by T7;have in7:=T7.seq hn'
 have ip7:Is K H7 x2 (LN xs)\/Is K H7 x2 (TN xs):=by
   rcases hp' with z | z
   . exact .inl (z.by T7)
   . exact .inr (z.by T7)
 clear n2 n3 n4 n6 n7 S1 S2 S3 S4 S5 S6 S7 S37 e2 e3 e4 e6 t3 hr' hn' hp' hp2 i1 i5;generalize [v1]++us++[v5]=ws at e7 t7;have hws:=t7.length;rw[wl,iF]at hws;o_head gE (.of e7) ?_;rw[hws];o_head iA (n:=((xs.length+2:Nat):Int)-1) () () (λk σ H'=>∃o4,σ = [some x0,some (.ref p1),some x2,some (.ref l7),o4]/\H'=H7 /\ ∀i,i<k->(cB xs).getD (i+1) 0<(cB xs).getD i 0) ⟨_,rfl,rfl,λi hi=>by lia⟩ ?_ ?_
 . rintro k σ H' hk hz;obtain⟨o4,rfl,rfl,hf⟩:=hz
   have hk:k<xs.length+1:=by lia
   have b1:af 8000 ((cB xs).getD k 0):=(Aj hcm k).mono ();have b2:af 8000 ((cB xs).getD (k+1) 0):=(Aj hcm (k+1)).mono ();o_head gY (b_ e7 t7) () (by rw[iF];lia) (λv8 i8=>?_);rw[show((k:Int)+1).toNat=k+1 by lia]at i8;o_head gY (b_ e7 t7) () (by rw[iF];lia) (λv9 i9=>?_);rw[wD]at i9;k_few
   . rename_i z
     have e:cE ra rb ns xs=false:=by unfold cE;rw[zvS hk z];rfl
     have:=q H' T7;rw[e]at this;exact this
   . rename_i z
     refine⟨_,rfl,rfl,λi hi=>?_⟩;rcases wE i k with y | y
     . exact hf i y
     . have:i=k:=by lia
       subst this;exact z
 . rintro σ H' hz;obtain⟨o4,rfl,rfl,hf⟩:=hz
   have hf:∀i,i<xs.length+1->(cB xs).getD (i+1) 0<(cB xs).getD i 0:=λi hi=>hf i ()
   have hfa:=zss hf;o_head lq ir7 in7 ip7 ok hrow htm (λv8 H8 S8 i8=>?_);o_head aA (j:=2) i8 rfl (λv9 i9=>?_);obtain⟨l9,hs9,rfl,s9,t9⟩:=cq.mp (show Is K H8 v9 (.list ((cX ra rb ns xs).map N))from i9);have hl9:hs9.length=ns.length:=by rw[t9.length,wl,fb]
   refine j6 s9 (o0:=none) (tl:=[]) rfl (λj y _=>y=V.bl (((cX ra rb ns xs).map λx=>decide (x<1)).getD j true)) ?_ ?_
   . intro D i x ys o H10 hx inv
     obtain⟨hi,ix⟩:=cw t9 hx;rw[fb]at hi;have ix:=ix.by inv.same;have b1:af 8000 ((cX ra rb ns xs).getD i 0):=B_ ok hi;o_head dg (r:=1) rfl rfl (λv11 H11 S11 i11=>?_);have ix:=ix.by S11;o_head d_ inv () (λ_ _ _ _ _ h=>h) ⟨_,rfl⟩ S11 ?_;rw[wb (l:=List.map _ _),wu,wc (by rw[fb];exact hi),wb,wc (by rw[fb];exact hi)]
     rfl
   . intro D zs H10 n10 S10 e10 hl10 hr10
     have hz:=pA (bs:=(cX ra rb ns xs).map λx=>decide (x<1)) (by rw[wl,fb];lia) hr10;rw[hz]at e10;o_head Yx (.of e10) ?_;rw[zuO];have e:cE ra rb ns xs=(lI (cX ra rb ns xs)).all id:=by unfold cE;rw[hfa];rfl
     have:=q H10 (T7.trans (S8.trans S10));rw[e]at this;exact this
theorem Zo{a:Rat}(sz:cQ ns)(hl:.z):cF a b ns xs=xs ↔ ∀i,i<xs.length->a^ns.sum.toNat*xs.getD i 0+(cb a b ns).getD i 0=xs.getD i 0:=by
 rw[<- nT (a:=a) (b:=b) hl sz.nn]
 constructor
 ·intro e i hi
  have h:=fD (a:=a) (b:=b) (ns:=ns) (n:=1) hi;rw[e,F6]at h;exact h.symm
 ·intro h
  refine pW (bZ ..) λi hi=>?_
  rw[bZ]at hi;rw[fD hi,F6,h i hi]
theorem zzP{a:Rat}(ok:.aH)(sz:cQ ns)(hl:.z)(h1:1<=a):dS a b ns xs=decide (cF a b ns xs=xs):=by
 have hps:=sz.pos;have hsl:(cb a b ns).length=xs.length:=by rw[m_ sz.some];lia
 have hst:(bQ a b ns).length=xs.length:=by rw[kj sz.some];lia
 unfold dS
 by_cases h:1<a
 ·have ha:a≠1:=by intro e;rw[e]at h;exact absurd h ⋯
  have hF:a^ns.sum.toNat≠1:=λe=>ha ((j7 ok ()).mp e)
  rw[if_pos h];refine decide_eq_decide.mpr ?_;rw[Zo sz hl]
  constructor
  ·rintro rfl i hi
   have:=BF hF hi
   grind
  ·intro e
   refine pW hst.symm λi hi=>?_
   have h1:=e i hi;have h2:=BF (b:=b) hF (i:=i) ();have h3:(xs.getD i 0-(bQ a b ns).getD i 0)*(1-a^ns.sum.toNat)=0:=by grind
   rcases QL.mp h3 with z | z
   ·grind
   ·exact absurd .aB hF
 ·have ha:a=1:=by
   rcases Rat.le_iff_lt_or_eq.mp h1 with z | z
   ·exact absurd z h
   ·exact z.symm
  have hF:a^ns.sum.toNat=1:=(j7 ok ()).mpr ha;rw[if_neg h,if_pos ha,vA,decide_eq_true_eq,Zo sz hl,Wk]
  constructor
  ·intro e i hi
   have:=e _ (wQ.mpr ⟨(cb a b ns).getD i 0,getD_mem (),rfl⟩);have:=of_decide_eq_true this;rw[hF,this]
   grind
  ·intro e c hc
   obtain⟨s,hs,rfl⟩:=wQ.mp hc;obtain⟨i,hi,rfl⟩:=wX hs;have h2:=e i ();rw[hF,wb (l:=cb a b ns),wc hi]at h2;refine decide_eq_true ?_
   show(cb a b ns)[i]=0
   have h3:1*xs.getD i 0+(cb a b ns)[i]=xs.getD i 0:=h2
   grind
theorem zw(a:Rat):.D<=a.num ↔ 1<=a:=by
 rw[<- W6,uS]
 show _ ↔ ¬ (a.num*((1:Rat).den:Int)<(1:Rat).num*.D)
 rw[show((1:Rat).den:Int)=1 from rfl,show(1:Rat).num=1 from rfl];lia
inductive zo2(K:wa)(v w u:V)(H:Hp)(Q:VK)(E:XK):Prop|v{W:.p}{D:Nat}(e1:w=.ref U)(h1:Is K H v (R Z S))(h2:aE K H U (W.map V.int))(h3:Is K H u (LN Y))(ok:aM Z S)(sz:cQ W)(hl:W.length=Y.length+1)(c:Cm D Y)(hm:D<=3290)(q:Rq H Q (.bl (dS Z S W Y)))
theorem zw8(T:.q):kw P w base T.Mm 6 zo2:=by
 exists T.Mm,["_law_rule","_law_sizes","_law_places","_law_heights"],"c3",(ak (aY (dP A6 (eC .H) (eC .H) (dF _)) (au (aB (jc K hu (eC (ao (lO T) hr (q3 0 1 2))) (iS (show bM _ (.type "list") (gc K)from jI) rfl T.h0n h_ (q1 2))))) aZ)
     (ak (ay 3 ii (eC (ao (lO T) hr (ae .L (ae .X (ae (ao (zV T) hr (q2 0 1)) ah))))))
     (au (aB (jk (show bL _ (vG .NotIn) (gu K true)from sF) fe (d4 rfl (cW ["_law_one"] [none]) (fC .au) .U .an (λ_ _ _ _ _=>by exact(ao (yc T:) hr (ae (show PE _ _ (mf K _)from aS .aX) (q1 0))))) .ae)))))
 obtain@⟨p1,ra,rb,xs,ns,m,rfl,hr',hn',hx',ok,sz,hl,c,hm,q⟩:=h;have rc:=k_ ok sz hl c hm;have h8:=sz.bS;have hps:=sz.pos;k_few
 . rename_i v1 i1 v2 i2 z
   have ha:1<=ra:=(zw ra).mp z;refine lq hr' hn' (.inl hx') rc.1 rc.2.1 rc.2.2 .aG;o_head aA (j:=0) i3 rfl (λv4 i4=>?_);o_head rF (ds:=xs.map N) (.inl (hx'.by S3)) (λl5 H5 us n5 S5 e5 t5=>?_);o_head zxD (show Is K H5 v4 (LN (cF ra rb ns xs))from(show Is K H3 v4 (LN (cF ra rb ns xs))from i4).by S5) (b_ e5 t5) ?_;have:=q H5 (S3.trans S5);rw[zzP ok sz hl ha]at this;exact this
 . rename_i v1 i1 v2 i2 z
   have ha:ra<1:=by
     rw[<- Xu];exact λh=>z ((zw ra).mpr h)
   have ha1:ra≠1:=by intro e;rw[e]at ha;exact absurd ha ⋯
   have hn1:¬ 1<ra:=by grind
   have hF:ra^ns.sum.toNat≠1:=λe=>ha1 ((j7 ok ()).mp e)
   have hst:ns.length=(bQ ra rb ns).length+1:=by rw[kj sz.some];lia
   have rs:=k_ ok sz hst (BK ok.ba ok.bb h8 sz.upTo () hF) ⋯;refine Zh.v rfl hr' hn' ok sz ha1 (λl3 H3 us n3 S3 e3 t3=>?_);o_head lq (hr'.by S3) (S3.seq hn') (.inl (b_ e3 t3)) rs.1 rs.2.1 rs.2.2 (λv4 H4 S4 i4=>?_);o_head aA (j:=2) i4 rfl (λv5 i5=>?_);obtain⟨l5,hs5,rfl,s5,t5⟩:=cq.mp (show Is K H4 v5 (.list ((cX ra rb ns (bQ ra rb ns)).map N))from i5);have hl5:hs5.length=ns.length:=by rw[t5.length,wl,fb]
   o_head j6 s5 (o0:=none) (tl:=[]) rfl (λj y _=>y=V.bl ((kc (cX ra rb ns (bQ ra rb ns))).getD j true)) ?_ ?_
   . intro D i x ys o H6 hx inv
     obtain⟨hi,ix⟩:=cw t5 hx;rw[fb]at hi;have ix:=ix.by inv.same;have b1:af 8000 ((cX ra rb ns (bQ ra rb ns)).getD i 0):=B_ rs.1 hi;o_head dg (r:=1) rfl rfl (λv7 H7 S7 i7=>?_);have ix:=ix.by S7;k_few;exact d_ inv () (λ_ _ _ _ _ h=>h) ⟨_,rfl⟩ S7 (by rw[O1 (by rw[fb];exact hi)])
   . intro D zs H6 n6 S6 e6 hl6 hr6
     have hz:=pA (bs:=kc (cX ra rb ns (bQ ra rb ns))) (by unfold kc;rw[wl,fb];lia) hr6;rw[hz]at e6;o_head Yx (.of e6) ?_
     have e:dS ra rb ns xs = !decide (true∈kc (cX ra rb ns (bQ ra rb ns))):=by
       unfold dS je;rw[if_neg hn1,if_neg ha1]
       congr 1
       rw[vA,QG,decide_eq_true_eq]
       constructor
       . rintro ⟨b,hb,e⟩
         rw[show b=true from e]at hb;exact hb
       . intro h;exact⟨true,h,rfl⟩
     have:=q H6 (S3.trans (S4.trans S6));rw[e]at this;exact this
inductive N1(K:wa)(u w:V)(H:Hp)(Q:VK)(E:XK):Prop|v{k m:Int}(e0:u=.ref U)(e1:w=.int m)(h:cH H U k)(hk:k<=1000)(h1:1<=m)(h8:m<=8)(q:∀(l:we)(H':Hp)(Z:.x)(S:.c),H l=none->Exc U H H'->bC H H'->cH H' U (k+11)->H' l=some (.lst Z)->ai K H' Z (S.map N)->1<=S.length->(S.length:Int)<=m->(∀W∈S,fB W)->Q .al H')
theorem zjX(T:.q):jp P w base T.Jv 2 N1:=by
 exists T.Jv,["_law_pen_here","_law_most","_law_many","_law_bottom","_law_few","_law_apart"],"c2",(ak (ay 2 ii (aD cN av (ao (fL T) hr (q2 0 1))))
     (ak (ay 3 ii (aD cN av (ao (fL T) hr (ae .L .O))))
     (ak (ay 4 ii (dD cZ (dG (ae .au (ae (aD cN av (aD fz .au av)) ah))) (ao (fL T) hr (ae .L .O)) .aw))
     (ak (ay 5 ii (aD fz .au (pv 4)))
     (au (aB (d4 rfl (cW ["_law_k","_law_bottom","_law_apart","_law_pen_here","_law_few"] [none,some 3,some 5,some 0,some 4]) (fA rfl T.h0j (q1 2)) .U .an (λ_ _ _ _ _=>(ao (iJ T:) hr (ae (aD cU (ao (fL T:) hr (q2 3 4)) .aV) (q1 1)))))))))))
 obtain@⟨p,k,m,rfl,rfl,hp,hk,h1,h8,q⟩:=h;wtm_at "ga";rename_i ra Ha ra0 ra1 Ea Ka Pa rb Hb rb0 rb1 Eb Kb Pb lc Hc nc Sc ec rd Hd rd0 rd1 Ed Kd Pd z hz;have E1:Exc p H Hd:=Ea.trans (Eb.trans (Sc.exc.trans Ed));have K1:bC H Hd:=Ka.trans (Kb.trans (Sc.keep.trans Kd));clear Ea Ka Pa Eb Kb Pb Sc ec nc Ed Kd hp;generalize hB:2+rb=B at *;have B2:2<=B/\B<=60:=by lia
 have hz1:1<=z/\z<=B:=by
   rcases hz with rfl | rfl
   . lia
   . rw[Wy _ ⋯];lia
 refine yl ⟨by lia,(Bd.ma () ()).mono ⋯⟩ ?_
 have ha:1<=B.fdiv z/\B.fdiv z*z<=B/\B.fdiv z<=B:=by
   rw[Wy _ ()];refine⟨?_,Ub _ (),uD _ ()⟩;exact(Int.le_ediv_iff_mul_le ()).mpr ()
 generalize B.fdiv z=a at *;obtain⟨a1,a2,a3⟩:=ha;k_few;obtain⟨n,hn⟩:∃n:Nat,1+ra=(n:Int):=⟨(1+ra).toNat,by lia⟩;rw[hn];refine Bt (n:=(n:Int)) () () (λD i ys σ' H'=>(∃o,σ'=[o,some (.int B),some (.int a),some .aA,some (.int z)])/\Hd D=none/\D≠p/\Exc p Hd H'/\bC Hd H'/\cH H' p (k+1+1+1+(i:Int)) /\ ∃(us:.x)(xs:.c),H' D=some (.lst us)/\xs.length=i/\ai K H' us .aP /\ ∀x∈xs,fB x) ?_ ?_ ?_
 . intro D H' n s e
   exact⟨⟨_,rfl⟩,n,cH.ne n Pd,s.exc,s.keep,(Pd.same s).le (),[],[],e,rfl,.nil,by simp⟩
 . rintro D i ys σ' H' hi hz;obtain⟨⟨o,rfl⟩,hn',hne,hE,hK,hP,us,xs,hD,hl,ht,hm⟩:=hz
   k_few;rename_i r H6 r0 r1 E6 K6 P6;have t0:0<=r*a:=Xj r0 ()
   have t1:r*a<B:=by
     have h1:(r+1)*a<=z*a:=W2 () ();rw[uu,Q8]at h1;have h2:z*a=a*z:=Int.mul_comm _ _;lia
   generalize r*a=t at *;k_few;rename_i v7 H7 x7 S7 i7 e7 b7;have hul:=ht.length;simp only[wl]at hul;have hD7:=S7 _ _ (E6.at hne hD);have px:fB x7:=by rw[e7];exact YY () () ()
   refine jU hD7 () (λH8 E8 e8=>?_);have K8:bC H7 H8:=E8.keep hD7;refine⟨⟨_,rfl⟩,hn',hne,λb o hb h=>E8 b o (lT h hn') (S7 b o ((hE.trans E6) b o hb h)),(hK.trans K6).trans (S7.keep.trans K8),?_,us++[v7],xs++[x7],e8,by simp[hl],?_,?_⟩
   . obtain⟨x,y,z,e,h1,h2⟩:=P6
     exact⟨x,y,z,E8 p _ (WI hne) (S7 _ _ e),h1,by lia⟩
   . rw[w5]
     exact(ai.keep (K6.trans (S7.keep.trans K8)) _ _ (eI _) ht).append (.cons (i7.dA K8) .nil)
   . intro y hy
     rcases Wc.mp hy with h | h
     . exact hm y h
     . rw[vc.mp h];exact px
 . rintro D ys σ' H' hz;obtain⟨_,hn',hne,hE,hK,hP,us,xs,hD,hl,ht,hm⟩:=hz
   rw[wD]at hl hP;k_few
   have hfr:H D=none:=by
     cases e:H D with
     | none=>rfl
     | some o=>rw[E1 D o hne e]at hn';cases hn'
   exact q D H' us xs hfr (E1.trans hE) (K1.trans hK) (hP.le ()) hD ht () () hm
inductive Od(K:wa)(v:V)(H:Hp)(Q:VK)(E:XK):Prop|v(h:Is K H v (LN U)\/Is K H v (TN U))(h1:1<=U.length)(b:∀Z,af 4000 (U.getD Z 0))(q:∀v,Is K H v (N (a_ U))->Q v H)
theorem FK(T:.q):io P w base T.yz 2 Od:=by
 exists T.yz,["_law_some","_law_found","_law_one"],"c1",(ak (ay 1 ii .H)
     (ak (eA w9 rfl (Hl .L) (cV (i:=2) ii rfl .y) (au (aY (cz (ao (yc T) hr (q2 1 2))) (au (ay 1 ii .aV)) aZ)))
     (au (aB .X))))
 obtain@⟨xs,hx,h1,bx,q⟩:=h;rcases hx with hx | hx
 . obtain⟨ap,us,rfl,hs,tu⟩:=cq.mp hx
   have hul:us.length=xs.length:=by rw[tu.length,wl]
   o_head gY hx ⋯ () (λv0 i0=>?_);have i0:Is K H v0 (N (mx (xs.getD 0 0) [])):=i0;o_head .inl (pS hs (λi σ H'=>∃o v,σ = [some (.ref ap),some v,o]/\H'=H/\Is K H v (N (mx (xs.getD 0 0) (xs.take i)))) ⟨_,v0,rfl,rfl,by rw[Q6];exact i0⟩ (λi σ H' _ h=>by obtain⟨_,_,_,rfl,_⟩:=h;exact hs) ?_ ?_)
   . rintro i x σ H' hx' hz;obtain⟨o,v,rfl,rfl,iv⟩:=hz
     obtain⟨hi,ix⟩:=cw tu hx';have b1:=zg bx h1 i;have b2:=bx i;k_few
     . rename_i z
       exact⟨_,x,rfl,rfl,by rw[gv hi,mU,if_pos z];exact ix⟩
     . rename_i z
       exact⟨_,v,rfl,rfl,by rw[gv hi,mU,if_neg z];exact iv⟩
   . rintro σ H' hz;obtain⟨o,v,rfl,rfl,iv⟩:=hz
     rw[hul,Wj]at iv;k_few;exact q v iv
 . obtain⟨ap,us,rfl,hs,tu⟩:=bY.mp hx
   have hul:us.length=xs.length:=by rw[tu.length,wl]
   o_head yY hx ⋯ () (λv0 i0=>?_);have i0:Is K H v0 (N (mx (xs.getD 0 0) [])):=i0;o_head .inr (Ou hs (λi σ H'=>∃o v,σ = [some (.ref ap),some v,o]/\H'=H/\Is K H v (N (mx (xs.getD 0 0) (xs.take i)))) ⟨_,v0,rfl,rfl,by rw[Q6];exact i0⟩ (λi σ H' _ h=>by obtain⟨_,_,_,rfl,_⟩:=h;exact hs) ?_ ?_)
   . rintro i x σ H' hx' hz;obtain⟨o,v,rfl,rfl,iv⟩:=hz
     obtain⟨hi,ix⟩:=cw tu hx';have b1:=zg bx h1 i;have b2:=bx i;k_few
     . rename_i z
       exact⟨_,x,rfl,rfl,by rw[gv hi,mU,if_pos z];exact ix⟩
     . rename_i z
       exact⟨_,v,rfl,rfl,by rw[gv hi,mU,if_neg z];exact iv⟩
   . rintro σ H' hz;obtain⟨o,v,rfl,rfl,iv⟩:=hz
     rw[hul,Wj]at iv;k_few;exact q v iv
def lU(xs row:.c)(i:Nat):List Rat:=(wp xs.length).map λw=>if aI xs w<i then row.getD (aI xs w) 0 else xs.getD w 0
inductive ZQ(K:wa)(v w:V)(H:Hp)(Q:VK)(E:XK):Prop|v(h1:Is K H v (TN U))(h2:Is K H w (LN Z))(h8:U.length<=8)(hl:(aj U).length=Z.length+1)(b:∀S,af 4000 (U.getD S 0))(q:Rs K H Q (TN ((wp U.length).map λw=>(Z++[0]).getD (aI U w) 0)))
theorem zwN(xs row:.c):lU xs row 0=xs:=by
 unfold lU;refine hV ∅ λw hw=>?_
 have hw:w<xs.length:=by simpa using hw
 rw[wb,wu,vM hw]
 rfl
def hJ(xs row:.c)(i k:Nat):List Rat:=(wp xs.length).map λw=>if aI xs w<i then row.getD (aI xs w) 0 else if aI xs w=i/\w<k then row.getD i 0 else xs.getD w 0
theorem zv4(xs row:.c)(i:Nat):hJ xs row i 0=lU xs row i:=by
 unfold hJ lU;refine Vv λw _=>?_
 by_cases z:aI xs w<i
 ·rw[if_pos z,if_pos z]
 ·rw[if_neg z,if_neg z,if_neg ()]
theorem zzm(xs row:.c)(i:Nat):hJ xs row i xs.length=lU xs row (i+1):=by
 unfold hJ lU;refine Vv λw hw=>?_
 have hw:=wH.mp hw
 by_cases z:aI xs w<i
 ·rw[if_pos z,if_pos ()]
 ·rw[if_neg z]
  by_cases y:aI xs w=i
  ·rw[if_pos ⟨y,hw⟩,if_pos (),y]
  ·rw[if_neg (),if_neg ()]
theorem sW(xs row:.c)(i k:Nat):(hJ xs row i k).length=xs.length:=by simp[hJ]
theorem N0{row:.c}{w:Nat}(hw:w<xs.length):(hJ xs row i k).getD w 0=if aI xs w<i then row.getD (aI xs w) 0 else if aI xs w=i/\w<k then row.getD i 0 else xs.getD w 0:=by
 unfold hJ;rw[wb,wu,vM hw]
 rfl
theorem zyt{row:.c}(hk:k<xs.length)(h:aI xs k=i):hJ xs row i (k+1)=(hJ xs row i k).set k (row.getD i 0):=by
 refine hV (by rw[Wz,sW,sW]) λw hw=>?_
 rw[sW]at hw;rw[N0 hw]
 by_cases e:w=k
 ·subst e
  rw[sv (by rw[sW];exact hw),if_neg (),if_pos ⟨h,by lia⟩]
 ·rw[tW (WI e),N0 hw]
  by_cases z:aI xs w<i
  ·rw[if_pos z,if_pos z]
  ·rw[if_neg z,if_neg z]
   by_cases y:aI xs w=i/\w<k
   ·rw[if_pos y,if_pos ⟨y.1,by lia⟩]
   ·rw[if_neg y,if_neg ()]
theorem zBf{row:.c}(h:aI xs k≠i):hJ xs row i (k+1)=hJ xs row i k:=by
 unfold hJ;refine Vv λw _=>?_
 by_cases z:aI xs w<i
 ·rw[if_pos z,if_pos z]
 ·rw[if_neg z,if_neg z]
  by_cases y:aI xs w=i/\w<k
  ·rw[if_pos y,if_pos ⟨y.1,by lia⟩]
  ·rw[if_neg y,if_neg (λu=>y ⟨u.1,by
    have:=u.2;have:w≠k:=λe=>h (by rw[<- e];exact u.1)
    lia⟩)]
theorem zyz{row:.c}(h:(aj xs).length=n):lU xs row n=(wp xs.length).map λw=>row.getD (aI xs w) 0:=by
 unfold lU;refine Vv λw hw=>?_
 have:=(lS xs).lt w (wH.mp hw);rw[if_pos ()]
theorem zvJ{f:Nat}{left vs:List Rat}(h:gA f left=vs.drop i)(hi:i<vs.length)(hl:left.length<=f):left≠[]/\a_ left=vs.getD i 0 /\ ∃f',(left.filter λy=>!decide (y=a_ left)).length<=f'/\gA f' (left.filter λy=>!decide (y=a_ left))=vs.drop (i+1):=by
 have hd:vs.drop i=vs[i]::vs.drop (i+1):=V5 hi;have ne:left≠[]:=λe=>by rw[e,yj,hd]at h;cases h
 have hp:=WE.mpr ne;obtain⟨f',rfl⟩:∃f',f=f'+1:=⟨f-1,by lia⟩;rw[mO ne,hd]at h
 injection h with h1 h2
 refine⟨ne,by rw[h1,wb,wc hi];rfl,f',?_,h2⟩;have:=zt ne;lia
theorem zt5(h:ai K H us .aP)(k:Is K H u (N x)):ai K H (us++[u]) ((xs++[x]).map N):=by
 rw[w5];exact h.append (.cons k .nil)
theorem zvH(h:ai K H us .aP)(i:Is K H u (N x)):ai K H (us.set k u) ((xs.set k x).map N):=by
 have hl:=h.length;rw[wl]at hl;refine e_ (by rw[Wz,Wz];exact hl) λj v hv=>?_
 rw[W9]at hv
 by_cases e:k=j
 ·subst e
  rw[if_pos rfl]at hv
  by_cases z:k<us.length
  ·rw[if_pos z]at hv
   cases hv;rw[sv ()];exact i
  ·rw[if_neg z]at hv;cases hv
 ·rw[if_neg e]at hv
  rw[tW e];exact(cw h hv).2
theorem zqz(T:.q):jp P w base T.Kc 3 ZQ:=by
 exists T.Kc,["_law_phases","_law_places","_law_found","_law_left","_law_place","_law_high_here","_law_k"],"c2",(ak (ay 2 ii (iS (show bM _ (.type "list") (gc K)from jI) rfl T.h0n h_ (q1 0)))
     (ak (ay 3 ii (iS (show bM _ (.type "list") (gc K)from jI) rfl T.h0n h_ (q1 0)))
     (ak (eA w9 rfl (fC (aD cN (iS (show bM _ (.type "list") (gc K)from jI) rfl T.h0n h_ (q1 1)) (dG (ae (aS .aX) ah)))) (cV (i:=4) ii rfl .y) (ak (ay 5 ii (ao (FK T) hr (q1 3)))
     (ak (eA w9 rfl (fA rfl T.h0j (ae (dE K T.h0o (q1 0)) ah)) (cV (i:=6) ii rfl .y) (au (aY (eX K hu (dD cZ .L (pv 6) .aw) (pv 5)) (au (jH (pv 4) (nR .aV (pv 6) nZ))) aZ)))
     (au (kJ (i:=3) ii rfl .y rfl (cW ["_law_one","_law_high_here"] [none,some 5]) (fC .au) .U (λ_ _ _ _ _=>(mq (iM K hu .L .X))) (λ_ _ _ _ _=>.L))))))
     (au (aB (fi K T.h0i (q1 2)))))))
 obtain@⟨xs,ps,hx',hp',h8,hvl,bx,q⟩:=h;o_head rF (.inr hx') (λlf H1 us1 n1 S1 e1 t1=>?_);o_head rF (.inr (hx'.by S1)) (λl2 H2 us2 n2 S2 e2 t2=>?_);o_head rF (.inl (hp'.by .aM)) (λl3 H3 us3 n3 S3 e3 t3=>?_);o_head dg (r:=0) rfl rfl (λv4 H4 S4 i4=>?_);o_head dN ∅ (λl5 H5 n5 S5 e5=>?_);have hul3:=t3.length;rw[wl]at hul3;have hvx:=iQ xs;refine jQ (S5 _ _ (S4 _ _ e3)) e5 (WH (gW .aL)) (λl6 H6 n6 S6 e6=>?_);have S36:=S4.trans (S5.trans S6);have t6:ai K H6 (us3++[v4]) ((ps++[0]).map N):=zt5 (ai.same S36 _ _ t3) (i4.by (S5.trans S6));have S26:=S3.trans S36;have S16:=S2.trans S26;have ne2:l2≠lf:=λz=>by subst z;rw[e1]at n2;cases n2
 have ne6:l6≠lf:=λz=>by subst z;rw[(S2.trans (S3.trans .aN)) _ _ e1]at n6;cases n6
 have T6:=S1.trans S16;have ef6:=S16 _ _ e1;have tf6:ai K H6 us1 .aP:=ai.same S16 _ _ t1;have el6:=S26 _ _ e2;have tl6:ai K H6 us2 .aP:=ai.same S26 _ _ t2;clear S1 S2 S3 S4 S5 S6 S36 S26 S16 e1 t1 e2 t2 e3 t3 i4 e5 n2 n3 n5 n6;have hrl:(ps++[0]).length=(aj xs).length:=by simp[hvl]
 generalize hrow:ps++[0]=row at *;o_head pS (.of e6) (λi σ H'=>∃(ll:we)(us ws:.x)(left:List Rat)(f:Nat)(o4 o5 o6:.bf),σ = [some x0,some x1,some (.ref lf),some (.ref ll),o4,o5,o6]/\Exc lf H6 H'/\bC H6 H'/\ll≠lf/\H' lf=some (.lst ws)/\ai K H' ws ((lU xs row i).map N)/\H' ll=some (.lst us)/\ai K H' us (left.map N)/\(∀y∈left,y∈xs)/\left.length<=xs.length/\left.length<=f/\gA f left=(aj xs).drop i) ⟨l2,us2,us1,xs,xs.length,_,_,_,rfl,Exc.refl _ _,bC.refl _,ne2,ef6,by rw[zwN];exact tf6,el6,tl6,λy h=>h,wo _,wo _,rfl⟩ (λi σ H' _ h=>by obtain⟨_,_,_,_,_,_,_,_,_,E,_⟩:=h;exact .of (E _ _ ne6 e6)) ?_ ?_
 . rintro i x σ H7 hx hz;obtain⟨ll,us,ws,left,f,o4,o5,o6,rfl,E7,K7,nl,ef,tf,el,tl',sub,hlx,hf,heq⟩:=hz
   obtain⟨hi,ix⟩:=cw t6 hx;have ix7:Is K H7 x (N (row.getD i 0)):=ix.dA K7;obtain⟨he,hmx,f',hf',heq'⟩:=zvJ heq () hf;have hpos:=WE.mpr he
   have bl:∀i,af 4000 (left.getD i 0):=λi=>by
     rcases wE i left.length with z | z
     . exact Hx bx (sub _ (getD_mem z))
     . rw[wb,wN z];exact af.zero.mono ⋯
   have hul:us.length=left.length:=by rw[tl'.length,wl]
   o_head Od.v (.inl (b_ el tl')) hpos bl (λvm im=>?_)
   . skip
     rw[<- zv4]at tf;o_head zx ((hx'.by T6).gD K7 (nX _)) ?_;refine iA (n:=(xs.length:Int)) () () (λk σ H8=>∃(ws:.x)(o7:.bf),σ = [some x0,some x1,some (.ref lf),some (.ref ll),some x,some vm,o7]/\Exc lf H7 H8/\bC H7 H8/\H8 lf=some (.lst ws)/\ai K H8 ws ((hJ xs row i k).map N)) ⟨ws,_,rfl,Exc.refl _ _,bC.refl _,ef,tf⟩ ?_ ?_
     . rintro k σ H8 hk hz;obtain⟨ws,o7,rfl,E8,K8,ef8,tf8⟩:=hz
       have hk':k<xs.length:=by simpa using hk
       have hwl:=tf8.length;rw[wl,sW]at hwl;have KX:=K7.trans K8;o_head yY ((hx'.by T6).gD KX (nX _)) () () (λv9 i9=>?_);rw[wD]at i9;have im8:=im.dA K8;have hfl:=y7 (xs:=xs) (w:=k) (c:=i) hk' ();k_few
       . rename_i z
         refine rG (j:=k) ef8 (by unfold gQ;rw[if_pos (),if_pos ()];simp) (λH9 E9 e9=>?_);have K9:=E9.keep ef8;o_head ⟨_,_,rfl,E8.trans E9,K8.trans K9,e9,?_⟩;rw[zyt hk' (hfl.mpr (by rw[z,hmx]))];exact zvH (ai.keep K9 _ _ (eI _) tf8) (ix7.dA (K8.trans K9))
       . rename_i z
         refine⟨_,_,rfl,E8,K8,ef8,?_⟩;rw[zBf (λy=>z (by rw[hmx];exact hfl.mp y))];exact tf8
     . rintro σ H8 hz;obtain⟨ws8,o8,rfl,E8,K8,ef8,tf8⟩:=hz
       rw[wD,zzm]at tf8;have el8:=E8 _ _ nl el;have tl8:ai K H8 us (left.map N):=ai.keep K8 _ _ (eI _) tl';have im8:=im.dA K8;have E68:=E7.trans E8;have K68:=K7.trans K8;clear tf ef E7 K7 E8 K8 el tl' im ix7;generalize a_ left=mxx at *;o_head pR (.of el8) (λD i ys σ' H'=>(∃o,σ'=[o,some vm])/\H8 D=none/\ar H8 H'/\H' D=some (.lst ys)/\ai K H' ys (((left.take i).filter λy=>!decide (y=mxx)).map N)) (λD H' n s e=>⟨⟨_,rfl⟩,n,s,e,.nil⟩) (λD i ys σ' H' h=>h.2.2.1.seq (.of el8)) ?_ ?_
       . rintro D j y ys σ' H9 hy hz;obtain⟨⟨o,rfl⟩,n9,S9,e9,t9⟩:=hz
         obtain⟨hj,iy⟩:=cw tl8 hy;have iy9:=iy.by S9;have im9:=im8.by S9;have hyl:=t9.length;rw[wl]at hyl;have hfl:=vZ (λy=>!decide (y=mxx)) (left.take j);rw[Wi]at hfl;k_few
         . rename_i z
           refine jU e9 () (λH10 E10 e10=>⟨⟨_,rfl⟩,n9,S9.grow n9 E10,e10,?_⟩);have K10:=E10.keep e9;rw[gv hj,Wq,Ww,decide_eq_false z,w5];exact(ai.keep K10 _ _ (eI _) t9).append (.cons (iy9.dA K10) .nil)
         . rename_i z
           refine⟨ys,⟨_,rfl⟩,n9,S9,e9,?_⟩;rw[gv hj,Wq,Ww,decide_eq_true (by first | exact z | exact Wm.mp z)];have:([]:List Rat).filter (λy=>!decide (y=mxx))=[]:=rfl
           simpa using t9
       . rintro D ys σ' H9 hz;obtain⟨_,n9,S9,e9,t9⟩:=hz
         rw[hul,Wj]at t9;o_head ⟨D,ys,ws8,_,f',_,_,_,rfl,E68.trans S9.exc,K68.trans S9.keep,(λz=>by subst z;rw[ef8]at n9;cases n9),S9 _ _ ef8,ai.same S9 _ _ tf8,e9,t9,λy hy=>sub y (wZ.mp hy).1,?_,hf',heq'⟩;have:=vZ (λy=>!decide (y=mxx)) left;lia
 . rintro σ H7 hz;obtain⟨ll,us,ws,left,f,o4,o5,o6,rfl,E7,K7,nl,ef,tf,el,tl',sub,hlx,hf,heq⟩:=hz
   rw[show(us3++[v4]).length=row.length by rw[t6.length,wl],zyz hrl.symm]at tf;o_head gP (b_ ef tf) (λv H8 S8 i8=>?_);refine q v H8 ((T6.grow n1 E7).trans S8) i8
def ZS(a b:Rat)(xs:.c):wC:=.tuple [N (1-a_ xs),.list ((cK a b xs).map TW),TN (dh a b xs)]
inductive Y9(K:wa)(v w:V)(H:Hp)(Q:VK)(E:XK):Prop|v{W:Nat}(h:Is K H v (R U Z))(k:Is K H w (TN S))(ba:af 10 U)(bb:af 10 Z)(h1:1<=S.length)(h8:S.length<=8)(c:Cm W S)(hm:W+2+21*S.length<=3950)(q:Rs K H Q (ZS U Z S))
theorem zv2 : aC (bN xs) .B=(wp xs.length).filter λw=>decide (xs.getD w 0=a_ xs):=by
 unfold aC;refine vD λw hw=>?_
 have hw:=wH.mp hw;rw[Ii hw];have hle:=G_ (xs:=xs) (xs.getD w 0) (getD_mem hw);generalize xs.getD w 0=x at *;generalize a_ xs=m at *
 by_cases h:x=m
 ·rw[decide_eq_true h,decide_eq_false .aB];rfl
 ·rw[decide_eq_false h,decide_eq_true .aB];rfl
structure zHo(K:wa)(a b:Rat)(xs:.c)(m:Nat)(H H':Hp)(vw:V)(lp lW lv lg:we)(left:List Nat)(ps:.c)(done:.aF)(f:Nat)(pv wv:.x)(gone:.aR):Prop where
 same:ar H H'
 hp:H lp=none
 hv:H lv=none
 iw:Is K H' vw (N (1-a_ xs))
 ky:lp≠lv
 nWp:lW≠lp
 nWv:lW≠lv
 ngp:lg≠lp
 ngv:lg≠lv
 ep:H' lp=some (.lst pv)
 tp:ai K H' pv (ps.map N)
 eW:H' lW=some (.lst (vz .aD))
 ev:H' lv=some (.lst wv)
 tv:ai K H' wv (done.map TW)
 eg:H' lg=some (.lst (vz gone))
 gn:∀w,w<xs.length->(w∈gone ↔ w ∉ left)
 gl:gone.length+left.length<=xs.length
 rg:Rg xs.length left
 len:ps.length=xs.length
 fl:left.length<=f
 dl:done.length+left.length<=xs.length
 cm:Cm (m+2+21*(xs.length-left.length)) ps
 w1:done++(de a b f ps left).1=cK a b xs
 w2:(de a b f ps left).2=(ee a b xs).2
def OX(K:wa)(a b:Rat)(xs:.c)(m:Nat)(H:Hp)(x0 x1 vm vw:V)(lp lv:we)(k:Nat)(σ':L2.St)(H':Hp):Prop:=∃(lW lg:we)(left:List Nat)(ps:.c)(done:.aF)(f:Nat)(pv wv:.x)(gone:.aR)(o8 o9:.bf),σ'=[some x0,some x1,some vm,some vw,some (.ref lp),some (.ref lW),some (.ref lv),some (.ref lg),o8,o9]/\k=left.length/\zHo K a b xs m H H' vw lp lW lv lg left ps done f pv wv gone
theorem lX{o:HO}(h:H p=none)(k:H q=some o):p≠q:=λe=>by rw[e,k]at h;cases h
theorem zDy(h:i∈left):(wp (i+1)).filter (λw=>decide (w∈left))=(wp i).filter (λw=>decide (w∈left))++[i]:=by
 rw[lP (n:=i),if_pos (decide_eq_true h)]
theorem zDT(h:i ∉ left):(wp (i+1)).filter (λw=>decide (w∈left))=(wp i).filter (λw=>decide (w∈left)):=by
 rw[lP (n:=i),if_neg (by simpa using h),vS]
theorem zvb(T:.q):jp P w base T.LU 4 Y9:=by
 exists T.LU,["_law_rule","_law_phases","_law_high_here","_law_wait","_law_now","_law_wave","_law_waves","_law_gone","_law_often","_law_k"],"c2",(ak (ay 2 ii (ao (FK T) hr (q1 1)))
     (ak (ay 3 ii (ao (mw T) hr (ae (aS .aX) (q1 2))))
     (ak (ay 4 ii (d4 rfl (cW ["_law_one","_law_wait"] [none,some 3]) (kf .X) .U .an (λ_ _ _ _ _=>(ao (jb T:) hr (q2 0 1)))))
     (ak (kJ (i:=5) ii rfl .y rfl (cW ["_law_k","_law_high_here","_law_phases"] [none,some 2,some 1]) (fA rfl T.h0j (ae (dE K T.h0o (q1 4)) ah)) .U (λ_ _ _ _ _=>(mq (eX K hu (dD (show fX _ (du K)from cZ) .aV .L .aw) .X))) (λ_ _ _ _ _=>.L))
     (ak (ay 6 ii (dG ah))
     (ak (ay 7 ii (dG ah))
     (ak (m4 w9 (iM K hu (pv 5) (dG ah)) (ak (jK (i_ vP vU vV jh (pv 6) (ae (fi K T.h0i (q1 5)) ah)))
     (ak (ay 7 ii (aD cN (pv 7) (pv 5)))
     (ak (ay 8 ii (ao (Tp T) hr (ae .L (ae (dE K T.h0o (q1 5)) ah))))
     (ak (eA w9 rfl (fA rfl T.h0j (ae (dE K T.h0o (q1 1)) ah)) (cV (i:=9) ii rfl .y) (au (aY (dP (show bL _ (vG .NotIn) (gu K true)from sF) (pv 9) (pv 7) .ae) (au (jH (ao (jb T) hr (ae (ao (lF T) hr (ae (qi 8) (ae (dD cZ (pv 4) (pv 9) .aw) ah))) (ae (qi 8) ah))) (nR (pv 4) (pv 9) nZ))) aZ)))
     (au (kJ (i:=5) ii rfl .y rfl (cW ["_law_k","_law_gone","_law_now"] [none,some 7,some 4]) (fA rfl T.h0j (ae (dE K T.h0o (q1 4)) ah)) .U (λ_ _ _ _ _=>(mq (PW.pt (tU (dP (show bL _ (vG .NotIn) (gu K true)from sF) .L .X .ae) (yn (cR (cz (ao (yc T:) hr (ae (dD (show fX _ (du K)from cZ) .aV .L .aw) (ae (show PE _ _ (mf K _)from aS .aX) ah)))))))))) (λ_ _ _ _ _=>.L))))))))
     (au (aB (aS (ae .au (ae (pv 6) (ae (fi K T.h0i (ae (d4 rfl (cW ["_law_k","_law_gone","_law_now"] [none,some 7,some 4]) (fA rfl T.h0j (ae (dE K T.h0o (q1 4)) ah)) .U .an (λ_ _ _ _ _=>by exact(tI (dP (show bL _ (vG .In) (gu K false)from zAR) .L .X .ae) (show PE _ _ (mf K _)from aS .aX) (dD (show fX _ (du K)from cZ) .aV .L .aw)))) ah)) ah)))))))))))))
 obtain@⟨ra,rb,xs,m,hr',hx',ba,bb,h1,h8,cm,hm,q⟩:=h;have bx:∀i,af 4000 .ai:=λi=>(cm.get i).mono ()
 have bm:af 3950 (a_ xs):=(cm.d6 (f_ h1)).mono ();o_head Od.v (.inr hx') h1 bx (λvm im=>?_);o_head dg (r:=1) rfl rfl .bD;o_head zn2.v i1 (im.by S1) af.one bm ⋯ (λvw H2 S2 iw=>?_);have T2:=S1.trans S2;have im2:=im.by T2;obtain⟨ap,us,rfl,hu0,tu0⟩:=bY.mp hx';have hu:=T2.j_ hu0;have tu:ai K H2 us .aP:=ai.same T2 _ _ tu0;o_head jz (o0:=none) (tl:=[some vw]) hu rfl (λj y H'=>Is K H' y (N ((bN xs).getD j 0))) ?_ ?_
 . intro D i x ys o H3 hx inv
   obtain⟨hi,ix⟩:=cw tu hx;have S3:=inv.same;have ix2:=ix.by S3;have iw2:=iw.by S3;have bi:=bx i;have bw:af 3952 (1-a_ xs):=(af.one.sub bm).mono ⋯;k_few;rename_i v4 H4 S4 i4;exact d_ inv () eS ⟨_,rfl⟩ S4 (by rw[Ii hi];exact i4)
 . intro lp ys H3 hnp S3 hD hl hr
   have hl':ys.length=(bN xs).length:=by rw[hl,tu.length,wl,fo]
   have tp:ai K H3 ys ((bN xs).map N):=e_ hl' hr;have iw3:=iw.by S3;have im3:=im2.by S3;have T3:=T2.trans S3;have hpH:H lp=none:=fK T2 hnp;have hx3:=hx'.by T3;clear hl hr hu tu iw S1 S2 S3 hnp i1 im2 im T2;have jX:Cm (m+2) (bN xs):=(Cm.rise (h:=0) (cm.gI (ys:=0::xs) λy hy=>by rcases wG.mp hy with rfl | hy;(exact .inr rfl);exact .inl hy) (f_ h1)).gI λy hy=>.inl (wt _ hy)
   o_head zo (b_ hD tp) ?_;rw[fo];o_head Bt (n:=(xs.length:Int)) () () (λD i ys σ' H'=>(∃o,σ'=[o,some vm,some (.ref ap)])/\H3 D=none/\ar H3 H'/\H' D=some (.lst (vz ((wp i).filter λw=>decide (xs.getD w 0=a_ xs))))) (λD H' n s e=>⟨⟨_,rfl⟩,n,s,e⟩) ?_ ?_
   . rintro D i zs σ' H4 hi hz;obtain⟨⟨o,rfl⟩,n4,S4,e4⟩:=hz
     have hi':i<xs.length:=by simpa using hi
     have hfl:((wp i).filter λw=>decide (xs.getD w 0=a_ xs)).length<=i:=by
       have:=vZ (λw=>decide (xs.getD w 0=a_ xs)) (wp i);rw[vi]at this;exact this
     have hx4:=hx3.by S4;have im4:=im3.by S4;o_head yY hx4 () () (λv5 i5=>?_);rw[wD]at i5;generalize hmx:a_ xs=mxx at *;k_few
     . rename_i z
       refine jU e4 (by rw[hZ];lia) (λH8 E8 e8=>⟨⟨_,rfl⟩,n4,S4.grow n4 E8,?_⟩);rw[lP (n:=i),if_pos (decide_eq_true z),tT];exact e8
     . rename_i z
       refine⟨[],⟨_,rfl⟩,n4,S4,?_⟩;rw[lP (n:=i),if_neg (by simpa using z),vS];exact e4
   . rintro lW zs σ' H4 hz;obtain⟨_,n4,S4,e4⟩:=hz
     rw[wD,<- zv2]at e4;o_head dN ∅ (λlv H5 n5 S5 e5=>?_);o_head dN ∅ (λlg H6 n6 S6 e6=>?_);have S46:=S4.trans (S5.trans S6)
     have G0:OX K ra rb xs m H x0 (.ref ap) vm vw lp lv xs.length [some x0,some (.ref ap),some vm,some vw,some (.ref lp),some (.ref lW),some (.ref lv),some (.ref lg),none,none] H6:=by
       refine⟨lW,lg,wp xs.length,bN xs,[],xs.length,ys,[],[],none,none,rfl,by rw[vi],T3.trans S46,hpH,fK (T3.trans S4) n5,iw3.by S46,(lX n5 (S4 _ _ hD)).symm,lX n4 hD,(lX n5 e4).symm,lX n6 (S5 _ _ (S4 _ _ hD)),lX n6 e5,S46 _ _ hD,ai.same S46 _ _ tp,S6 _ _ (S5 _ _ e4),S6 _ _ e5,.nil,e6,λw hw=>⟨λz=>(by cases z),λz=>absurd (wH.mpr hw) z⟩,by rw[vi];simp,Rg.range _,fo xs,by rw[vi];exact wo _,by rw[vi];simp,jX.mono (),?_,rfl⟩;rw[qT];rfl
     clear S46 S6 S5 S4 e6 e5 e4 n4 n5 n6 hD tp iw3 im3 hx3 jX hpH T3 hl';o_head rf (OX K ra rb xs m H x0 (.ref ap) vm vw lp lv) _ G0 ?_;clear G0;rintro k σ' H6 hz;obtain⟨lW,lg,left,ps,done,f,pv,wv,gone,o8,o9,rfl,hk,G⟩:=hz;have bp:∀i,af 3950 (ps.getD i 0):=λi=>(G.cm.get i).mono (by have:=G.dl;lia)
     have hdl:=G.dl;o_head dN ∅ (λle H7 n7 S7 e7=>?_);refine zEQ (S7 _ _ G.eW) e7 ?_;have T7:=G.same.trans S7;have ep7:=S7 _ _ G.ep;have ev7:=S7 _ _ G.ev;have eg7:=S7 _ _ G.eg;have eW7:=S7 _ _ G.eW;have iw7:=G.iw.by S7;have tp7:ai K H7 pv (ps.map N):=ai.same S7 _ _ G.tp;have tv7:ai K H7 wv (done.map TW):=ai.same S7 _ _ G.tv;have hps:=G.len;have hpvl:=tp7.length;rw[wl]at hpvl;clear n7 e7 S7
     by_cases he:aC ps left=[]
     . rw[decide_eq_false (by simpa using he)]
       have w1:=G.w1;have w2:=G.w2;rw[ou he]at w1 w2;rw[vS]at w1;have eps:ps=(ee ra rb xs).2.2:=congrArg uw w2;have elf:left=(ee ra rb xs).2.1:=congrArg uv w2;have hph:zev left ps=dh ra rb xs:=by rw[dh,<- eps,<- elf]
       o_head zo (b_ ep7 tp7) ?_;rw[hps];o_head P7 (n:=(xs.length:Int)) () () (o0:=none) (tl:=[some (.ref lg),some (.ref lp)]) rfl (λj y H'=>Is K H' y (N ((zev left ps).getD j 0))) ?_ ?_
       . intro D i zs o H8 hi inv
         have hi':i<xs.length:=by simpa using hi
         have S8:=inv.same;o_head RF (aE.of (S8 _ _ eg7)) ?_;have hg:=G.gn i hi';k_few
         . rename_i z
           refine dg (r:=0) rfl rfl (λv9 H9 S9 i9=>?_);exact d_ inv () eS ⟨_,rfl⟩ S9 (by rw[mT (),if_neg (hg.mp z)];exact i9)
         . rename_i z
           refine gY (b_ (S8 _ _ ep7) (ai.same S8 _ _ tp7)) () () (λv9 i9=>?_);rw[wD]at i9;exact d_ inv () eS ⟨_,rfl⟩ .ax (by rw[mT (),if_pos (by exact Wm.mp λy=>z (hg.mpr y))];exact i9)
       . intro D zs H8 hn8 S8 hD8 hl8 hr8
         have tz:ai K H8 zs ((zev left ps).map N):=e_ (by rw[hl8,IC];lia) hr8;rw[hph]at tz;have tv8:=ai.same S8 _ _ tv7;have ev8:=S8 _ _ ev7;rw[w1]at tv8;o_head gP (b_ hD8 tz) (λv9 H9 S9 i9=>?_);o_head cJ (ds:=[N (1-a_ xs),.list ((cK ra rb xs).map TW),TN (dh ra rb xs)]) ∅ (.cons (iw7.by (S8.trans S9)) (.cons (cq.mpr ⟨lv,wv,rfl,.of (S9 _ _ ev8),ai.same S9 _ _ tv8⟩) (.cons i9 .nil))) (λv10 H10 S10 i10=>?_);exact q v10 H10 (T7.trans (S8.trans (S9.trans S10))) i10
     . rw[decide_eq_true he]
       o_head pY ?_;have hwl:=tv7.length;rw[wl]at hwl;have hlen:=Bp ps left;have hgl:=G.gl;have hpos:0<(aC ps left).length:=WE.mpr he;o_head gU (aE.of ev7) ?_;o_head yk (.of eW7) (λlt H8 n8 S8 e8=>?_);have it8:Is K H8 (.ref lt) (TW .aD):=zE.mpr ⟨lt,rfl,.of e8⟩;k_few;have ev8:=S8 _ _ ev7;refine iI ev8 () (λH9 E9 e9=>?_);have K9:bC H8 H9:=E9.keep ev8;have T9:ar H H9:=(T7.trans S8).grow G.hv E9;have ep9:=E9 _ _ G.ky (S8 _ _ ep7);have eg9:=E9 _ _ G.ngv (S8 _ _ eg7);have eW9:=E9 _ _ G.nWv (S8 _ _ eW7);have KK:=S8.keep.trans K9;have tp9:ai K H9 pv (ps.map N):=ai.keep KK _ _ (eI _) tp7;have iw9:=iw7.dA KK
       have tv9:ai K H9 (wv++[.ref lt]) ((done++[aC ps left]).map TW):=by
         rw[w5];exact(ai.keep KK _ _ (pP _) tv7).snoc (it8.gD K9 (zB _))
       clear ep7 ev7 eg7 eW7 iw7 tp7 tv7 T7 it8 ev8 e8 KK;o_head jQ eg9 eW9 (WH (gW (by rw[hZ,hZ];lia))) (λlg2 H10 n10 S10 e10=>?_);rw[show vz gone++vz .aD=vz (gone++aC ps left) by unfold vz;rw[w5]]at e10;o_head gE (aE.of (S10 _ _ eW9)) ?_;rw[hZ];o_head U0.v rfl (hr'.by (T9.trans S10)) ba bb () () (λvpush H11 S11 ipush=>?_);rw[wD]at ipush;have bf:af 90 .aS:=(ba.pow _).mono ();have bg:af 1500 .ah:=(ba.az bb _).mono ();have T11:=S10.trans S11;have ep11:=T11 _ _ ep9;have tp11:ai K H11 pv (ps.map N):=ai.same T11 _ _ tp9;have eg11:=S11 _ _ e10;have ev11:=T11 _ _ e9;have iw11:=iw9.by T11;have tv11:ai K H11 (wv++[.ref lt]) ((done++[aC ps left]).map TW):=ai.same T11 _ _ tv9;have rg':=G.rg.bV .aD;have ndl:=rg'.nodup;have ltl:=rg'.lt;have nGp:lg2≠lp:=lX n10 ep9;have nGv:lg2≠lv:=lX n10 e9
       have gn':∀w,w<xs.length->(w∈gone++aC ps left ↔ w ∉ bV left .aD):=λw hw=>by
         have:=G.gn w hw;rw[Wc,this];unfold bV;rw[wZ]
         by_cases z1:w∈left<;>by_cases z2:w∈aC ps left<;>simp[z1,z2]
       have TT:=T9.trans T11;have hx11:=hx'.by TT;generalize hL:bV left .aD=left' at *;clear S10 S11 T9 T11 ep9 tp9 e10 e9 iw9 tv9 eg9 eW9 n10;o_head zx hx11 ?_;refine iA (n:=(xs.length:Int)) () () (λi σ'' H''=>∃o pv',σ''=[some x0,some (.ref ap),some vm,some vw,some (.ref lp),some (.ref lW),some (.ref lv),some (.ref lg2),some vpush,o]/\Exc lp H11 H''/\H'' lp=some (.lst pv')/\ai K H'' pv' ((cT .aS .ah ps ((wp i).filter λw=>decide (w∈left'))).map N)) ⟨_,pv,rfl,Exc.refl _ _,ep11,tp11⟩ ?_ ?_
       . rintro i σ'' H12 hi hz;obtain⟨o,pv',rfl,E12,e12,t12⟩:=hz
         have hi':i<xs.length:=by simpa using hi
         have K12:bC H11 H12:=E12.keep ep11;have hpl:=iB .aS .ah ((wp i).filter λw=>decide (w∈left')) ps;have hgi:=gn' i hi';o_head Px (aE.of (E12 _ _ nGp eg11)) ?_;k_few
         . rename_i z v13 i13
           have hin:i∈left':=Wm.mp λy=>z (hgi.mpr y)
           have bq:af 3950 ((cT .aS .ah ps ((wp i).filter λw=>decide (w∈left'))).getD i 0):=by
             rw[jF _ _ _ _ (W3.filter _) (λw hw'=>by rw[hps];exact ltl w (of_decide_eq_true (wZ.mp hw').2)),if_neg]
             . exact bp _
             . intro hm
               have:=wH.mp (wZ.mp hm).1;lia
           have ip12:=ipush.gD K12 (BB _ _);generalize hqs:cT .aS .ah ps ((wp i).filter λw=>decide (w∈left'))=qs at *;generalize hfa:ra^(aC ps left).length=fa at *;generalize hgb:az ra rb (aC ps left).length=gb at *;have bpr:af 4040 (fa*qs.getD i 0):=(bf.mul bq).mono ⋯;refine gY (b_ e12 t12) () () (λv14 i14=>?_);rw[wD]at i14;k_few;rename_i v15 H15 S15 i15 v16 i16 v17 H17 S17 i17;have S17':=S15.trans S17;have e17:=S17' _ _ e12;have hvl:=t12.length;rw[wl]at hvl;refine rG (j:=i) e17 (by unfold gQ;rw[if_pos (),if_pos ()];simp) (λH18 E18 e18=>?_);refine⟨_,_,rfl,E12.trans (S17'.exc.trans E18),e18,?_⟩;have K18:=E18.keep e17;rw[zDy hin,OG,hqs];refine e_ (by rw[Wz,Wz];exact hvl) (λj v hj=>?_);rw[W9]at hj
           by_cases hjw:i=j
           . subst hjw
             rw[if_pos rfl,if_pos ()]at hj;cases hj;rw[sv ()];exact i17.dA K18
           . rw[if_neg hjw]at hj
             rw[tW hjw];obtain⟨_,ij⟩:=cw t12 hj;exact(ij.by S17').dA K18
         . rename_i z
           have hout:i ∉ left':=hgi.mp (by first | exact z | exact Wm.mp z);refine⟨_,pv',rfl,E12,e12,?_⟩;rw[zDT hout];exact t12
       . rintro σ'' H12 hz;obtain⟨o,pv',rfl,E12,e12,t12⟩:=hz
         rw[wD,<- show left'=(wp xs.length).filter (λw=>decide (w∈left'))from rg']at t12;have K12:bC H11 H12:=E12.keep ep11
         have cm12:Cm (m+2+21*(xs.length-left'.length)) (cT .aS .ah ps left'):=by
           have c0:Cm (m+2+21*(xs.length-left.length)) (0::ps):=G.cm.gI λy hy=>by rcases wG.mp hy with rfl | hy;(exact .inr rfl);exact .inl hy
           exact((c0.wave ba bb (aC ps left).length ndl (λw hw'=>by rw[hps];exact ltl w hw')).gI λy hy=>.inl (wt _ hy)).mono ()
         have hpl:=iB .aS .ah left' ps;have w1:=G.w1;have w2:=G.w2;have hfl:=G.fl;obtain⟨f',rfl⟩:∃f',f=f'+1:=⟨f-1,by lia⟩;rw[jP he,hL]at w1 w2;generalize hqs:cT .aS .ah ps left'=qs at *;have hends:=rg'.ends qs;have bq:∀i,af 3950 (qs.getD i 0):=λi=>(cm12.get i).mono ()
         have eg12:=E12 _ _ nGp eg11;have ev12:=E12 _ _ G.ky.symm ev11;have TX:=TT.grow G.hp E12;have hvl:=t12.length;rw[wl]at hvl;o_head zo (b_ e12 t12) ?_;rw[hpl,hps];o_head Bt (n:=(xs.length:Int)) () () (λD i ys σ' H'=>(∃o,σ'=[o,some (.ref lg2),some (.ref lp)])/\H12 D=none/\ar H12 H'/\H' D=some (.lst (vz ((wp i).filter λw=>decide (w∈left') && !decide (qs.getD w 0<1))))) (λD H' n s e=>⟨⟨_,rfl⟩,n,s,e⟩) ?_ ?_
         . rintro D i zs σ' H13 hi hz;obtain⟨⟨o,rfl⟩,n13,S13,e13⟩:=hz
           have hi':i<xs.length:=by simpa using hi
           have hfl2:((wp i).filter λw=>decide (w∈left') && !decide (qs.getD w 0<1)).length<=i:=by
             have:=vZ (λw=>decide (w∈left') && !decide (qs.getD w 0<1)) (wp i);rw[vi]at this;exact this
           have hgi:=gn' i hi';have bqi:=bq i;o_head Px (aE.of (S13 _ _ eg12)) ?_;k_few
           . rename_i z
             have hin:i∈left':=Wm.mp λy=>z (hgi.mpr y)
             refine gY (b_ (S13 _ _ e12) (ai.same S13 _ _ t12)) () () (λv14 i14=>?_);rw[wD]at i14;o_head dg (r:=1) rfl rfl (λv15 H15 S15 i15=>?_);have i14:=i14.by S15;have e15:=S15 _ _ e13;k_few
             . rename_i z2
               refine jU e15 (by rw[hZ];lia) (λH16 E16 e16=>⟨⟨_,rfl⟩,n13,(S13.trans S15).grow n13 E16,?_⟩);rw[lP (n:=i),if_pos,tT]
               . exact e16
               . rw[decide_eq_true hin,decide_eq_false z2];rfl
             . rename_i z2
               refine⟨[],⟨_,rfl⟩,n13,S13.trans S15,?_⟩;rw[lP (n:=i),if_neg,vS]
               . exact e15
               . rw[decide_eq_true hin,decide_eq_true (show qs.getD i 0<1 by first | exact z2 | exact Wm.mp z2)];simp
           . rename_i z
             have hout:i ∉ left':=hgi.mp (by first | exact z | exact Wm.mp z);refine⟨[],⟨_,rfl⟩,n13,S13,?_⟩;rw[lP (n:=i),if_neg,vS]
             . exact e13
             . rw[decide_eq_false hout];simp
         . rintro lW2 zs σ' H13 hz;obtain⟨_,n13,S13,e13⟩:=hz
           rw[wD,<- hends]at e13;o_head ⟨left'.length,by lia,lW2,lg2,left',qs,done++[aC ps left],f',pv',wv++[V.ref lt],gone++aC ps left,_,_,rfl,rfl,?_⟩;have KA:=K12.trans S13.keep;exact⟨TX.trans S13,G.hp,G.hv,iw11.dA KA,G.ky,lX n13 e12,lX n13 ev12,nGp,nGv,S13 _ _ e12,ai.same S13 _ _ t12,e13,S13 _ _ ev12,ai.keep KA _ _ (pP _) tv11,S13 _ _ eg12,gn',by rw[wL];lia,rg',by rw[hpl];exact hps,by lia,by rw[wL];simp;lia,cm12,by rw[Vo];exact w1,w2⟩
def R_(xs:.c):wC:=.tuple [LZ .aI,LN .bC]
theorem Rr(xs:.c)(v:Rat):(fc xs v).length=xs.count v:=by
 have e:(wp xs.length).map (λw=>xs.getD w 0)=xs:=by
  refine hV ∅ λi hi=>?_
  rw[wl,vi]at hi;rw[wb,wu,vM hi]
  rfl
 have:xs.count v=((wp xs.length).map (λw=>xs.getD w 0)).count v:=by rw[e]
 rw[this];unfold fc List.count;rw[uV,<- Q2];refine List.countP_congr λw _=>?_
 simp
def Ej(xs ds:.c):List Int:=ds.map λv=>((fc xs v).length:Int)
inductive O9(K:wa)(v:V)(H:Hp)(Q:VK)(E:XK):Prop|v(h:Is K H v (LN U)\/Is K H v (TN U))(h1:1<=U.length)(h8:U.length<=8)(b:∀Z,af 4000 (U.getD Z 0))(q:Rs K H Q (R_ U))
theorem Pc(T:.q):io P w base T.CQ 3 O9:=by
 exists T.CQ,["_law_phases","_law_left","_law_sizes","_law_found","_law_high_here"],"c1",(ak (ay 1 ii (iS (show bM _ (.type "list") (gc K)from jI) rfl T.h0n h_ (q1 0)))
     (ak (ay 2 ii (dG ah))
     (ak (ay 3 ii (dG ah))
     (ak (m4 w9 (iM K hu .X (dG ah)) (ak (ay 4 ii (ao (FK T) hr (q1 1)))
     (ak (jK (i_ vP vU vV jh .aV (ae (i_ vP Qm PySem.F.type_list_count (show HG _ "list.count" (Ei K)from zy5 hu) .X (q1 4)) ah)))
     (ak (jK (i_ vP vU vV jh .au (q1 4)))
     (au (kJ (i:=1) ii rfl .y rfl (cW ["_law_one","_law_high_here"] [none,some 4]) (fC .X) .U (λ_ _ _ _ _=>(mq (iM K hu .L .X))) (λ_ _ _ _ _=>.L)))))))
     (au (aB (aS (ae .aV (ae (mX mZ .au mD (mh (gy gC av))) ah)))))))))
 obtain@⟨xs,hx,h1,h8,bx,q⟩:=h;k_few
 have fstL:∀{Q':VK},(∀ll H' us,H ll=none->ar H H'->H' ll=some (.lst us)->ai K H' us .aP->Q' (.ref ll) H')->gc K [x0] H Q':=λq'=>by
   rcases hx with h | h
   . exact EC h (λl H' ys n S e t=>q' l H' ys n S e t)
   . exact rV h (λl H' ys n S e t=>q' l H' ys n S e t)
 refine fstL (λll H1 us n1 S1 e1 t1=>?_);o_head dN ∅ (λls H2 n2 S2 e2=>?_);have nls:ll≠ls:=λz=>by subst z;rw[e1]at n2;cases n2
 o_head dN ∅ (λlf H3 n3 S3 e3=>?_);have e23:=S3 _ _ e2;have nlf:ll≠lf:=λz=>by subst z;rw[S2 _ _ e1]at n3;cases n3
 have nsf:ls≠lf:=λz=>by subst z;rw[e2]at n3;cases n3
 have ns0:H ls=none:=fK S1 n2;have nf0:H lf=none:=fK S1 (fK S2 n3);have S03:=S1.trans .bF;o_head rf (λm σ' H'=>∃(ll:we)(left done:List Rat)(us ws:.x)(f:Nat)(o4:.bf),σ'=[some x0,some (.ref ll),some (.ref ls),some (.ref lf),o4]/\m=left.length/\ar H H'/\ll≠ls/\ll≠lf/\H' ls=some (.lst ((Ej xs done).map V.int))/\H' lf=some (.lst ws)/\ai K H' ws (done.map N)/\H' ll=some (.lst us)/\ai K H' us (left.map N)/\(∀y∈left,y∈xs/\left.count y=xs.count y)/\left.length<=f/\done.length+left.length<=xs.length/\done++gA f left=aj xs) _ ⟨ll,xs,[],us,[],xs.length,_,rfl,rfl,S03,nls,nlf,e23,e3,.nil,(S2.trans S3) _ _ e1,ai.same .bF _ _ t1,λy h=>⟨h,rfl⟩,wo _,by simp,rfl⟩ ?_;rintro m σ' H4 hz;obtain⟨ll,left,done,us,ws,f,o4,rfl,rfl,S4,nls,nlf,es,et,tt',el,tl',sub,hf,hdl,heq⟩:=hz;o_head dN ∅ (λl5 H5 n5 S5 e5=>?_);have el5:=S5 _ _ el;have et5:=S5 _ _ et;have es5:=S5 _ _ es;have tl5:ai K H5 us (left.map N):=ai.same S5 _ _ tl';have tt5:ai K H5 ws (done.map N):=ai.same S5 _ _ tt'
 refine zCf (b_ el5 tl5) (cq.mpr ⟨l5,[],rfl,.of e5,.nil⟩) (n:=4) (F7 λd hd=>by
   obtain⟨x,_,rfl⟩:=wQ.mp hd;exact(pQ x).mono ⋯) ⋯ ?_
 have hwl:=tt5.length;rw[wl]at hwl;rw[show(!(left.map N).isEmpty) = !left.isEmpty by cases left<;>rfl]
 by_cases he:left=[]
 . rw[show(!left.isEmpty)=false by rw[he];rfl]
   rw[he,yj,vS]at heq;subst heq;o_head oz (b_ et5 tt5) (λl6 H6 us6 n6 S6 e6 t6=>?_);rw[B8,<- Qs]at t6;o_head cJ (ds:=[LZ .aI,LN .bC]) ∅ (.cons (zGB (S6 _ _ es5)) (.cons (b_ e6 t6) .nil)) (λv7 H7 S7 i7=>?_);exact q v7 H7 (S4.trans (S5.trans (S6.trans S7))) i7
 . rw [show (!left.isEmpty) = true by cases left with
       | nil=>exact absurd rfl he
       | cons y l=>rfl]
   have hpos:=WE.mpr he
   have bl:∀i,af 4000 (left.getD i 0):=λi=>by
     rcases wE i left.length with z | z
     . exact Hx bx (sub _ (getD_mem z)).1
     . rw[wb,wN z];exact af.zero.mono ⋯
   obtain⟨f',rfl⟩:∃f',f=f'+1:=⟨f-1,by lia⟩;rw[mO he]at heq;have hless:=zt he;have hcx:=(sub _ (f_ hpos)).2;o_head pY ?_;o_head Od.v (.inl (b_ el5 tl5)) hpos bl (λvm im=>?_);o_head gU (aE.of es5) ?_;o_head gU (aE.of el5) ?_;o_head zys el5 tl5 im ?_;rw[hcx,<- Rr];o_head iI es5 (by rw[wl,Ej,wl];lia) (λH6 E6 e6=>?_);have K6:=E6.keep es5;have el6:=E6 _ _ nls el5;have et6:=E6 _ _ (WI nsf) et5;have im6:=im.dA K6;o_head gU (aE.of et6) ?_;o_head iI et6 () (λH7 E7 e7=>?_);have K7:=E7.keep et6;have el7:=E7 _ _ nlf el6;have es7:=E7 _ _ nsf e6;have im7:=im6.dA K7;have tl7:ai K H7 us (left.map N):=ai.keep (K6.trans K7) _ _ (eI _) tl5
   have tt7:ai K H7 (ws++[vm]) ((done++[a_ left]).map N):=by
     rw[w5];exact(ai.keep (K6.trans K7) _ _ (eI _) tt5).snoc im7
   have S7:ar H H7:=((S4.trans S5).grow ns0 E6).grow nf0 E7;generalize hmx:a_ left=mxx at *;o_head pR (.of el7) (λD i ys σ' H'=>(∃o,σ'=[o,some vm])/\H7 D=none/\ar H7 H'/\H' D=some (.lst ys)/\ai K H' ys (((left.take i).filter λy=>!decide (y=mxx)).map N)) (λD H' n s e=>⟨⟨_,rfl⟩,n,s,e,.nil⟩) (λD i ys σ' H' h=>h.2.2.1.seq (.of el7)) ?_ ?_
   . rintro D i x ys σ' H8 hx hz;obtain⟨⟨o,rfl⟩,n8,S8,e8,t8⟩:=hz
     obtain⟨hi,ix⟩:=cw tl7 hx;have ix8:=ix.by S8;have im8:=im7.by S8;have hyl:=t8.length;rw[wl]at hyl;have hfl:=vZ (λy=>!decide (y=mxx)) (left.take i);rw[Wi]at hfl;k_few
     . rename_i z
       refine jU e8 () (λH9 E9 e9=>⟨⟨_,rfl⟩,n8,S8.grow n8 E9,e9,?_⟩);have K9:=E9.keep e8;rw[gv hi,Wq,Ww,decide_eq_false z,w5];exact(ai.keep K9 _ _ (eI _) t8).append (.cons (ix8.dA K9) .nil)
     . rename_i z
       refine⟨ys,⟨_,rfl⟩,n8,S8,e8,?_⟩;rw[gv hi,Wq,Ww,decide_eq_true (by first | exact z | exact Wm.mp z)];have:([]:List Rat).filter (λy=>!decide (y=mxx))=[]:=rfl
       simpa using t8
   . rintro D ys σ' H8 hz;obtain⟨_,n8,S8,e8,t8⟩:=hz
     have hul:=tl7.length;rw[wl]at hul;rw[hul,Wj]at t8;o_head ⟨(left.filter λy=>!decide (y=mxx)).length,by lia,D,_,done++[mxx],ys,ws++[vm],f',_,rfl,rfl,S7.trans S8,(λz=>by subst z;rw[es7]at n8;cases n8),(λz=>by subst z;rw[e7]at n8;cases n8),?_,S8 _ _ e7,ai.same S8 _ _ tt7,e8,t8,λy hy=>?_,by lia,by rw[wL];simp only[vX];lia,by rw[Vo];exact heq⟩
     . have e:=S8 _ _ es7
       unfold Ej at e ⊢;rw[w5,w5];exact e
     . obtain⟨hy1,hy2⟩:=wZ.mp hy
       have:=sub y hy1;exact⟨this.1,by rw[List.count_filter (p:=λy=>!decide (y=mxx)) hy2];exact this.2⟩
theorem Cm.Nq{m:Nat}{h:Rat}{xs:.c}{a b:Rat}{ns:.p}(c:Cm m (h::xs))(ba:af 10 a)(bb:af 10 b):∀k,k<=ns.length->Cm (m+2*k+21*upTo ns k) ((h+dW a b ns xs k)::aP a b ns xs k)
 | 0,_=>by
  have e:h+dW a b ns xs 0=h:=by rw[dW];grind
  rw[e];exact c.mono ()
 | k+1,hk=>by
  have:=(Cm.Nq c ba bb (ns:=ns) k ()).Nl ba bb (ns.getD k 0).toNat k;have e:h+dW a b ns xs (k+1)=h+dW a b ns xs k+(1-(aP a b ns xs k).getD k 0):=by rw[dW];grind
  rw[aP,e];refine this.mono ?_;rw[pf ()];lia
theorem zA3{a:Rat}(hl:.z)(hn:∀n∈ns,0<=n)(k:Nat):cF a b ns (aX a b ns k xs)=aX a b ns (k+1) xs:=by
 rw[<- nT (by rw[bZ];exact hl) hn,pU]
theorem PC{a b:Rat}{ns:.p}{xs:.c}{m:Nat}(ok:.aH)(sz:cQ ns)(hl:.z)(c:.bB):∀k,Cm (m+184*k) (ik a b ns xs k::aX a b ns k xs)
 | 0=>by
  rw[kx];refine(c.mono ()).gI λy hy=>?_
  rcases wG.mp hy with rfl | hy
  ·exact .inr rfl
  ·exact .inl hy
 | k+1=>by
  have h8:=sz.bS;have hu:=sz.upTo
  have h1:Cm (m+184*k) (ik a b ns xs k::(aX a b ns k xs++[0])):=(PC ok sz hl c k).gI λy hy=>by
   rcases wG.mp hy with rfl | hy
   ·exact .inl .bn
   ·rcases Wc.mp hy with h | h
    ·exact .inl (wt _ h)
    ·exact .inr (vc.mp h)
  have h2:=(Cm.Nq h1 ok.ba ok.bb (ns:=ns) ns.length .Y).mono (show _<=m+184*(k+1) by lia);refine iP h2 λy hy=>?_
  rcases wG.mp hy with rfl | hy
  ·exact wz ..
  ·rw[<- zA3 hl sz.nn k]at hy
   exact wt _ (Xs _ hy)
theorem HU(a b:Rat)(ns:.p)(xs:.c):fO a b ns xs ns.length=cP a b ns xs:=by
 have h:∀j,fO a b ns xs j=dW a b ns .bi j:=λj=>by
  induction j with
  | zero=>rfl
  | succ j ih=>rw[fO,dW,ih]
 exact h _
theorem O8(A B:Rat)(f:Nat->Rat)(n:Nat):GM.sumTo (λk=>A+f k*B) n=.bm*A+GM.sumTo f n*B:=by
 rw[Eh,znH]
 congr 1
 rw[qh (GM.sumTo f n) B,<- zA];exact oh n λk _=>qh ..
theorem ZW:∀n:Nat,GM.sumTo (λk=>((k:Int):Rat)) n=((((n:Int)*((n:Int)-1)).fdiv 2:Int):Rat)
 | 0=>by decide
 | n+1=>by
  rw[GM.sumTo,ZW n,<- qp]
  congr 1
  rw[Wy _ ⋯,Wy _ ⋯]
  have e:(((n+1:Nat):Int))*(((n+1:Nat):Int)-1)=(n:Int)*((n:Int)-1)+2*(n:Int):=by
   push_cast
   generalize (n:Int)=z
   have:(z+1)*(z+1-1)=z*(z-1)+2*z:=by
    rw[show z+1-1=z by lia,uu,Int.mul_sub,Qt,Q8];lia
   exact this
  rw[e,Int.add_mul_ediv_left _ _ ⋯]
theorem zvF(hl:.z)(n:Nat):ik 1 b ns xs n=.bm*cP 1 b ns xs+((((n:Int)*((n:Int)-1)).fdiv 2:Int):Rat)*(cP 1 b ns (aX 1 b ns 1 xs)-cP 1 b ns xs):=by
 unfold ik;rw[<- ZW,<- O8];exact oh n λk _=>by rw[zBu k,Ig _ hl (bZ ..).symm]
theorem zyW{a:Rat}(hF:a^ns.sum.toNat≠1)(hl:.z)(n:Nat):ik a b ns xs n=.bm*cP a b ns (bQ a b ns)+(1-.E^n) / (1-a^ns.sum.toNat)*(cP a b ns xs-cP a b ns (bQ a b ns)):=by
 have hs:(bQ a b ns).length=xs.length:=by rw[kj ()];lia
 unfold ik
 have e:(1-.E^n) / (1-a^ns.sum.toNat)=GM.sumTo (λk=>.E^k) n:=by
  rw[DV];generalize a^ns.sum.toNat=F at *;have hg:1-F≠0:=λe=>hF .aB
  have h1:(1 / (1-F))*(1-F)=1:=WA hg;rw[Jo h1 n];have h2:(1-F^n) / (1-F)=(1-F^n)*(1 / (1-F)):=by rw[Qw,Qw,Qx]
  rw[h2]
  grind
 rw[e,<- O8];exact oh n λk _=>by rw[Dq hF hl k,Ig _ () hs]
inductive U5(K:wa)(v w u t:V)(H:Hp)(Q:VK)(E:XK):Prop|v{W:.p}{n:Int}(e1:w=.ref U)(e3:t=.int n)(h1:Is K H v (R Z S))(h2:aE K H U (W.map V.int))(h3:Is K H u (LN Y))(hl:W.length=Y.length+1)(n0:0<=n)(ok:dY Z S W n.toNat)(bx:∀D,af 2500 (Y.getD D 0))(c:Cm 2100 Y)(ce:Z=1->Cm 100 Y)(q:Rs K H Q (N (ik Z S W Y n.toNat)))
theorem zue(T:.q):ms P w base T.LG 7 U5:=by
 exists T.LG,["_law_rule","_law_sizes","_law_places","_law_many","_law_first","_law_step","_law_rest_here","_law_factor","_law_often"],"c4",(ak (ay 4 ii (eC (ao (lO T) hr (q3 0 1 2))))
     (ak (aY (eX K hu .H (aS .aX)) (ak (ay 5 ii (ao (mw T) hr (ae (eC (ao (lO T) hr (ae .L (ae .X (ae (ao (G3 T) hr (by exact(@ae _ _ _ _ _ .L (@ae _ _ _ _ _ .X (@ae _ _ _ _ _ .aV (@ae _ _ _ _ _ av ah Bl) cj) cj) cj))) ah))))) (q1 4))))
     (au (aB (ao (jb T) hr (ae (ao (lF T) hr (ae (aS (ae .au .O)) (q1 4))) (ae (ao (lF T) hr (ae (aS (ae (aD fz (aD cU .au (aD ic .au av)) av) .O)) (q1 5))) ah)))))) aZ)
     (ak (ay 6 ii (eC (ao (lO T) hr (ae .L (ae .X (ae (ao (zV T) hr (q2 0 1)) ah))))))
     (ak (ay 7 ii (ao (yd T) hr (ae .H (ae (dw (show bM _ (.builtin "sum") (w_ K)from Fd rfl) rfl T.h0u Ai (q1 1)) ah))))
     (ak (ay 8 ii (ao (Sd T) hr (ae (ao (mw T) hr (ae (aS .aX) (ae (ao (yd T) hr (q2 7 3)) ah))) (ae (ao (mw T) hr (ae (aS .aX) (q1 7))) ah))))
     (au (aB (ao (jb T) hr (ae (ao (lF T) hr (ae (aS (ae .au .O)) (q1 6))) (ae (ao (lF T) hr (ae (pv 8) (ae (ao (mw T) hr (q2 4 6)) ah))) ah))))))))))
 obtain@⟨p1,ra,rb,xs,ns,n,rfl,rfl,hr',hn',hx',hl,n0,ok,bx,c,ce,q⟩:=h;have h8:=ok.sz.bS;have h1:=ok.sz.some;have hu:=ok.sz.upTo;have hps:=ok.sz.pos;have h60:=ok.bS;have hkk:=ok.k;obtain⟨n,rfl⟩:∃j:Nat,n=(j:Int):=⟨n.toNat,by lia⟩;rw[wD]at q ok h60 hkk;have tb:∀{m:Nat}{ys:.c},Cm m ys->af (m+184) (cP ra rb ns ys):=λ{m ys} cy=>((cy.snoc.yM ok.ok.ba ok.ok.bb (ns:=ns) ns.length .Y).d6 .bn).mono ()
 have bT:=tb c;have rc:=k_ ok.ok ok.sz hl c ⋯;have bn:af 6 .bm:=Ep h60;o_head lq hr' hn' (.inl hx') rc.1 rc.2.1 rc.2.2 .bD;rw[HU]at i1;o_head aA (j:=1) i1 rfl (λv2 i2=>?_);have hr1:=hr'.by S1;k_few;rename_i va ia;refine dg (r:=1) rfl rfl .aG;refine zT (ia.by S3) i3 ?_;have T3:=S1.trans S3;k_few
 . rename_i ha
   subst ha;have c:=ce rfl;have bT:=tb c;have led1:dY 1 rb ns 1:=⟨ok.ok,ok.sz,by decide,by have:=ok.sz.sum;lia⟩;refine zjZ.v rfl rfl (hr'.by T3) (T3.seq hn') (hx'.by T3) hl ⋯ led1 bx (λl4 H4 us n4 S4 e4 t4=>?_);have i4:Is K H4 (.ref l4) (LN (aX 1 rb ns 1 xs)):=b_ e4 t4;have T4:=T3.trans S4;have c1:Cm 1774 (aX 1 rb ns 1 xs):=(iP (PC ok.ok ok.sz hl c 1) λy hy=>wt _ hy).mono ⋯;have rc1:=k_ ok.ok ok.sz (by rw[bZ];exact hl) c1 ⋯;have bT1:=tb c1;o_head lq (hr'.by T4) (T4.seq hn') (.inl i4) rc1.1 rc1.2.1 rc1.2.2 (λv5 H5 S5 i5=>?_);rw[HU]at i5;o_head aA (j:=1) i5 rfl (λv6 i6=>?_);have i25:=i2.by (S3.trans .aN);o_head zn2.v i6 i25 bT1 bT ⋯ (λv7 H7 S7 i7=>?_);have T7:=T4.trans (S5.trans S7);have i27:=i25.by S7;have bst:af 3800 (cP 1 rb ns (aX 1 rb ns 1 xs)-cP 1 rb ns xs):=(bT1.sub bT).mono ⋯;have bT':af 1774 (cP 1 rb ns xs):=bT.mono ⋯
   have hm0:0<=(n:Int)*((n:Int)-1)/\(n:Int)*((n:Int)-1)<=3600:=by
     rcases qw n with z | z
     . subst z;decide
     . exact⟨Xj () (),by
         have:=Uk (show(n:Int)<=60 by lia) (show(n:Int)-1<=60 by lia) () ⋯;lia⟩
   have hf0:0<=((n:Int)*((n:Int)-1)).fdiv 2/\((n:Int)*((n:Int)-1)).fdiv 2<=1800:=by rw[Wy _ ⋯];lia
   have bh:af 11 (((((n:Int)*((n:Int)-1)).fdiv 2:Int)):Rat):=by
     have e:(2:Nat)^11=2048:=by decide
     exact⟨⟨by rw[xP,e];lia⟩,⟨by rw[xQ];decide⟩⟩
   clear i1 i2 ia i3 i5 i6 i25 S3 S4 S5 S7 e4 t4 n4 T3 T4 hr1 i4;o_head yT (λv8 H8 S8 i8=>?_);have i28:=i27.by S8;have i78:=i7.by S8;k_few;rename_i v9 H9 S9 i9;refine yT (λv10 H10 S10 i10=>?_);have i710:=i78.by (S9.trans S10);have i910:=i9.by S10;have b9:af 1780 (.bm*cP 1 rb ns xs):=(bn.mul bT').mono ⋯;have b11:af 3811 (((((n:Int)*((n:Int)-1)).fdiv 2:Int):Rat)*(cP 1 rb ns (aX 1 rb ns 1 xs)-cP 1 rb ns xs)):=(bh.mul bst).mono ⋯;k_few;rename_i v11 H11 S11 i11 v12 H12 S12 i12;rw[<- zvF hl]at i12;exact q v12 H12 (T7.trans (S8.trans (S9.trans (S10.trans (S11.trans S12))))) i12
 . rename_i ha
   have hF:ra^ns.sum.toNat≠1:=λe=>ha ((j7 ok.ok ()).mp e)
   have hne:1-ra^ns.sum.toNat≠0:=λe=>hF .aB
   have bF:af 49 (ra^ns.sum.toNat):=(iC ok.ok _).mono ();have hs:(bQ ra rb ns).length=xs.length:=by rw[kj ()];lia
   have cS:Cm 268 (bQ ra rb ns):=BK ok.ok.ba ok.ok.bb h8 hu () hF;have rcS:=k_ ok.ok ok.sz (by rw[hs];exact hl) cS ⋯;have bR:af 452 (cP ra rb ns (bQ ra rb ns)):=tb cS;refine Zh.v rfl (hr'.by T3) (T3.seq hn') ok.ok ok.sz ha (λl4 H4 us n4 S4 e4 t4=>?_);have T4:=T3.trans S4;o_head lq (hr'.by T4) (T4.seq hn') (.inl (b_ e4 t4)) rcS.1 rcS.2.1 rcS.2.2 (λv5 H5 S5 i5=>?_);rw[HU]at i5;o_head aA (j:=1) i5 rfl (λv6 i6=>?_);have T5:=T4.trans S5;have i25:=i2.by (S3.trans .aN);have hr5:=hr'.by T5;clear i1 i2 ia i3 i5 S3 S4 S5 e4 t4 n4 T3 T4 hr1;k_few;rename_i vb ib;refine DB (T5.seq hn') ?_;o_head RZ.v rfl ib (Bs ok.ok) ⋯ () () () (λv7 H7 S7 i7=>?_);o_head dg (r:=1) rfl rfl (λv8 H8 S8 i8=>?_);k_few;have hkn:(6*ns.sum.toNat+1)*n<=1600:=Wb (Wf _ ()) hkk;refine RZ.v rfl (i7.by S8) (iC ok.ok _) () () () (by rw[wD];lia) (λv9 H9 S9 i9=>?_);rw[wD]at i9;have bP:af 1601 ((ra^ns.sum.toNat)^n):=ok.pow .Y;o_head zn2.v (i8.by S9) i9 af.one bP ⋯ (λv10 H10 S10 i10=>?_);o_head dg (r:=1) rfl rfl (λv11 H11 S11 i11=>?_);o_head zn2.v i11 (i7.by (S8.trans (S9.trans (S10.trans S11)))) af.one bF ⋯ (λv12 H12 S12 i12=>?_);o_head Z0.v (i10.by (S11.trans S12)) i12 (af.one.sub bP) (af.one.sub bF) ⋯ hne (λv13 H13 S13 i13=>?_);have S513:=S7.trans (S8.trans (S9.trans (S10.trans (S11.trans (S12.trans S13)))))
   have i613:=i6.by S513;have i213:=i25.by S513;have T13:=T5.trans S513;have bO:af 1660 ((1-(ra^ns.sum.toNat)^n) / (1-ra^ns.sum.toNat)):=((af.one.sub bP).div (af.one.sub bF) hne).mono ⋯;clear i6 i7 i8 i9 i10 i11 i12 i25 S7 S8 S9 S10 S11 S12 S13 S513 T5 ib hr5;generalize hO:(1-(ra^ns.sum.toNat)^n) / (1-ra^ns.sum.toNat)=O at *;o_head yT (λv14 H14 S14 i14=>?_);have i614:=i613.by S14;have b15:af 458 (.bm*cP ra rb ns (bQ ra rb ns)):=(bn.mul bR).mono ⋯;k_few;rename_i v15 H15 S15 i15;refine zn2.v (i213.by (S14.trans S15)) (i614.by S15) bT bR ⋯ (λv16 H16 S16 i16=>?_);have i1316:=i13.by (S14.trans (S15.trans S16));have i1516:=i15.by S16;have bD:af 2740 (cP ra rb ns xs-cP ra rb ns (bQ ra rb ns)):=(bT.sub bR).mono ⋯;have bOD:af 4400 (O*(cP ra rb ns xs-cP ra rb ns (bQ ra rb ns))):=(bO.mul bD).mono ⋯;k_few;rename_i v17 H17 S17 i17 v18 H18 S18 i18;rw[<- hO,<- zyW hF hl]at i18;exact q v18 H18 (T13.trans (S14.trans (S15.trans (S16.trans (S17.trans S18))))) i18
def Cc(K:wa):R2:=λx y H Q=>∃d ds,Is K H x d/\Is K H y .av/\Sh 60 d/\vy .av=true/\Q (.bl (!ds.any λe=>wR e d)) H
theorem ZT{X:Cx}(hu:X.A.units+64<WC):bL X (vG .NotIn) (Cc X.K):=by
 intro pins s σ H x y v u Q I rx ry h;obtain⟨d,ds,hd,he,sd,se,q⟩:=h;obtain⟨as,h1⟩:=I.reads d x v sd.1 hd rx;obtain⟨bs,h2⟩:=I.reads .av y u se he ry;have sd2:=sd.2;have hm:=xx (Wt ds) d.depth;exact PySem.SeqAt.notIn_tuple_reads h2 h1 (by rw[vy]at se;exact se) sd.1 () ⟨.bl _,H,I,rfl,q⟩
theorem Zt{v w:V}(h:Is K H v (N x))(k:Is K H w (TN xs))(q:Q (.bl (!decide (x∈xs))) H):Cc K v w H Q :=
 ⟨N x,xs.map N,h,k,(pQ x).mono ⋯,by rw[vy];exact yf xs,by rw[V_];exact q⟩
theorem Tu{v:V}(h:Is K H v (LZ ns)):∃p,v=.ref p/\aE K H p .aq:=by
 obtain⟨p,us,rfl,s,t⟩:=cq.mp h;rw[nz.mp t]at s;exact⟨p,rfl,s⟩
theorem HN(F:Rat):∀n:Nat,F^n=1+(F-1)*az F 1 n
 | 0=>by
  rw[VF]
  show(1:Rat)=1+(F-1)*0
  grind
 | n+1=>by
  rw[WS,HN F n]
  show(1+(F-1)*az F 1 n)*F=1+(F-1)*(F*az F 1 n+1)
  grind
theorem HF{F:Rat}(f0:0<F):∀n:Nat,az F 1 n<az F 1 (n+1)
 | 0=>by
  show(0:Rat)<F*0+1
  grind
 | n+1=>by
  have h:=xm (HF f0 n) f0
  show F*az F 1 n+1<F*az F 1 (n+1)+1
  grind
theorem zFK(f0:0<F)(h:k<=n):az F 1 k<=az F 1 n:=by
 induction n with
 | zero =>
  have:k=0:=by lia
  subst this;exact WV
 | succ n ih =>
  rcases wE k (n+1)with z | z
  ·exact QM (ih ()) (vY (HF f0 n))
  ·have:k=n+1:=by lia
   subst this;exact WV
theorem zsU{a:Rat}(ok:.aH)(hn:.z)(f0:cE a b ns xs=true)(f1:cE a b ns (aX a b ns n xs)=true)(hk:k<=n):cE a b ns (aX a b ns k xs)=true:=by
 cases n with
 | zero =>
  have:k=0:=by lia
  subst this;exact f1
 | succ n =>
  have F0:0<a^ns.sum.toNat:=Rat.pow_pos ok.a0
  have G0:0<az .E 1 (n+1):=by
   have h1:=nW F0 (show(0:Rat)<=1 by decide) n;have h2:=HF F0 n
   grind
  have Gn:az .E 1 (n+1)≠0:=λe=>by rw[e]at G0;exact absurd G0 ⋯
  have Gk:=nW F0 (show(0:Rat)<=1 by decide) k;have Gl:=zFK F0 hk
  have e:aX a b ns k xs=dX (az .E 1 k / az .E 1 (n+1)) xs (aX a b ns (n+1) xs):=by
   refine pW (by rw[bZ,ly (by rw[bZ])]) λi hi=>?_
   rw[bZ]at hi;rw[jf (by rw[bZ]) hi,fD hi,fD hi];unfold fh;rw[HN .E k,HN .E (n+1)];have hc:=WA (a:=az .E 1 k) Gn;generalize az .E 1 k / az .E 1 (n+1)=c at *;generalize az .E 1 (n+1)=G at *;rw[<- hc];generalize (cb a b ns).getD i 0=s;generalize xs.getD i 0=x;generalize a^ns.sum.toNat=F
   grind
  rw[e];have hc:=WA (a:=az .E 1 k) Gn;refine zzU hn (by rw[bZ]) ?_ ?_ f0 f1
  ·generalize az .E 1 k / az .E 1 (n+1)=c at *
   refine W6.mp λz=>?_
   have:=qJ z G0
   grind
  ·generalize az .E 1 k / az .E 1 (n+1)=c at *
   refine W6.mp λz=>?_
   have:=qJ z G0
   grind
theorem zFE{a:Rat}(ok:.aH)(hp:cu ys)(h0:0∈ys)(f:eJ a b ys k):(∀y∈aX a b (aR ys) k (aT ys),y∈ag a b ys (k*(aj ys).length))/\((wp ys.length).map λw=>(aX a b (aR ys) k (aT ys)++[0]).getD (aI ys w) 0)=ag a b ys (k*(aj ys).length):=by
 obtain⟨hz,hn,hs,L⟩:=mG (a:=a) (b:=b) hp h0;obtain⟨Lr,_⟩:=lE ok L hn (kD ys) k f;rw[hs]at Lr
 constructor
 ·intro y hy
  obtain⟨j,hj,rfl⟩:=wX hy;obtain⟨w,hw,hf⟩:=Lr.some j (by rw[wL];lia);have e:=Lr.pl.at' w hw;rw[hf,wb (l:=_++_),vQ hj,wc hj]at e;have e:(ag a b ys (k*(aj ys).length)).getD w 0=(aX a b (aR ys) k (aT ys))[j]:=e;rw[<- e];exact getD_mem hw
 ·refine hV (by simp[aW]) λw hw=>?_
  have hw:w<ys.length:=by simpa using hw
  rw[Lr.pl.at' w (by rw[aW];exact hw),wb (l:=List.map _ _),wu,vM hw]
  rfl
def jE(a b:Rat)(ys:.c)(r:Nat):Prop:=r=0\/(0∈ys/\eJ a b ys r)
structure Hy(a b h:Rat)(ys:.c)(r g:Nat):Prop where
 ok:aM a b
 h1:1<=ys.length
 h8:ys.length<=8
 hp:cu ys
 r3:r<=3
 cy:1<=r->Cm 1700 ys
 ce:1<=r->a=1->Cm 100 ys
 pe:g<=40
 hb:af 4400 h
 ch:jE a b ys r->∀t,t<=g->Cm 3500 (ag a b ys (r*(aj ys).length+t))
 bh:jE a b ys r->∀t,t<=g->af 4400 (h+aF a b ys (r*(aj ys).length+t))
 bt:jE a b ys r->af 4400 (aF a b ys (r*(aj ys).length))
def Ie(a b h:Rat)(ys:.c)(r g:Nat):wC:=.tuple [N (h+aF a b ys (r*(aj ys).length+g)),TN (ag a b ys (r*(aj ys).length+g))]
inductive zmd(K:wa)(v w u t s:V)(H:Hp)(Q:VK)(E:XK):Prop|v{U:Nat}{g:Nat}(e3:t=.int (U:Int))(e4:s=.int (g:Int))(i1:Is K H v (R Z S))(i2:Is K H w (N W))(i3:Is K H u (TN Y))(ok:Hy Z S W Y U g)(qn:¬ jE Z S Y U->Rq H Q .bE)(q:jE Z S Y U->Rs K H Q (Ie Z S W Y U g))
theorem OH(T:.q):mM P w base T.CN 8 zmd:=by
 exists T.CN,["_law_rule","_law_hour","_law_phases","_law_rounds","_law_glows","_law_sizes","_law_places","_law_k","_law_wait","_law_waves"],"c5",(ak (aY (dP nP .au av (dF _)) (ak (jH (ao (Pc T) hr (q1 2)) (jm (n:=2) rfl (dZ (cV (i:=5) ii rfl .y) (dZ (cV (i:=6) ii rfl .y) jo))))
     (ak (aY (PW.pt (fF (dP (show bL _ (vG .NotIn) (Cc K)from ZT hu) (aS .aX) .aV .ae) (g_ (cR (cz (ao (Fx T) hr (q3 0 5 6))))))) (au (aB fS)) aZ)
     (ak (aY (cR (cz (ao (Fx T) hr (ae .L (ae (pv 5) (ae (ao (G3 T) hr (by exact(@ae _ _ _ _ _ .L (@ae _ _ _ _ _ (pv 5) (@ae _ _ _ _ _ (pv 6) (@ae _ _ _ _ _ (aD ic .au av) ah Oy) cj) cj) cj))) ah)))))) (au (aB fS)) aZ)
     (ak (ay 1 ii (ao (jb T) hr (ae .X (ae (ao (zue T) hr (by exact(@ae _ _ _ _ _ .L (@ae _ _ _ _ _ (pv 5) (@ae _ _ _ _ _ (pv 6) (@ae _ _ _ _ _ .au ah cj) cj) cj) cj))) ah))))
     (au (ay 2 ii (ao (zqz T) hr (ae .aV (ae (ao (G3 T) hr (by exact(@ae _ _ _ _ _ .L (@ae _ _ _ _ _ (pv 5) (@ae _ _ _ _ _ (pv 6) (@ae _ _ _ _ _ .au ah cj) cj) cj) cj))) ah))))))))) aZ)
     (ak (eA w9 rfl (fA rfl T.h0j (q1 4)) (cV (i:=7) ii rfl .y) (ak (jH (ao (zvb T) hr (q2 0 2)) (jm (n:=3) rfl (dZ (cV (i:=8) ii rfl .y) (dZ (cV (i:=9) ii rfl .y) (dZ (cV (i:=2) ii rfl .y) jo)))))
     (au (ay 1 ii (ao (jb T) hr (q2 1 8))))))
     (au (aB (aS (q2 1 2))))))
 obtain@⟨ra,rb,h0,ys,r,g,rfl,rfl,hr',hh',hy',ok,qn,q⟩:=h;have pe:=ok.pe;have l1:∀k,1<=(ag ra rb ys k).length:=λk=>by rw[aW];exact ok.h1
 have l8:∀k,(ag ra rb ys k).length<=8:=λk=>by rw[aW];exact ok.h8
 wtm_at "sq"
 have main:jE ra rb ys r->∀(vh vp:V)(o5 o6:.bf)(H1:Hp),ar H H1->Is K H1 vh (N (h0+aF ra rb ys (r*(aj ys).length)))->Is K H1 vp (TN (ag ra rb ys (r*(aj ys).length)))->tl_ {nx:=λ_ H'=>Q V.bE H',rt:=Q} [some x0,some vh,some vp,some (V.int (r:Int)),some (V.int (g:Int)),o5,o6,none,none,none] H1:=λgo vh vp o5 o6 H1 S1 ih ip=>by
   wtm_at "tl";o_head iA (n:=(g:Int)) () () (λt σ H'=>∃vh vp o7 o8 o9,σ = [some x0,some vh,some vp,some (.int (r:Int)),some (.int (g:Int)),o5,o6,o7,o8,o9]/\ar H H'/\Is K H' vh (N (h0+aF ra rb ys (r*(aj ys).length+t)))/\Is K H' vp (TN (ag ra rb ys (r*(aj ys).length+t)))) ⟨vh,vp,_,_,_,rfl,S1,ih,ip⟩ ?_ ?_
   . rintro t σ H2 ht hz;obtain⟨vh,vp,o7,o8,o9,rfl,S2,ih2,ip2⟩:=hz
     have ht':t<g:=by simpa using ht
     have ct:=ok.ch go t ();have b1:=ok.bh go t ();have e1:ag ra rb ys (r*(aj ys).length+(t+1))=dh ra rb (ag ra rb ys (r*(aj ys).length+t)):=rfl;have e2:aF ra rb ys (r*(aj ys).length+(t+1))=aF ra rb ys (r*(aj ys).length+t)+(1-a_ (ag ra rb ys (r*(aj ys).length+t))):=rfl;have q1:=l1 (r*(aj ys).length+t);have q8:=l8 (r*(aj ys).length+t);rw[e1,e2];have b2:af 4400 (1-a_ (ag ra rb ys (r*(aj ys).length+t))):=(af.one.sub (ct.d6 (f_ q1))).mono ⋯;generalize ag ra rb ys (r*(aj ys).length+t)=zs at *;generalize aF ra rb ys (r*(aj ys).length+t)=hh at *;o_head Y9.v (hr'.by S2) ip2 ok.ok.ba ok.ok.bb q1 q8 ct () .aG;have ih3:=ih2.by S3;o_head Jm (show Is K H3 v3 (.tuple [N (1-a_ zs),.list ((cK ra rb zs).map TW),TN (dh ra rb zs)])from i3) rfl (λus t4=>?_);obtain⟨v4,r1,rfl,i4,t4⟩:=d5.mp t4;obtain⟨v5,r2,rfl,i5,t4⟩:=d5.mp t4;obtain⟨v6,r3,rfl,i6,t4⟩:=d5.mp t4;rw[gq.mp t4];k_few;rename_i v7 H7 S7 i7;exact⟨v7,v6,_,_,_,rfl,S2.trans (S3.trans S7),by rw[<- Rat.add_assoc];exact i7,i6.by S7⟩
   . rintro σ H2 hz;obtain⟨vh,vp,o7,o8,o9,rfl,S2,ih2,ip2⟩:=hz
     rw[wD]at ih2 ip2;o_head cJ (ds:=[N (h0+aF ra rb ys (r*(aj ys).length+g)),TN (ag ra rb ys (r*(aj ys).length+g))]) ∅ (.cons ih2 (.cons ip2 .nil)) .aG;exact q go v3 H3 .bF i3
 rcases qw r with rz | rp
 . have e0:h0+aF ra rb ys (r*(aj ys).length)=h0:=by
     rw[rz,Qf]
     show h0+0=h0
     grind
   have e1:ag ra rb ys (r*(aj ys).length)=ys:=by rw[rz,Qf];rfl
   rw[e0,e1]at main;wtm_at "gt"
   . exfalso
     lia
   . exact main (.inl rz) x1 x2 none none H (λ_ _ h=>h) hh' hy'
 . have r3:=ok.r3
   have cy:=ok.cy rp;have ce:=ok.ce rp;have sz:=rT ok.h1 ok.h8;have hvl:=iQ ys;have hvp:=mB ok.h1
   have hn:(aR ys).length=(aT ys).length+1:=by
     unfold aR aT;rw[wl,QR];lia
   have bx:∀j,af 4000 (ys.getD j 0):=λj=>(cy.get j).mono ⋯
   have cp0:Cm 1700 (aT ys):=mi cy;have cp:Cm 2100 (aT ys):=cp0.mono ⋯;have bp:∀j,af 2500 ((aT ys).getD j 0):=λj=>(cp.get j).mono ⋯
   have sm:=sz.pos
   have cl1:Cm 2100 (aX ra rb (aR ys) (r-1) (aT ys)):=(Zq (lQ ok.ok sz ()) cp0).mono (by
     have h1:6*(aR ys).sum.toNat+3<=51:=by lia
     have h2:=W8 h1 (show r-1<=2 by lia);lia)
   have fr0:eJ ra rb ys r->cE ra rb (aR ys) (aT ys)=true:=λfr=>by have:=fr 0 ();unfold cv at this;rw[kx]at this;exact this
   have nogo:¬ (0∈ys/\eJ ra rb ys r)->¬ jE ra rb ys r:=λh g=>by
     rcases g with g | g
     . lia
     . exact h g
   wtm_at "gt"
   . refine O9.v (.inr hy') ok.h1 ok.h8 bx .bD
     refine Jm (show Is K H1 v1 (.tuple [LZ (aR ys),LN (aT ys)])from i1) rfl (λus t=>?_);obtain⟨v2,r1,rfl,iz,t⟩:=d5.mp t;obtain⟨vp,r2,rfl,ip,t⟩:=d5.mp t;rw[gq.mp t];obtain⟨p1,rfl,hz⟩:=Tu iz;have hr1:=hr'.by S1;have hy1:=hy'.by S1;have hh1:=hh'.by S1;clear t iz i1;wtm_at "gt";wtm_at "tl";wtm_at "gt";refine dg (r:=0) rfl rfl .aG;wtm_at "gt";refine Zt i3 (hy1.by S3) ⟨_,rfl,?_⟩
     by_cases z0:0∈ys
     case neg =>
       rw[decide_eq_false z0];wtm_at "gt";exact qn (nogo λh=>z0 h.1) H3 (S1.trans S3)
     rw[decide_eq_true z0,if_neg ⋯];wtm_at "gt";refine Fe (hr1.by S3) (S3.seq hz) (.inl (ip.by S3)) ok.ok sz hn cp ⋯ (λH4 S4=>⟨_,rfl,?_⟩);have T4:=S3.trans S4;cases f0:cE ra rb (aR ys) (aT ys)
     case false =>
       wtm_at "gt";exact qn (nogo λh=>by rw[fr0 h.2]at f0;cases f0) H4 (S1.trans T4)
     wtm_at "gt";wtm_at "tl";wtm_at "gt";have hr4:=hr1.by T4;have hz4:=T4.seq hz;have ip4:=ip.by T4;refine zjZ.v rfl rfl hr4 hz4 ip4 hn () (lQ ok.ok sz ()) bp (λl5 H5 us5 n5 S5 e5 t5=>?_);rw[show((r:Int)-1).toNat=r-1 by lia]at t5;wtm_at "gt";refine Fe (hr4.by S5) (S5.seq hz4) (.inl (b_ e5 t5)) ok.ok sz (by rw[bZ];exact hn) cl1 ⋯ (λH6 S6=>⟨_,rfl,?_⟩);have S46:=S5.trans S6;cases f1:cE ra rb (aR ys) (aX ra rb (aR ys) (r-1) (aT ys))
     case false =>
       wtm_at "gt";exact qn (nogo λh=>by have:=h.2 (r-1) ();unfold cv at this;rw[this]at f1;cases f1) H6 (S1.trans (T4.trans S46))
     have fr:eJ ra rb ys r:=λk hk=>zsU ok.ok hn f0 f1 ()
     have go:jE ra rb ys r:=.inr ⟨z0,fr⟩;obtain⟨hzv,hn',hs,L⟩:=mG (a:=ra) (b:=rb) ok.hp z0;have lo:=zFE ok.ok ok.hp z0 fr;have bt:=ok.bt go
     have et:ik ra rb (aR ys) (aT ys) r=aF ra rb ys (r*(aj ys).length):=by
       obtain⟨_,e⟩:=lE ok.ok L hn' (kD ys) r fr;rw[hs]at e;exact e.symm
     have hr6:=hr4.by S46;have hz6:=S46.seq hz4;have ip6:=ip4.by S46;have T6:=T4.trans S46;have hh6:=hh1.by T6;have hy6:=hy1.by T6;have TT6:=S1.trans T6;have hb:=ok.hb;clear hr4 hz4 ip4 S46 S5 S6 e5 t5 n5 S3 S4 T4 i3 hr1 hy1 hh1 hz ip T6 S1;wtm_at "gt";wtm_at "tl";wtm_at "gt";refine U5.v rfl rfl hr6 hz6 ip6 hn () (lQ ok.ok sz ()) bp cp (λe=>mi (ce e)) (λv7 H7 S7 i7=>?_);rw[wD,et]at i7;have hh7:=hh6.by S7;wtm_at "gt";rename_i v8 H8 S8 i8;have T8:=S7.trans S8;wtm_at "tl";wtm_at "gt";refine zjZ.v rfl rfl (hr6.by T8) (T8.seq hz6) (ip6.by T8) hn () (lQ ok.ok sz ()) bp (λl9 H9 us9 n9 S9 e9 t9=>?_);rw[wD]at t9;wtm_at "gt";refine ZQ.v (hy6.by (T8.trans S9)) (b_ e9 t9) ok.h8 (by rw[bZ];lia) bx (λv10 H10 S10 i10=>?_);rw[lo.2]at i10;wtm_at "gt";exact main go v8 v10 _ _ H10 (TT6.trans (T8.trans (S9.trans S10))) (i8.by (S9.trans S10)) i10
   . exfalso
     lia
def u_(a b:Rat)(xs:.c):Option String:=if(aj xs).length=1 then some "one" else if 0∈xs then di a b xs else none
inductive Zi(K:wa)(v w:V)(H:Hp)(Q:VK)(E:XK):Prop|v{W:Nat}(h:Is K H v (R U Z))(k:Is K H w (TN S))(ok:aM U Z)(h1:1<=S.length)(h8:S.length<=8)(hp:cu S)(c:Cm W S)(hm:W<=3290)(q:Rq H Q (jS (u_ U Z S)))
theorem ztI(T:.q):jp P w base T.Lw 7 Zi:=by
 exists T.Lw,["_law_rule","_law_phases","_law_sizes","_law_places"],"c2",(ak (jH (ao (Pc T) hr (q1 1)) (jm (n:=2) rfl (dZ (cV (i:=2) ii rfl .y) (dZ (cV (i:=3) ii rfl .y) jo))))
     (ak (aY (eX K hu (dE K T.h0o (q1 2)) av) (au (aB fJ)) aZ)
     (ak (aY (PW.pt (fF (dP (show bL _ (vG .NotIn) (Cc K)from ZT hu) (aS .aX) .X .ae) (g_ (cR (cz (ao (Fx T) hr (q3 0 2 3))))))) (au (aB fS)) aZ)
     (ak (aY (eX K hu (eC (ao (lO T) hr (q3 0 2 3))) .au) (au (aB fJ)) aZ)
     (ak (aY (PW.pt (tU (dP mQ (eC .H) (eC .H) (dF _)) (yn (cz (ao (zw8 T) hr (q3 0 2 3)))))) (au (aB fJ)) aZ)
     (au (aB fS)))))))
 obtain@⟨ra,rb,xs,m,hr',hx',ok,h1,h8,hp,c,hm,q⟩:=h;have bx:∀i,af 4000 .ai:=λi=>(c.get i).mono ()
 have sz:=rT h1 h8;have hvl:=iQ xs;unfold u_ at q;o_head O9.v (.inr hx') h1 h8 bx .bD;o_head Jm (show Is K H1 v1 (.tuple [LZ .aI,LN .bC])from i1) rfl (λys t=>?_);obtain⟨v2,r1,rfl,iz,t⟩:=d5.mp t;obtain⟨vp,r2,rfl,ip,t⟩:=d5.mp t;rw[gq.mp t];obtain⟨p1,rfl,hz⟩:=Tu iz;o_head gE hz ?_;rw[wl,pZ];k_few
 . rename_i z
   have z:(aj xs).length=1:=by lia
   rw[if_pos z]at q;exact q _ S1
 . rename_i z
   have z:¬ (aj xs).length=1:=by lia
   rw[if_neg z]at q;refine dg (r:=0) rfl rfl .aG;have T3:=S1.trans S3;have hx3:=hx'.by T3;have hr3:=hr'.by T3;have hz3:=S3.seq hz;have ip3:=ip.by S3;clear hx' hr' hz ip S1 S3 i1 iz t;o_head Zt i3 hx3 ⟨_,rfl,?_⟩
   by_cases h0:0∈xs
   . rw[decide_eq_true h0,if_neg ⋯]
     rw[if_pos h0]at q;unfold di at q;rw[if_neg z]at q;have hzv:aT xs++[0]=aj xs:=Bq hp h0;have hpl:(aT xs).length+1=(aj xs).length:=by rw[<- hzv];simp
     have hn:(aR xs).length=(aT xs).length+1:=by rw[pZ];lia
     have cp:Cm m .bC:=mi c;have rc:=k_ ok sz hn cp hm;generalize aR xs=ns at *;generalize aT xs=ps at *;o_head Fe hr3 hz3 (.inl ip3) ok sz hn cp hm (λH4 S4=>?_);have T4:=T3.trans S4;have hr4:=hr3.by S4;have hz4:=S4.seq hz3;have ip4:=ip3.by S4;clear hr3 hz3 ip3 T3 S4 hx3 i3;k_few
     . rename_i y
       rw[if_neg (by rw[y];decide)]at q;exact q _ T4
     . rename_i y
       rw[if_pos y]at q;refine lq hr4 hz4 (.inl ip4) rc.1 rc.2.1 rc.2.2 (λv5 H5 S5 i5=>?_);have T5:=T4.trans S5;have hr5:=hr4.by S5;have hz5:=S5.seq hz4;have ip5:=ip4.by S5;clear hr4 hz4 ip4 T4 S5;o_head aA (j:=0) i5 rfl (λv6 i6=>?_);o_head zxD (show Is K H5 v6 (LN (cF ra rb ns ps))from i6) ip5 ?_;k_few
       . rename_i w
         rw[if_pos w]at q;exact q _ T5
       . rename_i w v7 i7 v8 i8 y2
         have ha:ra<1:=by
           rw[<- Xu];intro h;have:=(zw ra).mpr h;lia
         rw[if_neg w]at q
         have es:dS ra rb ns ps=je ra rb ns:=by
           unfold dS;rw[if_neg .aB,if_neg .aB]
         refine zo2.v rfl hr5 hz5 ip5 ok sz hn cp hm (λH6 S6=>⟨_,rfl,?_⟩);rw[es]
         by_cases y3:je ra rb ns=true
         . rw[if_pos ⟨ha,y3⟩]at q
           rw[y3];k_few;exact q _ (T5.trans S6)
         . rw[if_neg (λh=>y3 h.2)]at q
           rw[uh.mpr y3];k_few;exact q _ (T5.trans S6)
       . rename_i w v7 i7 v8 i8 y2
         rw[if_neg w,if_neg (λh=>y2 (by
           have:=mt (zw ra).mp (Xu.mpr h.1);lia))]at q
         exact q _ T5
   . rw[decide_eq_false h0]
     rw[if_neg h0]at q;k_few;exact q _ T3
def Fb(K:wa):Sp:=λvs H Q _=>∃x0,vs=[x0] /\ ∃(ra rb:Rat)(xs:.c),Is K H x0 (bG ra rb xs)/\dq ra rb xs/\(lz ra rb xs->Rq H Q .bE) /\ ∀es n w v H',iU ra rb xs es n w->ar H H'->Is K H' v (r8 w (aj .ag).length)->Q v H'
theorem zmx{v:V}(h:Is K H v (bG ra rb xs))(ok:dq ra rb xs)(qe:lz ra rb xs->Rq H Q .bE)(q:∀es n w v H',iU ra rb xs es n w->ar H H'->Is K H' v (r8 w (aj .ag).length)->Q v H'):Fb K [v] H Q E:=⟨_,rfl,ra,rb,xs,h,ok,qe,q⟩
theorem OW{v:V}(h:Is K H v (bG ra rb xs))(ok:dq ra rb xs)(q:∀v H',ar H H'->(v=.bE/\lz ra rb xs \/ ∃es n w,iU ra rb xs es n w/\Is K H' v (r8 w (aj .ag).length))->Q v H'):Fb K [v] H Q E:=zmx h ok (λF H' S=>q _ _ S (.inl ⟨rfl,F⟩)) (λes n w v H' P S i=>q _ _ S (.inr ⟨es,n,w,P,i⟩))
theorem Sa(T:.q):cr P w base T.CD 15 (Fb K):=by
 exists T.CD,["_law_swarm","_law_found"],"b1",(ak (ay 1 ii fS)
     (ak (zCz (tb:=λW=>nG (FN (GK K a) W (lG (jd 0) pH)) (jC 1)) (th:=nG (tC .bE) (jC 1)) rfl rfl rfl T.L5 (λW pn E' hx=>by exact(au (ay 1 ii (zBO (zCC T) (hr.mono ⋯) rfl T.yL.g T.yL.F.kp T.yL.b hx (q1 0))))) (λpn ex oe=>by exact(au (ay 1 ii fS))))
     (au (aB .X))))
 obtain⟨ra,rb,xs,hw,ok,qe,q⟩:=h;o_head zC7 (λσ' C o H'=>σ'=[some x0,some .bE]/\C=.ref a.gg/\lz ra rb xs/\ar H H') ?_ ?_
 . k_few
   refine zDv hw ok (λF H' S=>⟨rfl,rfl,F,S⟩) (λes n w v H' P S i=>?_);k_few;exact q es n w v H' P S i
 . rintro σ' C o H' hz;obtain⟨rfl,rfl,F,S⟩:=hz
   refine⟨T.aad,?_⟩;k_few;exact qe F H' S
theorem GO(w:PySem.Str):wR (.str w) (.str w)=true:=by rw[wR];simp
theorem ze(n:Int):wR (.int n) (.int n)=true:=by rw[wR];simp
theorem oq(n:Int):Sh 1 (.int n):=⟨by simp[vy],by simp[WL]⟩
theorem zAO(a b:Rat)(xs:.c)(es:.am)(n:Nat)(w:.ar):Sh 5 (.list (ft a b xs es n w)):=F7 λd hd=>by
 rcases Wc.mp hd with z | z
 ·obtain⟨e,_,rfl⟩:=wQ.mp z
  refine nY (n:=3) λd hd=>?_
  simp only[wG,WO,or_false]at hd;rcases hd with rfl | rfl | rfl | rfl
  ·exact(pQ _).mono ⋯
  ·exact(Yq _).mono ⋯
  ·exact(oq _).mono ⋯
  ·exact(oq _).mono ⋯
 ·rw[vc.mp z]
  refine nY (n:=3) λd hd=>?_
  simp only[wG,WO,or_false]at hd;rcases hd with rfl | rfl | rfl
  ·exact(pQ _).mono ⋯
  ·exact(Yq _).mono ⋯
  ·exact(sr (oQ _)).mono ⋯
theorem zA0(a b:Rat)(xs:.c)(es:.am)(n:Nat)(w:.ar):wR (.list (ft a b xs es n w)) (.list (ft a b xs es n w))=true:=zFn λd hd=>by
 rcases Wc.mp hd with z | z
 ·obtain⟨e,_,rfl⟩:=wQ.mp z
  refine zQ λd hd=>?_
  simp only[wG,WO,or_false]at hd;rcases hd with rfl | rfl | rfl | rfl
  ·exact Ys _
  ·exact Yc _
  ·exact ze _
  ·exact ze _
 ·rw[vc.mp z]
  refine zQ λd hd=>?_
  simp only[wG,WO,or_false]at hd;rcases hd with rfl | rfl | rfl
  ·exact Ys _
  ·exact Yc _
  ·exact GO _
inductive SH(K:wa)(v u t:V)(H:Hp)(Q:VK)(E:XK):Prop|v{W:Nat}{w:.ar}(e2:t=.bl (decide (fI U Z (ag U Z S W)=some w)))(h:Is K H v (bG U Z S))(hp:Is K H u (.list (ft U Z S Y W w)))(ok:aM U Z)(h1:1<=S.length)(h8:S.length<=8)(ph:cu S)(lw:LW U Z S 0 Y W)(bS:Y.length<=100)(hw:fV w)(c:∀D G,D+G<=W->Cm 3500 (aF U Z (ag U Z S D) G::ag U Z (ag U Z S D) G))(q:Rq H Q (.bl true))
theorem zvv(T:.q):kw P w base T.LF 13 SH:=by
 exists T.LF,["_law_swarm","_law_paper","_law_due","_law_kept","_law_found"],"c3",(ak (ay 3 ii (iS (show bM _ (.type "list") (gc K)from jI) rfl T.h0n h_ (q1 1)))
     (ak (ay 4 ii (ao (zwj T) hr (q2 0 1)))
     (au (aB (fj (dw (show bM _ .ao (fg K)from kq) rfl T.h0c jY (ae (pv 4) (ae (jq (v:=.ty "bool") rfl T.h0m Zs rfl) ah))) (fj (jc K hu (pv 4) .aV) (gR (jc K hu .X .au))))))))
 obtain@⟨ra,rb,xs,es,n,wd,rfl,hw,hp,ok,y1,y8,ph,lw,bS,hwd,c,q⟩:=h;o_head EC hp (λl H1 us n1 S1 e1 t1=>?_);have i1:Is K H1 .al (.list (ft ra rb xs es n wd)):=cq.mpr ⟨l,us,rfl,.of e1,t1⟩;o_head NN.v (hw.by S1) (hp.by S1) ok y1 y8 rfl ph lw bS hwd c (λH2 S2=>?_);rw[decide_eq_true (show xs=xs from rfl),Ve];o_head zF2 ?_;rw[beq_self_eq_true];o_head Gw (hp.by .aM) (i1.by S2) (zAO ..) ⋯ (zA0 ..) ?_;exact q _ .aM
theorem zFt{a:Rat}(h:dq a b xs)(c:jj b.den 47 xs)(h1:a=1) : Cm 100 (ag a b xs j):=by
 subst h1;obtain⟨B,hB,hd,bB,hx⟩:=c;have hov:=(IV h.ok hB hd h.h1 (λx hx'=>let ⟨t,e,_⟩:=hx x hx';⟨t,e⟩) j).1
 have e:B*(((1:Rat).den:Int))^cO 1 b xs j=B:=by
  have:((1:Rat).den:Int)=1:=rfl;rw[this,Int.one_pow,Qt]
 rw[e]at hov;have hp:=h.hp.at h.ok.a0 h.ok.b0 j;refine⟨B,hB,bB.mono ⋯,λx hx'=>?_⟩;obtain⟨t,e,bt⟩:=EZ (l:=0) hB bB (hov x hx') (hp.nn x hx') (vY (hp.lt x hx'));exact⟨t,e,bt.mono ⋯⟩
theorem LW.snoc{a b:Rat}{xs:.c} : ∀{es:.am}{i n r g:Nat},LW a b xs i es n->(r<=30/\g<=40/\(1<=r->0∈ag a b xs n/\eJ a b (ag a b xs n) r))->LW a b xs i (es++[(n,r,g)]) (dJ a b xs n r g)
 | [],i,n,r,g,h,k=>by
  have e:i=n:=h;subst e;exact⟨rfl,k,rfl⟩
 | e::es,i,n,r,g,h,k=>⟨h.1,h.2.1,LW.snoc h.2.2 k⟩
theorem sX{a:Rat}(bg:dq a b xs)(c:jj b.den 47 xs)(h4:xs.length<=4)(h:i+k<=128):Cm 1700 (aF a b .ab k::ag a b .ab k):=by
 have g:=sC bg.ok.a0 bg.ok.b0 bg.h1 bg.hp (i+k);have g2:(i+k)*xs.length<=128*4:=W8 h h4;exact(U2 bg.ok c bg.h1 bg.hp (i:=i) (k:=k) (l:=7) (by have:(2:Nat)^7=128:=⋯;lia)).mono ()
theorem EW(h:Rat)(ys:.c):dC (.tuple [N h,TN ys])=true:=by rw[dC,cg,cg,cg,lH,nX];rfl
theorem Hj(a b:Rat)(xs:.c):∀es:List (Nat × Nat × Nat),cg (es.map (fU a b xs))=true
 | []=>rfl
 | e::es=>by
  rw[ve,cg,Hj a b xs es,show dC (fU a b xs e)=true from sj ..]
  rfl
theorem zCL{a:Rat}(bg:dq a b xs)(c:jj b.den 47 xs)(h4:xs.length<=4){g:Nat}(hn:n<=72)(hr:r<=3)(hg:g<=6):Hy a b (aF a b xs n) (ag a b xs n) r g:=by
 have hv:=iQ (ag a b xs n);rw[aW]at hv;have hm:r*(aj (ag a b xs n)).length<=3*4:=W8 hr ();have cn:=sX bg c h4 (i:=0) (k:=n) ();have cm:=λt (ht:t<=g)=>sX bg c h4 (i:=n) (k:=r*(aj (ag a b xs n)).length+t) ()
 have c0:=λt (ht:t<=g)=>sX bg c h4 (i:=0) (k:=n+(r*(aj (ag a b xs n)).length+t)) ()
 refine⟨bg.ok,by rw[aW];exact bg.h1,by rw[aW];lia,bg.hp.at bg.ok.a0 bg.ok.b0 n,hr,λ_=>iP cn λy hy=>wt _ hy,λ_ e=>zFt bg c e,by lia,(cn.d6 .bn).mono ⋯,λ_ t ht=>(iP (cm t ht) λy hy=>wt _ hy).mono ⋯,λ_ t ht=>?_,λ_=>((cm 0 ()).d6 .bn).mono ⋯⟩;rw[kT];exact((c0 t ht).d6 .bn).mono ⋯
inductive ZG(K:wa)(w v u:V)(H:Hp)(Q:VK)(E:XK):Prop|v{k:Int}(e0:w=.ref U)(hp:cH H U k)(hk:k<=900)(i1:Is K H v (R Z S))(i2:Is K H u (TN W))(bg:dq Z S W)(c:jj S.den 47 W)(h4:W.length<=4)(q:∀Y l v D H' G I,Exc U H H'->bC H H'->LW Z S W 0 G I->I<=72->G.length<=4->H' Y=some (.tup [.ref l,v])->H' l=some (.lst D)->ai K H' D (G.map (fU Z S W))->Is K H' v (.tuple [N (aF Z S W I),TN (ag Z S W I)])->Q (.ref Y) H')
theorem zsm(T:.q):kw P w base T.KD 9 ZG:=by
 exists T.KD,["_law_pen_here","_law_rule","_law_phases","_law_found","_law_stand_here","_law_k","_law_rounds","_law_glows","_law_later"],"c3",(ak (ay 3 ii (dG ah))
     (ak (ay 4 ii (aS (ae (aS .aX) (q1 2))))
     (ak (eA w9 rfl (fA rfl T.h0j (ae (ao (fL T) hr (ae .L .O)) ah)) (cV (i:=5) ii rfl .y) (ak (ay 6 ii (ao (fL T) hr (ae .L .O)))
     (ak (ay 7 ii (ao (fL T) hr (ae .L .O)))
     (ak (ay 8 ii (ao (OH T) hr (by exact(@ae _ _ _ _ _ .X (@ae _ _ _ _ _ (qi 4) (@ae _ _ _ _ _ (qi 4) (@ae _ _ _ _ _ (pv 6) (@ae _ _ _ _ _ (pv 7) ah cj) cj) ff) ff) cj))))
     (ak (aY (dP EX (pv 8) fS (dF _)) (ak (ay 6 ii av)
     (au (ay 8 ii (ao (OH T) hr (by exact(@ae _ _ _ _ _ .X (@ae _ _ _ _ _ (qi 4) (@ae _ _ _ _ _ (qi 4) (@ae _ _ _ _ _ av (@ae _ _ _ _ _ (pv 7) ah cj) Bl) ff) ff) cj)))))) aZ)
     (ak (jK (i_ vP vU vV jh .au (ae (aS (by exact(@ae _ _ _ _ _ (qi 4) (@ae _ _ _ _ _ (qi 4) (@ae _ _ _ _ _ (pv 6) (@ae _ _ _ _ _ (pv 7) ah cj) cj) ff) ff))) ah)))
     (au (ay 4 ii (pv 8)))))))))
     (au (aB (aS (q2 3 4)))))))
 obtain@⟨p,ra,rb,xs,k,rfl,hp,hk,ir,ix,bg,cD,h4,q⟩:=h;have h1:=bg.h1;have rok:=bg.ok;o_head dN ∅ (λlf H1 n1 S1 e1=>?_);o_head dg (r:=0) rfl rfl .bg;o_head cJ (ds:=[N 0,TN xs]) ∅ (.cons i2 (.cons (ix.by .aM) .nil)) .aG;have T3:=S1.trans .bF;have P3:=hp.same T3;have e3:=(S2.trans S3) _ _ e1;have nf:lf≠p:=cH.ne n1 hp;k_few;rename_i m H4 m0 m1 E4 K4 P4;refine iA (n:=m) () () (λj σ H'=>∃us es n vs o5 o6 o7 o8,σ = [some .aA,some x1,some x2,some (.ref lf),some vs,o5,o6,o7,o8]/\Exc p H H'/\bC H H'/\cH H' p (k+1+2*(j:Int))/\H' lf=some (.lst us)/\ai K H' us (es.map (fU ra rb xs))/\LW ra rb xs 0 es n/\n<=18*j/\es.length=j/\Is K H' vs (.tuple [N (aF ra rb xs n),TN .ag])) ⟨[],[],0,v3,_,_,_,_,rfl,T3.exc.trans E4,T3.keep.trans K4,P4.le (),E4.at nf e3,.nil,rfl,by lia,rfl,i3.gD K4 (EW 0 xs)⟩ ?_ ?_
 . rintro j σ H5 hj hz;obtain⟨us,es,n,vs,o5,o6,o7,o8,rfl,E5,K5,P5,e5,t5,lw,hn,hl,is⟩:=hz
   have hj:j<4:=by lia
   clear E4 K4 P4 P3 e3 T3 i3 i2 S1 S2 S3 e1;k_few;rename_i r Hr r0 r1 Er Kr Pr g Hg g0 g1 Eg Kg Pg;obtain⟨r,rfl⟩:∃r':Nat,r=(r':Int):=⟨r.toNat,by lia⟩;obtain⟨g,rfl⟩:∃g':Nat,g=(g':Int):=⟨g.toNat,by lia⟩;have r3:r<=3:=by lia
   have g6:g<=6:=by lia
   have Ex:=Er.trans Eg;have Kx:=Kr.trans Kg;have e7:=Ex.at nf e5;have t7:ai K Hg us (es.map (fU ra rb xs)):=ai.keep Kx _ _ (Hj ra rb xs es) t5;have is7:=is.gD Kx (EW _ _);have ir7:=ir.oJ (K5.trans Kx);have E7:=E5.trans Ex;have K7:=K5.trans Kx;clear Er Kr Pr Eg Kg Ex Kx e5 t5 is E5 K5 P5 r0 r1 g0 g1;have sg:=λr' (h:r'<=3)=>zCL bg cD h4 (n:=n) (r:=r') (g:=g) () h g6
   refine aA (j:=0) is7 rfl (λvh ih=>?_);o_head aA (j:=1) is7 rfl (λvp ip=>?_);k_few
   have fin:∀(r':Nat)(vl v10:V)(H10 H11:Hp)(o5 o6 o7 o8:.bf),jE ra rb .ag r'->r'<=3->ar Hg H10->Is K H10 v10 (.tuple [N (aF ra rb xs n),TN .ag,.int (r':Int),.int (g:Int)])->Is K H10 vl (Ie ra rb (aF ra rb xs n) .ag r' g)->Exc lf H10 H11->H11 lf=some (.lst (us++[v10]))->∃us es n vs o5' o6' o7' o8',[some (V.ref p),some x1,some x2,some (V.ref lf),some vl,o5,o6,o7,o8]=[some .aA,some x1,some x2,some (.ref lf),some vs,o5',o6',o7',o8']/\Exc p H H11/\bC H H11/\cH H11 p (k+1+2*((j+1:Nat):Int))/\H11 lf=some (.lst us)/\ai K H11 us (es.map (fU ra rb xs))/\LW ra rb xs 0 es n/\n<=18*(j+1)/\es.length=j+1/\Is K H11 vs (.tuple [N (aF ra rb xs n),TN .ag]):=by
     intro r' vl v10 H10 H11 o5 o6 o7 o8 go hr S10 i10 il E11 e11;have e10:=S10 _ _ e7;have K11:=E11.keep e10;have hv:=iQ .ag;rw[aW]at hv;have hm:r'*(aj .ag).length<=3*4:=W8 hr ();refine⟨us++[v10],es++[(n,r',g)],dJ ra rb xs n r' g,vl,o5,o6,o7,o8,rfl,λb o hb h=>E11 b o (λz=>by rw[z,n1]at h;cases h) ((E7.trans S10.exc) b o hb h),K7.trans (S10.keep.trans K11),?_,e11,?_,lw.snoc ⟨by lia,by lia,λh=>?_⟩,by unfold dJ;lia,by rw[wL,hl];rfl,?_⟩
     . obtain⟨a1,b1,c1,ep,p0,p1⟩:=Pg.same S10
       exact⟨a1,b1,c1,E11.at (λz=>nf z.symm) ep,p0,by lia⟩
     . rw[w5]
       exact(ai.keep (S10.keep.trans K11) _ _ (Hj ra rb xs es) t7).append (.cons (i10.gD K11 (sj ..)) .nil)
     . rcases go with z | z
       . lia
       . exact z
     . have e1:dJ ra rb xs n r' g=n+(r'*(aj .ag).length+g):=rfl
       rw[e1,<- kT,<- dH];exact il.gD K11 (EW _ _)
   refine zmd.v rfl rfl ir7 ih ip (sg r r3) (λno H8 S8=>?_) (λgo v8 H8 S8 i8=>?_)
   . k_few
     refine aA (j:=0) (is7.by S8) rfl (λvh2 ih2=>?_);o_head aA (j:=1) (is7.by S8) rfl (λvp2 ip2=>?_);o_head zmd.v rfl rfl (U:=0) (ir7.by S8) ih2 ip2 (sg 0 ()) (λno=>absurd .aZ no) (λgo v9 H9 S9 i9=>?_);have T9:=S8.trans S9;o_head gU (aE.of (T9 _ _ e7)) ?_;o_head aA (j:=0) (is7.by T9) rfl (λvh3 ih3=>?_);o_head aA (j:=1) (is7.by T9) rfl (λvp3 ip3=>?_);o_head cJ (ds:=[N (aF ra rb xs n),TN .ag,.int 0,.int (g:Int)]) ∅ (.cons ih3 (.cons ip3 (.cons .bw (.cons .bw .nil)))) (λv10 H10 S10 i10=>?_);o_head iI ((T9.trans S10) _ _ e7) (by rw[t7.length,wl];lia) (λH11 E11 e11=>?_);k_few;exact fin 0 v9 v10 H10 H11 _ _ _ _ go () (T9.trans S10) i10 (i9.by S10) E11 e11
   . obtain⟨l8,u8,rfl,_⟩:=bY.mp i8
     k_few
     . rename_i z
       cases z
     refine gU (aE.of (S8 _ _ e7)) ?_;o_head aA (j:=0) (is7.by S8) rfl (λvh3 ih3=>?_);o_head aA (j:=1) (is7.by S8) rfl (λvp3 ip3=>?_);o_head cJ (ds:=[N (aF ra rb xs n),TN .ag,.int (r:Int),.int (g:Int)]) ∅ (.cons ih3 (.cons ip3 (.cons .bw (.cons .bw .nil)))) (λv10 H10 S10 i10=>?_);o_head iI ((S8.trans S10) _ _ e7) (by rw[t7.length,wl];lia) (λH11 E11 e11=>?_);k_few;exact fin r (.ref l8) v10 H10 H11 _ _ _ _ go r3 (S8.trans S10) i10 (i8.by S10) E11 e11
 . rintro σ H5 hz;obtain⟨us,es,n,vs,o5,o6,o7,o8,rfl,E5,K5,P5,e5,t5,lw,hn,hl,is⟩:=hz
   o_head nS ∅ (λt H6 n6 S6 e6=>?_);exact q t lf vs us H6 es n (E5.trans S6.exc) (K5.trans S6.keep) lw () () e6 (S6 _ _ e5) (ai.same S6 _ _ t5) (is.by S6)
inductive ON(K:wa)(u v w:V)(H:Hp)(Q:VK)(E:XK):Prop|v{k m:Int}(e0:u=.ref U)(e2:w=.int m)(ir:Is K H v (R Z S))(ok:aM Z S)(h:cH H U k)(hk:k<=900)(h1:3<=m)(h8:m<=8)(q:∀(l:we)(H':Hp)(W:.x)(Y:.c),H l=none->Exc U H H'->bC H H'->cH H' U (k+13)->H' l=some (.lst W)->ai K H' W (Y.map N)->1<=Y.length->(Y.length:Int)<=m->(∀D∈Y,fB D)->Q .al H')
theorem zCF(h1:1<=n)(h3:n<=3):cQ (vj n (1:Int)):=by
 have:n=1\/n=2\/n=3:=by lia
 rcases this with rfl | rfl | rfl
 ·exact⟨by decide,by decide,by decide,by decide⟩
 ·exact⟨by decide,by decide,by decide,by decide⟩
 ·exact⟨by decide,by decide,by decide,by decide⟩
theorem zzW(h0:¬ x.num<0)(h1:¬ .S<=x.num)(h2:¬ (60:Int)<.S):fB x:=by
 have:=YY (r:=x.num) (u:=.S) () () ();rw[VE]at this;exact this
theorem ztg(T:.q):kw P w base T.Ld 6 ON:=by
 exists T.Ld,["_law_pen_here","_law_rule","_law_most","_law_found","_law_some","_law_one"],"c3",(ak (ay 3 ii (ao (zjX T) hr (q2 0 2)))
     (ak (aY (PW.pt (fF (dP nP (ao (fL T) hr (ae .L .O)) av (dF _)) (g_ (eX K hu .bc (aS .aX))))) (au (aB .au)) aZ)
     (ak (ay 4 ii (aD cN (ao (zV T) hr (ae .X (ae (aD (show bL _ (WQ .Mult) rA from Hw) (dG .O) (aD cN av (ao (fL T) hr (ae .L .O)))) ah))) (dG (ae (aS .aX) ah))))
     (ak (eA w9 rfl (fC (pv 4)) (cV (i:=5) ii rfl .y) (au (aY (PW.pt (fF (dP mQ (qi 5) av (dF _)) (fF (dP A6 (qi 5) (qi 5) (dF _)) (g_ (dP nP (qi 5) av (dF _)))))) (au (aB .au)) aZ)))
     (au (aB (pv 4)))))))
 obtain@⟨p,ra,rb,k,m,rfl,rfl,ir,ok,hp,hk,h3,h8,q⟩:=h;o_head N1.v rfl rfl hp () () () (λl1 H1 us1 xs1 n1 E1 K1 P1 e1 t1 a1 b1 ph1=>?_);have ne1:l1≠p:=cH.ne n1 hp;k_few
 . rename_i d H2 d0 d1 E2 K2 P2 z
   exact q l1 H2 us1 xs1 n1 (E1.trans E2) (K1.trans K2) (P2.le ()) (E2.at ne1 e1) (ai.keep K2 _ _ (eI _) t1) a1 b1 ph1
 . rename_i d H2 d0 d1 E2 K2 P2 z va ia
   have e2:=E2.at ne1 e1;have t2:ai K H2 us1 (xs1.map N):=ai.keep K2 _ _ (eI _) t1;have ir2:=(ir.oJ K1).oJ K2;have EA:=E1.trans E2;have KA:=K1.trans K2;clear E1 K1 P1 e1 t1 E2 K2 ir;refine dg (r:=1) rfl rfl .aG;refine zT (ia.by S3) i3 ⟨_,rfl,?_⟩
   by_cases za:ra=1
   . rw[decide_eq_true za,if_pos rfl]
     k_few;exact q l1 H3 us1 xs1 n1 (EA.trans S3.exc) (KA.trans S3.keep) ((P2.same S3).le ()) (S3 _ _ e2) (ai.same S3 _ _ t2) a1 b1 ph1
   . rw[decide_eq_false za,if_neg ⋯]
     o_head dN ∅ (λl4 H4 n4 S4 e4=>?_);have P4:=(P2.same S3).same S4;k_few;rename_i r H5 r0 r1 E5 K5 P5;have ne4:l4≠p:=cH.ne n4 (P2.same S3);refine IP (E5.at ne4 e4) () () (λl6 H6 n6 S6 e6=>?_);obtain⟨n,hn⟩:∃n:Nat,2+r=(n:Int):=⟨(2+r).toNat,by lia⟩;rw[hn,wD]at e6;have e6:H6 l6=some (.lst ((vj n (1:Int)).map V.int)):=by rw[X1];exact e6
     have S34:=S3.trans S4;have KB:=KA.trans (S34.keep.trans (K5.trans S6.keep));have EB:=EA.trans (S34.exc.trans (E5.trans S6.exc));have P6:=P5.same S6;have eB:H6 l1=some (.lst us1):=S6 _ _ (E5.at ne1 (S34 _ _ e2));have tB:ai K H6 us1 (xs1.map N):=ai.keep (S34.keep.trans (K5.trans S6.keep)) _ _ (eI _) t2;have irB:=ir2.oJ (S34.keep.trans (K5.trans S6.keep));clear S3 S4 S34 E5 K5 S6 e2 t2 ir2 EA KA P2 P4 P5 e4 i3 ia n4 ne4 n6;o_head Zh.v rfl irB (.of e6) ok (zCF () ()) za (λl7 H7 us7 n7 S7 e7 t7=>?_);have hsl:(bQ ra rb (vj n (1:Int))).length=n-1:=by rw[kj (by rw[WK];lia),WK]
     have hul:=t7.length;rw[wl,hsl]at hul;generalize bQ ra rb (vj n (1:Int))=ys at *;o_head dg (r:=0) rfl rfl (λv8 H8 S8 i8=>?_);o_head dN ∅ (λl9 H9 n9 S9 e9=>?_);refine jQ (S9 _ _ (S8 _ _ e7)) e9 (WH (gW .aL)) (λl10 H10 n10 S10 e10=>?_);have S710:=S8.trans (S9.trans S10);have t10:ai K H10 (us7++[v8]) ((ys++[0]).map N):=IS (ai.same S710 _ _ t7) (i8.by (S9.trans S10));have SC:=S7.trans S710;have hn10:H6 l10=none:=fK (S7.trans (S8.trans S9)) n10
     have hnl:H l10=none:=by
       have ne:l10≠p:=cH.ne hn10 P6;cases e:H l10 with
       | none=>rfl
       | some o=>rw[EB l10 o ne e]at hn10;cases hn10
     clear S7 S8 S9 S10 S710 t7 i8 n7 n9 n10 e7 e9;o_head pS (.of e10) (λi σ H'=>∃o,σ = [some .aA,some x1,some (.int m),some (.ref l1),some (.ref l10),o]/\H'=H10 /\ ∀j,j<i->fB ((ys++[0]).getD j 0)) ⟨_,rfl,rfl,λj hj=>by lia⟩ (λi σ H' _ h=>by obtain⟨_,_,rfl,_⟩:=h;exact .of e10) ?_ ?_
     . rintro i x σ H' hx hz;obtain⟨o,rfl,rfl,hj⟩:=hz
       obtain⟨hi,ix⟩:=cw t10 hx;k_few
       . exact q l1 H' us1 xs1 n1 (EB.trans SC.exc) (KB.trans SC.keep) ((P6.same SC).le ()) (SC _ _ eB) (ai.same SC _ _ tB) a1 b1 ph1
       . exact q l1 H' us1 xs1 n1 (EB.trans SC.exc) (KB.trans SC.keep) ((P6.same SC).le ()) (SC _ _ eB) (ai.same SC _ _ tB) a1 b1 ph1
       . exact q l1 H' us1 xs1 n1 (EB.trans SC.exc) (KB.trans SC.keep) ((P6.same SC).le ()) (SC _ _ eB) (ai.same SC _ _ tB) a1 b1 ph1
       . rename_i z1 z2 z3
         refine⟨_,rfl,rfl,λj hj'=>?_⟩;rcases wE j i with y | y
         . exact hj j y
         . have:j=i:=by lia
           subst this;exact zzW z1 z2 z3
     . rintro σ H' hz;obtain⟨o,rfl,rfl,hj⟩:=hz
       k_few;have hyl:(ys++[0]).length=n:=by simp[hsl];lia
       refine q l10 H' _ (ys++[0]) hnl (EB.trans SC.exc) (KB.trans SC.keep) ((P6.same SC).le ()) e10 t10 () () (λy hy=>?_);obtain⟨j,hj',e⟩:=wX hy;have:=hj j .aL;rw[wb,wc hj']at this;rw[<- e];exact this
theorem zpX{a:Rat}(ok:.aH)(hp:cu xs)(h0:0∈xs)(f:cE a b .aI .bC=true):ag a b xs (aj xs).length=xs ↔ cF a b .aI .bC=aT xs:=by
 obtain⟨hz,hn,hs,L⟩:=mG (a:=a) (b:=b) hp h0;have L1:=(sx ok L hn f).1;rw[hs]at L1;have v1:=Bo L1.pl L1.oN.pw L1.some
 constructor
 ·intro e
  rw[e,<- hz]at v1;exact(Xv v1 (by rw[ny hn])).symm
 ·intro e
  have a1:=Jr L1 (aW a b xs _);have a2:=Jr L (n:=xs.length) rfl;rw[e]at a1;rw[<- a1,a2]
theorem Tt{a:Rat}(ok:.aH)(hp:cu xs)(h0:0∈xs)(f:cE a b .aI .bC=true)(r:cF a b .aI .bC=aT xs) :
  (∀k,ag a b xs (k+(aj xs).length)=ag a b xs k) /\ ∀k,(cK a b (ag a b xs k)).length=1:=by
 obtain⟨hz,hn,hs,L⟩:=mG (a:=a) (b:=b) hp h0;have hb:=(zpX ok hp h0 f).mpr r;have W:=(sx ok L hn f).2.1;rw[hs]at W
 have per:∀k,ag a b xs (k+(aj xs).length)=ag a b xs k:=λk=>by
  rw[XQ,<- dH,hb]
 refine⟨per,λk=>?_⟩
 have hv:1<=(aj xs).length:=by
  have:=congrArg xT hz;rw[wL]at this;simp at this;lia
 induction k using u4 with
 | ind k ih =>
  rcases wE k (aj xs).length with z | z
  ·rw[W k z];rfl
  ·have:=ih (k-(aj xs).length) ()
   rw[<- per,Nat.sub_add_cancel z]at this;exact this
theorem DG{a:Rat}{w:.ar}(h:di a b xs=some w):(w="one"/\(aj xs).length=1)\/((aj xs).length≠1/\cE a b .aI .bC=true/\((w="rests"/\cF a b .aI .bC=aT xs)\/(w="drawn"/\cF a b .aI .bC≠aT xs/\a<1/\je a b .aI=true))):=by
 unfold di at h
 split at h
 ·rename_i z
  exact .inl ⟨(wI h).symm,z⟩
 ·rename_i z
  split at h
  ·rename_i y
   refine .inr ⟨z,y,?_⟩
   split at h
   ·rename_i u
    exact .inl ⟨(wI h).symm,u⟩
   ·rename_i u
    split at h
    ·rename_i t
     exact .inr ⟨(wI h).symm,u,t⟩
    ·cases h
  ·cases h
theorem zyE{a:Rat}(a0:0<a)(b0:0<=b)(h1:.aj)(hp:cu xs)(w:(cK a b xs).length=1):(aj (dh a b xs)).length=(aj xs).length:=by
 obtain⟨v,J⟩:=Cw a0 b0 h1 hp.nn hp.lt;have e:=congrArg xT J.new;rw[jn,wL,Wd,jn,vX]at e;have v1:=J.v1;have vm:=J.vm;have:¬ 1<v:=λz=>by have:=J.more.mpr z;lia
 lia
theorem FJ{a b:Rat}(a0:0<a)(b0:0<=b){xs:.c}(h1:.aj)(hp:cu xs)(wv:∀k,(cK a b (ag a b xs k)).length=1):∀k,(aj (ag a b xs k)).length=(aj xs).length
 | 0=>rfl
 | k+1=>(zyE a0 b0 (by rw[aW];exact h1) (hp.at a0 b0 k) (wv k)).trans (FJ a0 b0 h1 hp wv k)
theorem zvI{a:Rat}(ok:.aH)(h1:.aj)(h8:xs.length<=8)(hp:cu xs)(h0:0∈xs)(f:cE a b .aI .bC=true)(ha:a<1)(d:je a b .aI=true):(∀k,cv a b .aI .bC k=true) /\ ∀k,(cK a b (ag a b xs k)).length=1:=by
 obtain⟨hz,hn,hs,L⟩:=mG (a:=a) (b:=b) hp h0;have sz:=rT h1 h8
 have fr:∀k,cv a b .aI .bC k=true:=λk=>by
  induction k with
  | zero=>unfold cv;rw[kx];exact f
  | succ k ih =>
   unfold cv at *;rw[<- pU];exact zyD ok sz (by rw[bZ];exact hn) ha d ih
 refine⟨fr,λk=>?_⟩;have hv:0<(aR xs).length:=by lia
 have:=zzJ ok L hn (kD xs) (k:=k / (aR xs).length) (t:=k % (aR xs).length) (λj _=>fr j) (qr _ hv);rw[xz,Nat.div_add_mod]at this;rw[this];rfl
theorem zDd{a:Rat}(a0:0<a)(hl:.Z)(h:aX a b ns 1 xs=aX a b ns 1 ys):xs=ys:=by
 refine hV hl λi hi=>?_
 have e:=congrArg (λl=>l.getD i 0) h;simp only[fD hi,fD (show i<ys.length by lia),mr]at e;have e:a^ns.sum.toNat*xs.getD i 0+(cb a b ns).getD i 0=a^ns.sum.toNat*ys.getD i 0+(cb a b ns).getD i 0:=e;have hF:=ox a0 ns.sum.toNat;generalize a^ns.sum.toNat=F at *;have k2:F*(xs.getD i 0-ys.getD i 0)=0:=by grind
 rcases QL.mp k2 with k | k
 ·rw[k]at hF;exact absurd hF ⋯
 ·grind
theorem Sy{a b:Rat}(a0:0<a){ns:.p}{xs:.c} : ∀k,aX a b ns (k+1) xs=aX a b ns k xs->aX a b ns 1 xs=xs
 | 0,h=>by rw[kx]at h;exact h
 | k+1,h=>Sy a0 k (zDd (b:=b) a0 (ns:=ns) (by rw[bZ,bZ]) (by rw[pU,pU];exact h))
theorem G9{a:Rat}(ok:.aH)(h1:.aj)(h8:xs.length<=8)(hp:cu xs)(h0:0∈xs){s:.ar}(w:di a b xs=some s)(w':di a b (ag a b xs k)=some s'):s=s'/\(aj (ag a b xs k)).length=(aj xs).length:=by
 have a0:=ok.a0;have b0:=ok.b0;have hpk:=hp.at a0 b0 k;have vk:=mB (xs:=ag a b xs k) (by rw[aW];exact h1);rcases DG w with⟨rfl,v1⟩ | ⟨v1,f,C⟩
 ·have:=Ce a0 b0 h1 hp k
  have e:(aj (ag a b xs k)).length=1:=by lia
  unfold di at w';rw[if_pos e]at w';exact⟨wI w',by lia⟩
 ·obtain⟨hz,hn,hs,L⟩:=mG (a:=a) (b:=b) hp h0
  rcases C with⟨rfl,r⟩ | ⟨rfl,r,ha,d⟩
  ·obtain⟨per,wv⟩:=Tt ok hp h0 f r
   have ev:=FJ a0 b0 h1 hp wv k
   have h0k:0∈ag a b xs k:=by
    rw[<- per k];exact hp.zero a0 b0 h1 ()
   rcases DG w' with⟨_,z⟩ | ⟨_,fk,⟨rfl,_⟩ | ⟨_,z,_⟩⟩
   ·lia
   ·exact⟨rfl,ev⟩
   ·exact absurd ((zpX ok hpk h0k fk).mp (by rw[dH,ev,per])) z
  ·obtain⟨fr,wv⟩:=zvI ok h1 h8 hp h0 f ha d
   have ev:=FJ a0 b0 h1 hp wv k;rcases DG w' with⟨_,z⟩ | ⟨_,fk,⟨_,z⟩ | ⟨rfl,_⟩⟩
   ·lia
   ·have h0k:0∈ag a b xs k:=by
     rcases qw k with e | e
     ·rw[e];exact h0
     ·exact hp.zero a0 b0 h1 e
    obtain⟨per,_⟩:=Tt ok hpk h0k fk z;have hv:=mB h1;obtain⟨L1,_⟩:=lE ok L hn (kD xs) k (λj _=>fr j);obtain⟨L2,_⟩:=lE ok L hn (kD xs) (k+1) (λj _=>fr j);have u1:=Bo L1.pl L1.oN.pw L1.some;have u2:=Bo L2.pl L2.oN.pw L2.some;rw[hs]at u1 u2;obtain⟨j,hj⟩:∃j,k*(aj xs).length=k+j:=⟨k*(aj xs).length-k,by have:=qQ k hv;lia⟩
    have e:ag a b xs ((k+1)*(aj xs).length)=ag a b xs (k*(aj xs).length):=by
     have:=per j;rw[ev,dH,dH]at this;rw[qD,hj,Vq];exact this
    rw[e,u1]at u2;have e2:=Xv u2 (by rw[bZ,bZ]);have e3:=Sy a0 k e2.symm;rw[nT hn (kD xs)]at e3;exact absurd e3 r
   ·exact⟨rfl,ev⟩
theorem zAM{a:Rat}(ok:.aH)(h1:.aj)(h8:xs.length<=8)(hp:cu xs){s:.ar}(m1:1<=m)(n1:1<=n)(w:di a b (ag a b xs m)=some s)(w':di a b (ag a b xs n)=some s'):s=s'/\(aj (ag a b xs m)).length=(aj (ag a b xs n)).length:=by
 have a0:=ok.a0;have b0:=ok.b0;rcases Nat.le_total m n with z | z
 ·have:=G9 ok (xs:=ag a b xs m) (by rw[aW];exact h1) (by rw[aW];exact h8) (hp.at a0 b0 m) (hp.zero a0 b0 h1 m1) w (k:=n-m) (s':=s') (by rw[dH,qR z];exact w')
  rw[dH,qR z]at this;exact⟨this.1,this.2.symm⟩
 ·have:=G9 ok (xs:=ag a b xs n) (by rw[aW];exact h1) (by rw[aW];exact h8) (hp.at a0 b0 n) (hp.zero a0 b0 h1 n1) w' (k:=m-n) (s':=s) (by rw[dH,qR z];exact w)
  rw[dH,qR z]at this;exact⟨this.1.symm,this.2⟩
theorem zyI(a b:Rat)(xs:.c):u_ a b xs=fI a b xs:=by
 unfold u_ fI
 by_cases z:0∈xs
 ·rw[if_pos z,if_pos z]
  by_cases y:(aj xs).length=1
  ·rw[if_pos y];unfold di;rw[if_pos y]
  ·rw[if_neg y]
 ·rw[if_neg z,if_neg z]
theorem zDD{a:Rat}(ok:.aH)(h1:.aj)(h8:xs.length<=8)(hp:cu xs){s:.ar}(n1:1<=n)(w:fI a b (ag a b xs m)=some s)(w':di a b (ag a b xs n)=some s'):s=s'/\(aj (ag a b xs m)).length=(aj (ag a b xs n)).length:=by
 unfold fI at w;rcases qw m with z | m1
 ·subst z
  by_cases h0:0∈xs
  ·rw[if_pos (show 0∈ag a b xs 0 from h0)]at w
   obtain⟨e1,e2⟩:=G9 ok h1 h8 hp h0 (k:=n) (show di a b xs=some s from w) w';exact⟨e1,e2.symm⟩
  ·rw[if_neg (show ¬ 0∈ag a b xs 0 from h0)]at w
   split at w
   ·rename_i y
    have y:(aj xs).length=1:=y;have a1:=Ce ok.a0 ok.b0 h1 hp n;have a2:=mB (show 1<=(ag a b xs n).length by rw[aW];exact h1);have e:(aj (ag a b xs n)).length=1:=by lia
    unfold di at w';rw[if_pos e]at w';exact⟨(wI w).symm.trans (wI w'),y.trans e.symm⟩
   ·cases w
 ·rw[if_pos (hp.zero ok.a0 ok.b0 h1 m1)]at w
  exact zAM ok h1 h8 hp m1 n1 w w'
theorem oZ{α : Type}[DecidableEq α]:∀{l m:.aY},l.Nodup->(∀x∈l,x∈m)->l.length<=m.length
 | [],_,_,_=>WN _
 | x::l,m,nd,h=>by
  have⟨h1,h2⟩:=Vb.mp nd;have hx:=h x .bn;have:=oZ (m:=m.erase x) h2 λy hy=>(Xr (λe=>h1 (by rw[<- e];exact hy))).mpr (h y (wt _ hy))
  rw[xE hx]at this;have:=qx hx;rw[vK];lia
theorem zBP(nd:ys.Nodup)(h:∀y,y∈ys ↔ y∈xs):ys.length=(aj xs).length :=
 uU (oZ nd λx hx=>tF ((h x).mp hx)) (oZ (HM xs) λx hx=>(h x).mpr (lD hx))
theorem zDa{o:Option String}{w:.ar}(ho:o=none \/ ∃w,o=some w/\fV w)(hw:fV w)(q:Q (.bl (decide (o=some w))) H):iE K (.str (wM w)) (jS o) H Q:=by
 rcases ho with rfl | ⟨v,rfl,hv⟩
 ·exact mC (d:=.str (wM w)) (e:=.none) (eU.mpr rfl) (kK.mpr rfl) (Be w) ⋯ (by rw[show wR (.str (wM w)) .none=decide ((none:Option String)=some w) by rw[wR]<;>simp];exact q)
 ·refine kB _ _ _ ?_ q
  rcases hv with rfl | rfl | rfl<;>rcases hw with rfl | rfl | rfl<;>rw[wR]<;>decide
theorem zBw{x:V}(h:[V.str (wM "rests"),.str (wM "one"),.str (wM "drawn")][i]? = some x):∃w,x=.str (wM w)/\fV w:=by
 match i,h with
 | 0,h=>exact⟨_,(wI h).symm,.inr .aZ⟩
 | 1,h=>exact⟨_,(wI h).symm,.inl rfl⟩
 | 2,h=>exact⟨_,(wI h).symm,.inr (.inr rfl)⟩
 | i+3,h=>simp at h
def BC(K:wa):Sp:=λvs H Q _=>∃x0,vs=[x0] /\ ∃(a:we)(ns:.p),x0=.ref a/\jN K H a .aq/\ns.length<=63 /\ ∀H',Q (.bl true) H'
theorem zE5(T:.q){f:we}{fd:wA}(D:Dn K mg "law" (top 112) ["_law_script"] f fd):aG P w K mg base aN 16 f fd ["_law_script"] (BC K):=by
 exists D,["_law_script","_law_rule","_law_phases","_law_swarm","_law_known","_law_k","_law_rows","_law_stand_here","_law_fits","_law_word_here"],"b1",(ak (ay 1 ii (ao (zmg T) hr (ae (ao (Dr T) hr (ae .L .O)) ah)))
     (ak (ay 2 ii (fi K T.h0i (ae (ao (ztg T) hr (ae (ao (Dr T) hr (ae .L .O)) (ae .X .O))) ah)))
     (ak (ay 3 ii (ao (zvg T) hr (q2 1 2)))
     (ak (ay 4 ii (ao (Sa T) hr (q1 3)))
     (ak (eA w9 rfl (fA rfl T.h0j .O) (cV (i:=5) ii rfl .y) (ak (jH (ao (zsm T) hr (ae (ao (Dr T) hr (ae .L (ae (aD cN av (pv 5)) ah))) (q2 1 2))) (jm (n:=2) rfl (dZ (cV (i:=6) ii rfl .y) (dZ (cV (i:=7) ii rfl .y) jo))))
     (ak (ay 8 ii (ao (ztI T) hr (ae .X (ae (qi 7) ah))))
     (ak (eA w9 rfl (fC (dG (ae fJ (ae fJ (ae fJ ah))))) (cV (i:=9) ii rfl .y) (au (aY (cR (cz (ao (zvv T) hr (ae .au (ae (aD cN (pv 6) (dG (ae (aS (ae (qi 7) (ae (qi 7) (q1 9)))) ah))) (ae (jc K hu (pv 9) (pv 8)) ah)))))) (au (aB fe)) aZ)))
     (au (aY (PW.pt (tU (dP PN (pv 8) fS (dF _)) (yn (dP PN (pv 4) fS (dF _))))) (au (aY (iM K hu (pv 4) (aS (ae (pv 8) (ae (dw (show bM _ (.builtin "len") (Sm w)from zzg) rfl T.h0o Zn (ae (iS (show bM _ (.type "set") (Ji K w)from zwF hu rfl) rfl T.h0v zFw (ae (qi 7) ah)) ah)) ah)))) (au (aB fe)) aZ)) aZ))))))
     (au (aB (jc K hu (ao (Sa T) hr (q1 3)) (pv 4)))))))))
 obtain⟨a',ns0,rfl,hs,hl,q⟩:=h;o_head Dt hs hl ⋯ ⋯ (λp1 H1 hp1 S1 P1=>?_);o_head Rz.v rfl P1 ⋯ (λv2 H2 ra rb E2 K2 P2 i2 ok=>?_);have KA:bC H H2:=S1.keep.trans K2;o_head Dt (KA.rh hs) hl ⋯ ⋯ (λp3 H3 hp3 S3 P3=>?_);o_head ON.v rfl rfl (i2.by S3) ok P3 ⋯ ⋯ ⋯ (λl4 H4 us4 xs n4 E4 K4 P4 e4 t4 a4 b4 ph4=>?_);have i4:=i2.oJ (S3.keep.trans K4);have KB:=KA.trans (S3.keep.trans K4);o_head gP (b_ e4 t4) (λvx H5 S5 ix=>?_);have i5:=i4.by S5;have hs5:=(KB.trans S5.keep).rh hs;have h4:xs.length<=4:=by lia
 obtain⟨bg,c47⟩:=dq.of ok a4 () ph4;clear i2 i4 S1 S3 P1 P2 P3 P4 E2 K2 E4 K4 e4 t4 n4 hp1 hp3 KA KB S5 hs;o_head YA.v i5 ok (.inr ix) a4 () ph4 (λvw H6 S6 iw=>?_);have i6:=i5.by S6;have ix6:=ix.by S6;have hs6:=S6.keep.rh hs5;clear i5 ix hs5 S6;o_head OW iw bg (λvk H7 S7 C7=>?_);have i7:=i6.by S7;have ix7:=ix6.by S7;have iw7:=iw.by S7;have hs7:=S7.keep.rh hs6;clear i6 ix6 iw hs6 S7;o_head iA (n:=3) ⋯ ⋯ (λj σ H'=>ar H7 H' /\ ∃o5 o6 o7 o8 o9,σ = [some (.ref a'),some v2,some vx,some vw,some vk,o5,o6,o7,o8,o9]) ⟨ar.refl _,_,_,_,_,_,rfl⟩ ?_ ?_
 . rintro j σ H8 hj hz;obtain⟨S8,o5,o6,o7,o8,o9,rfl⟩:=hz
   have hj:j<3:=by simpa using hj
   o_head Dt (S8.keep.rh hs7) hl () () (λp9 H9 hp9 S9 P9=>?_);o_head ZG.v rfl P9 ⋯ (i7.by (S8.trans S9)) (ix7.by (S8.trans S9)) bg c47 h4 (λt10 lr vs us H10 es n E10 K10 lw hn hes et10 er10 tr10 is=>?_);have T10:ar H7 H10:=S8.trans (S9.grow hp9 E10);have cA:=λi k (h:i+k<=n)=>(sX bg c47 h4 (i:=i) (k:=k) ()).mono (show 1700<=3500 by decide)
   refine kG (.inl (.inl et10)) rfl ?_;clear et10 P9 E10 K10 S9 S8;o_head aA (j:=1) is rfl (λvp ip=>?_);o_head Zi.v (i7.by T10) (show Is K H10 vp (TN .ag)from ip) ok (by rw[aW];exact a4) (by rw[aW];lia) (bg.hp.at ok.a0 ok.b0 n) (iP (sX bg c47 h4 (i:=0) (k:=n) ()) λy hy=>wt _ hy) ⋯ (λH11 S11=>?_);rw[zyI];have T11:=T10.trans S11;have er11:=S11 _ _ er10;have tr11:ai K H11 us (es.map (fU ra rb xs)):=ai.same S11 _ _ tr10;have is11:=is.by S11;clear is ip T10 er10 tr10;o_head dN ∅ (λl12 H12 n12 S12 e12=>?_);have T12:=T11.trans S12;have er12:=S12 _ _ er11;have tr12:ai K H12 us (es.map (fU ra rb xs)):=ai.same S12 _ _ tr11;have is12:=is11.by S12;have S12':ar H7 H12:=T12;clear er11 tr11 is11 S11 S12;o_head pS (.of e12) (λi σ H'=>ar H12 H' /\ ∃o9,σ = [some (.ref a'),some v2,some vx,some vw,some vk,some (.int (j:Int)),some (.ref lr),some vs,some (jS (fI ra rb .ag)),o9]) ⟨ar.refl _,_,rfl⟩ (λi σ H' _ ⟨s,_⟩=>.of (s _ _ e12)) ?_ ?_
   . rintro i x σ H13 hx ⟨S13,o9,rfl⟩
     obtain⟨wd,rfl,hwd⟩:=zBw hx;have is13:=is12.by S13;have er13:=S13 _ _ er12;have tr13:ai K H13 us (es.map (fU ra rb xs)):=ai.same S13 _ _ tr12;o_head aA (j:=0) is13 rfl (λvh ih=>?_);o_head aA (j:=1) is13 rfl (λvp ip=>?_);o_head cJ (ds:=[N (aF ra rb xs n),TN .ag,.str (wM wd)]) ∅ (.cons ih (.cons ip (.cons (eU.mpr rfl) .nil))) (λv14 H14 S14 i14=>?_);o_head dN ∅ (λl15 H15 n15 S15 e15=>?_);o_head jQ ((S14.trans S15) _ _ er13) e15 (by rw[sizeLine_eq,tr13.length,wl];simp;lia) (λl16 H16 n16 S16 e16=>?_);have T16:=S14.trans (S15.trans S16);have i16:Is K H16 (.ref l16) (.list (ft ra rb xs es n wd)):=cq.mpr ⟨l16,_,rfl,.of e16,(ai.same T16 _ _ tr13).append (.cons (i14.by (S15.trans S16)) .nil)⟩;o_head zDa Se hwd ?_;o_head SH.v rfl (iw7.by (T12.trans (S13.trans T16))) i16 ok a4 () bg.hp lw () hwd cA (λH17 S17=>?_);k_few;exact⟨S13.trans (T16.trans S17),_,rfl⟩
   . rintro σ H13 ⟨S13,o9,rfl⟩
     have T13:=T12.trans S13;have is13:=is12.by S13;clear is12 er12 tr12 e12 S13 T12 T11 S12' n12;generalize hg:fI ra rb .ag=og;cases og with
     | none =>
       k_few
       all_goals first | exact⟨T13,_,_,_,_,_,rfl⟩ | exact absurd (show jS none=V.bE from rfl) .bo
     | some wd =>
       k_few
       . rcases C7 with⟨z,_⟩ | ⟨es',n',w',P,i7'⟩
         . contradiction
         obtain⟨e1,e2⟩:=zDD ok a4 () bg.hp P.n1 hg P.word;refine aA (j:=1) is13 rfl (λvp ip=>?_);o_head zAj (show Is K H13 vp (TN .ag)from ip) (by rw[aW];lia) (λls H14 ws zs n14 S14 e14 t14 nd mem=>?_);have hyl:=zBP nd mem;have hwl:=t14.length;rw[wl]at hwl;o_head ⟨ls,ws,rfl,e14,?_⟩;rw[show ws.length=(aj (ag ra rb xs n')).length by lia];o_head cJ (ds:=[.str (wM wd),.int _]) ∅ (.cons (eU.mpr rfl) (.cons .bw .nil)) (λv15 H15 S15 i15=>?_);rw[e1]at i15;refine zDq (n:=4) (i7'.by (T13.trans (S14.trans S15))) i15 ?_ ⋯ ?_ ?_
         . exact nY (oj ((sr (oQ _)).mono ⋯) ((oq _).mono ⋯))
         . exact zQ (oj (GO _) (ze _))
         k_few;exact⟨T13.trans (S14.trans S15),_,_,_,_,_,rfl⟩
       all_goals exact⟨T13,_,_,_,_,_,rfl⟩
 . rintro σ H8 hz;obtain⟨S8,o5,o6,o7,o8,o9,rfl⟩:=hz
   o_head OW (iw7.by S8) bg (λv9 H9 S9 C9=>?_);k_few;rcases C7 with⟨rfl,F⟩ | ⟨es,n,w,P,i7'⟩
   . rcases C9 with⟨rfl,_⟩ | ⟨es',n',w',P',_⟩
     . exact Gw (n:=1) (d:=.none) (kK.mpr rfl) (kK.mpr rfl) ⟨by simp[vy],by simp[WL]⟩ ⋯ (by rw[wR]) (q _)
     . exact absurd F (zrA P')
   . rcases C9 with⟨_,F⟩ | ⟨es',n',w',P',i9⟩
     . exact absurd F (zrA P)
     obtain⟨rfl,rfl,rfl⟩:=zwf P P';refine Gw (n:=4) i9 (i7'.by (S8.trans S9)) ?_ ⋯ ?_ (q _)
     . exact nY (oj ((sr (oQ _)).mono ⋯) ((oq _).mono ⋯))
     . exact zQ (oj (GO _) (ze _))
end
variable{us:.J}
theorem zEE(h:us.length=1):∃a,us=[a]:=by
 cases us with
 | nil=>cases h
 | cons a t=>exact⟨a,by rw[Qk.mp (QV h)]⟩
theorem RV(h:us.length=2):∃a0 a1,us=[a0,a1]:=by
 cases us with
 | nil=>cases h
 | cons a0 t =>
  obtain⟨a1,e⟩:=zEE (QV h);exact⟨a0,a1,by rw[e]⟩
theorem RB(h:us.length=3):∃a0 a1 a2,us=[a0,a1,a2]:=by
 cases us with
 | nil=>cases h
 | cons a0 t =>
  obtain⟨a1,a2,e⟩:=RV (QV h);exact⟨a0,a1,a2,by rw[e]⟩
theorem zEq(h:us.length=4):∃a0 a1 a2 a3,us=[a0,a1,a2,a3]:=by
 cases us with
 | nil=>cases h
 | cons a0 t =>
  obtain⟨a1,a2,a3,e⟩:=RB (QV h);exact⟨a0,a1,a2,a3,by rw[e]⟩
theorem zGo(h:us.length=5):∃a0 a1 a2 a3 a4,us=[a0,a1,a2,a3,a4]:=by
 cases us with
 | nil=>cases h
 | cons a0 t =>
  obtain⟨a1,a2,a3,a4,e⟩:=zEq (QV h);exact⟨a0,a1,a2,a3,a4,by rw[e]⟩
inductive aK(K:wa)(n:Str)(st:w6)(f:we):Prop
 | mk {od an:Option we} {sl:.bG} {oc kV dc pm cd ct:wf} (a:vo K wU n=some (some (.ref f))) (l:K.lookup f=some ⟨oc,od,.func (V9 n n (oW st) (mP st) (aH st) .none kV dc pm an cd ct),sl⟩) (c:QZ K cd n=true) (k:Qh K (.ref f)=true):aK K n st f
theorem ca{K:wa}{h:wJ}{mg:.I}{n:Str}{j:Nat}{f:we}{ps:.Q}(X:K.In h)(GN:h.Ns wU mg)(A:aK K n (top j) f)
  (b:∀(kV doc pm:wf)(an:Option we)(cdv ct:wf)(us:.J),us.length=ps.length->bindArgs (V9 n n (oW (top j)) (mP (top j)) (aH (top j)) .none kV doc pm an cdv ct) ⟨us,[]⟩=pure (ps.zip us):=by wtm_at "bz"):am K mg j n ps:=by
 obtain⟨a,l,c,k⟩:=A;have e:ac K j n=f:=by unfold ac;rw[a]
 have e2:∀d,(∃oc od osl,K.lookup f=some ⟨oc,od,.func d,osl⟩)->al K j n=d:=λd⟨_,_,_,l⟩=>by unfold al;rw[e,l]
 have F:=zBg (st:=top j) l c k;show Dn K mg n (top j) ps (ac K j n) (al K j n);rw[e,e2 _ ⟨_,_,_,l⟩];exact⟨F,Wu X GN a,F.binds b⟩
set_option maxHeartbeats 8000000 in
theorem all_mk{l:xL}{w:wO}{K:wa}{h:wJ}{mg:.I}{fa:we}(X:K.In h)(G:h.Ns wU mg)(hfa:mg "law"=some (.ref fa))
  {f87:we}(D:pc K mg)
  {e0:we}
  {e1:we}
  {g0:we} {gn0:Nat} {gd0:Option we} {gs0:.bG} {tk0_0 tk0_1:Tok}
  {g1:we} {gn1:Nat} {gd1:Option we} {gs1:.bG} {tk1_0 tk1_1:Tok}
  {g2:we} {gn2:Nat} {gd2:Option we} {gs2:.bG} {tk2_0 tk2_1:Tok}
  {tk3:Tok}
  {tk4:Tok}
  {tk5:Tok}
  {tk6:Tok}
  {tk7:Tok}
  {tk8:Tok}
  {g9:we} {gn9:Nat} {gd9:Option we} {gs9:.bG} {tk9_0 tk9_1 tk9_2:Tok}
  (a87:aK K "law" (top 112) f87)
  (h0g:vo K wU "NoStand"=some (some (.ref e0)))
  (h0h:vo K wU "TooLong"=some (some (.ref e1)))
  (h0d:qo K e0 sZ "ValueError.__new__"=true)
  (h0b:qI K (.ref e0) (.ref e1)=some false)
  (h0f:qo K e1 sZ "ValueError.__new__"=true)
  (h0a:qI K (.ref e1) (.ref e1)=some true)
  (q0:vo K wU "NOUGHT"=some (some (.ref g0)))
  (r0:K.lookup g0=some ⟨.type "tuple",gd0,.seq #[.int 0 tk0_0,.int 1 tk0_1] gn0,gs0⟩)
  (q1:vo K wU "ONE"=some (some (.ref g1)))
  (r1:K.lookup g1=some ⟨.type "tuple",gd1,.seq #[.int 1 tk1_0,.int 1 tk1_1] gn1,gs1⟩)
  (q2:vo K wU "GREATEST_FACTOR"=some (some (.ref g2)))
  (r2:K.lookup g2=some ⟨.type "tuple",gd2,.seq #[.int 4 tk2_0,.int 1 tk2_1] gn2,gs2⟩)
  (q3:vo K wU "FACTOR_BOTTOM"=some (some (.int 8 tk3)))
  (q4:vo K wU "SHIFT_BOTTOM"=some (some (.int 12 tk4)))
  (q5:vo K wU "MOST_WORMS"=some (some (.int 8 tk5)))
  (q6:vo K wU "PHASE_BOTTOM"=some (some (.int 60 tk6)))
  (q7:vo K wU "MOST_FREE"=some (some (.int 30 tk7)))
  (q8:vo K wU "MOST_GLOWS"=some (some (.int 40 tk8)))
  (q9:vo K wU "WORDS"=some (some (.ref g9)))
  (r9:K.lookup g9=some ⟨.type "tuple",gd9,.seq #[.str "one" tk9_0,.str "rests" tk9_1,.str "drawn" tk9_2] gn9,gs9⟩)
  : ∃fd:wA,(∀(s:wm)(v:wf),BindsTo s fd ⟨[v],[]⟩ [("_law_script",v)]) /\ ∀base:wJ,K.In base->base.Ns wU mg->aG l.prog w K mg base aN 16 fa fd ["_law_script"] (BC K):=by
 obtain⟨aL,lL,cL,kL⟩:=a87;cases hfa.symm.trans (Wu X G aL);have FL:=zBg (st:=top 112) lL cL kL;have D87:Dn K mg _ _ ["_law_script"] _ _:=⟨FL,Wu X G aL,FL.binds (by wtm_at "bz")⟩
 have T:Txt K mg ⟨e0,e1,g0,g1,g2,g9⟩:=⟨D,
  Wu X G h0g,
  Wu X G h0h,
  h0d,
  h0b,
  h0f,
  h0a,
  Wu X G q0,
  λH=>.inr ⟨_,_,_,r0,rfl,rfl,by simp;decide,(.cons ⟨_,rfl⟩ (.cons ⟨_,rfl⟩ .nil))⟩,
  Wu X G q1,
  λH=>.inr ⟨_,_,_,r1,rfl,rfl,by simp;decide,(.cons ⟨_,rfl⟩ (.cons ⟨_,rfl⟩ .nil))⟩,
  Wu X G q2,
  λH=>.inr ⟨_,_,_,r2,rfl,rfl,by simp;decide,(.cons ⟨_,rfl⟩ (.cons ⟨_,rfl⟩ .nil))⟩,
  ⟨_,Wu X G q3⟩,
  ⟨_,Wu X G q4⟩,
  ⟨_,Wu X G q5⟩,
  ⟨_,Wu X G q6⟩,
  ⟨_,Wu X G q7⟩,
  ⟨_,Wu X G q8⟩,
  Wu X G q9,
  λH=>.inr ⟨_,_,_,r9,rfl,rfl,by simp;decide,(.cons ⟨_,rfl⟩ (.cons ⟨_,rfl⟩ (.cons ⟨_,rfl⟩ .nil)))⟩⟩
 exact⟨_,λs v=>.of_eq rfl,λbase _ _=>zE5 T D87⟩
theorem walk{l:xL}{q:wK}{loose:.Q}{XP:(Str->Option wf)->wJ->Prop}{YP:wO->wJ->Prop}{d:DefRec}{K:Params->wa}(hn:l.most=some 63)(hdf:d.params.defaults=[])
  (hY:∀(w:wO)(h:wJ),YP w h->(K w.params).In h)
  (F:∀(w:wO)(mg:.I)(fa:we)(h:wJ),(K w.params).In h->h.Ns wU mg->mg d.name=some (.ref fa) ->
   ∃fd:wA,(∀(s:wm)(u:wf),BindsTo s fd ⟨[u],[]⟩ [("_law_script",u)]) /\ ∀base:wJ,(K w.params).In base->base.Ns wU mg->aG l.prog w (K w.params) mg base aN 16 fa fd ["_law_script"] (BC (K w.params))) :
  Uo q loose XP YP l.row.toRowW d [] (λf vs=>uP f vs) :=
 L2.aaw (n:=63) (k:=16) (x:="_law_script") (CX:=λ_=>aN) (sp:=λw=>BC (K w.params)) hn ⋯ hdf ⟨rfl,by decide,by decide,rfl⟩ hY F (λ_ H a ns hl hO hS=>⟨.ref a,rfl,a,ns,rfl,zE0 hO hS,hl,λ_=>rfl⟩) λ_ _ _ _ _ z=>z
end G
local macro_rules | `(tactic| wtm_at "fk")=>`(tactic| (refine' G.aK.mk ?a ?l ?c ?k; (case a=>k_is); (case l=>k_is); (case c=>k_is); (case k=>k_is)))
open PySem PySem.W PyProof.Rows
set_option maxRecDepth 100000 in
set_option maxHeartbeats 0 in
theorem PySem.Challenge.cw_glowflock_k34_whole_no_two_words_holds : PySem.Challenge.rw_glowflock_k34_whole_no_two_words.Holds := by
 w_on; refine GH.head ?_
 k_fill
 refine G.walk (l:=PySem.Challenge.rw_glowflock_k34_whole_no_two_words) rfl rfl (fun w h Y=>PySem.W.kIn_of Y) ?F
 case F =>
   intro w mg fa h KX GG hmg;refine' G.all_mk KX GG hmg ?D ?a87 ?h0g ?h0h ?h0d ?h0b ?h0f ?h0a ?q0 ?r0 ?q1 ?r1 ?q2 ?r2 ?q3 ?q4 ?q5 ?q6 ?q7 ?q8 ?q9 ?r9
   (case D=>open G in constructor<;>first|exact vE KX GG (by k_is)|(refine' ca KX GG ?A;(case A=>wtm_at "fk")))
   (case a87=>wtm_at "fk")
   (case h0g|h0h=>k_is)
   (case h0d=>k_exc)
   (case h0b=>kts_exm)
   (case h0f=>k_exc)
   (case h0a=>kts_exm)
   (case q0|r0|q1|r1|q2|r2|q3|q4|q5|q6|q7|q8|q9|r9=>k_is)
#print axioms PySem.Challenge.cw_glowflock_k34_whole_no_two_words_holds
