import PyProof.Rows.All
import KE.KDictOf
import KE.KFromBytes
import KE.KItemsList
import KE.KSortTup
import KE.KTupSum
import KE.RegKIsAll
import KE.RegKTryMore
import Lean
import PySem.Challenge.RW_glowflock_k32_papers_looked_through
set_option hygiene false in
local macro_rules
 | `(.a)=>`(List Rat)
 | `(.c)=>`((by lia))
 | `(.j)=>`(List (wf × Obj))
 | `(.l)=>`(Inv X pins σ H s)
 | `(.m)=>`((model X.prog X.w))
 | `(.n)=>`(wo->wq->Prop)
 | `(.o)=>`(Txt P K mg a)
 | `(.p)=>`(List Int)
 | `(.q)=>`((model prog w))
 | `(.s)=>`((Or.inl rfl))
 | `(.u)=>`((by simp))
 | `(.x)=>`(List V)
 | `(.y)=>`((cJ (v:=.ref a.dY) rfl T.fj rfl))
 | `(.z)=>`((ae ar ag))
 | `(.B)=>`((ai a b xs i))
 | `(.C)=>`((pv 0))
 | `(.D)=>`(ns.length=xs.length+1)
 | `(.E)=>`((a.den:Int))
 | `(.G)=>`((wr xs.length))
 | `(.H)=>`((Fast.tw5923862056798008813 p.main.body))
 | `(.I)=>`((a^ns.sum.toNat))
 | `(.J)=>`((λ_ _=>rfl))
 | `(.L)=>`((λ_ _ _ _ _=>(cU 0)))
 | `(.M)=>`(Str->Option wo)
 | `(.O)=>`((qi 0))
 | `(.Q)=>`((r*(aj xs).length))
 | `(.R)=>`((show bN _ (.type "list") (fB K)from gS))
 | `(.S)=>`(List (Option Nat))
 | `(.U)=>`(List Str)
 | `(.X)=>`((pv 1))
 | `(.Y)=>`(List wo)
 | `(.Z)=>`((ai ra rb xs i))
 | `(.aa)=>`((cJ (v:=.ref a.fv) rfl T.gz rfl))
 | `(.ab)=>`((by decide))
 | `(.ac)=>`((x.den:Int))
 | `(.ae)=>`((aB ra rb (aC ps left).length))
 | `(.af)=>`((by with_unfolding_all rfl))
 | `(.ag)=>`(xs.length=ys.length)
 | `(.ah)=>`((λ_ _ _ _ _=>d4))
 | `(.ai)=>`((x == ("__debug__" : Str)))
set_option hygiene false in
local macro_rules
 | `(.aj)=>`((gh T.tr hr ⟨_,_,rfl⟩))
 | `(.ak)=>`((pv 3))
 | `(.al)=>`(1<=xs.length)
 | `(.am)=>`(String)
 | `(.an)=>`((xs.getD i 0))
 | `(.ao)=>`((.builtin "isinstance"))
 | `(.aq)=>`((aG xs))
 | `(.ar)=>`((au.refl _))
 | `(.as)=>`((λv3 H3 S3 i3=>?_))
 | `(.au)=>`((pv 2))
 | `(.av)=>`((ra^(aC ps left).length))
 | `(.aw)=>`((by simp;lia))
 | `(.ax)=>`((wu _))
 | `(.ay)=>`((.ref p))
 | `(.az)=>`((.ref l))
 | `(.aA)=>`((aU (ae ar .z)))
 | `(.aC)=>`((ns.map V.int))
 | `(.aD)=>`(List (Nat × Nat × Nat))
 | `(.aE)=>`((ao (dN T) hr (ae .C .z)))
 | `(.aF)=>`((by grind))
 | `(.aG)=>`(List Expr)
 | `(.aH)=>`((.tuple ds))
 | `(.aI)=>`((.inl rfl))
 | `(.aJ)=>`((λv1 H1 S1 i1=>?_))
 | `(.aK)=>`((λv2 H2 S2 i2=>?_))
 | `(.aL)=>`((aC ps left))
 | `(.aM)=>`(((n:Int):Rat))
 | `(.aO)=>`((Fast.tw5923862056798008813 wx.row.prog.main.body))
 | `(.aP)=>`(Array wo)
 | `(.aQ)=>`((gG X N' scope cl C s₀ H₀ fp pins))
 | `(.aS)=>`(aK a b)
 | `(.aT)=>`((aH xs))
 | `(.aU)=>`((ns.length-1))
 | `(.aV)=>`((xs++[0]))
 | `(.aW)=>`((I.ok.hd hc))
 | `(.aX)=>`((.ref s.heap.objs.size))
 | `(.aY)=>`((cN.mpr rfl))
 | `(.aZ)=>`((S1.trans S2))
 | `(.bc)=>`((b.den:Int))
 | `(.be)=>`(List (List Nat))
set_option hygiene false in
local macro_rules
 | `(.bf)=>`(List (Str × wf))
 | `(.bg)=>`((xs.map N))
 | `(.bi)=>`(List Nat)
 | `(.bj)=>`((S4.trans S5))
 | `(.bm)=>`(List (List Int))
 | `(.bn)=>`((F.den:Int))
 | `(.bo)=>`(Is K H v (R U Z))
 | `(.bp)=>`((cj.mpr rfl))
 | `(.bq)=>`((A.deeper (envOfC qual (aJ st) s.heap.objs.size f cdv)))
 | `(.br)=>`((qi 1))
 | `(.bu)=>`((.ref a))
 | `(.bv)=>`((λv8 H8 S8 i8=>?_))
 | `(.bw)=>`((false,eval e X.env))
 | `(.bx)=>`(Array (Option wo))
 | `(.bA)=>`(Is K H v d)
 | `(.bB)=>`((s.heap.objs.size+1))
 | `(.bD)=>`(Option V)
 | `(.bE)=>`(X.calm=true)
 | `(.bF)=>`((y.den:Int))
 | `(.bG)=>`((.ref D))
 | `(.bH)=>`((wL ..))
 | `(.bI)=>`((av (aA d8)))
 | `(.bJ)=>`((by assumption))
 | `(.bL)=>`((S2.trans S3))
 | `(.bM)=>`(Cm m xs)
 | `(.bN)=>`((bZ xs.length fl c))
 | `(.bP)=>`(List wF)
 | `(.bQ)=>`((by decide +kernel))
 | `(.bR)=>`((λv5 H5 S5 i5=>?_))
 | `(.bS)=>`((ai a b xs .Q))
 | `(.bT)=>`(List Env)
 | `(.bU)=>`((.ref lp))
 | `(.bV)=>`((ra^ns.sum.toNat))
 | `(.bW)=>`((ai a b xs k))
 | `(.bY)=>`((λz=>nomatch z))
 | `(.bZ)=>`(List wf)
 | `(.b7)=>`((.lst xs))
 | `(.b8)=>`((aM xs))
 | `(.b9)=>`((.ref z))
 | `(.ca)=>`((S3.trans S4))
set_option hygiene false in
local macro_rules
 | `(.cb)=>`((ae .O ag))
 | `(.cc)=>`(List α)
 | `(.cd)=>`((cb xs))
 | `(.cf)=>`((.lst []))
 | `(.ci)=>`((w9 es X.env))
 | `(.cj)=>`((.lst ys))
 | `(.ck)=>`((q1 0))
 | `(.cl)=>`((q2 0 1))
 | `(.cn)=>`((.bl false))
 | `(.cp)=>`(i<xs.length)
 | `(.cq)=>`((.list ds))
 | `(.cr)=>`((q ▸ hc))
 | `(.cs)=>`((fu fq ar))
 | `(.cu)=>`((S9.trans S10))
 | `(.cv)=>`(Option Int)
 | `(.cw)=>`((EP X pins σ Q))
 | `(.cx)=>`((S11.trans S12))
 | `(.cz)=>`((by wtm_at "exc"))
 | `(.cA)=>`((show bN _ .ao (fU K)from k8))
 | `(.cB)=>`((.int m))
 | `(.cC)=>`((by omega))
 | `(.cD)=>`(Option wf)
 | `(.cE)=>`((xs.length:Int))
 | `(.cF)=>`(List Bool)
 | `(.cG)=>`((du _))
 | `(.cH)=>`((λv10 H10 S10 i10=>?_))
 | `(.cI)=>`((pv 5))
 | `(.cJ)=>`((.bl true))
 | `(.cK)=>`((.ref it))
 | `(.cL)=>`((pv 4))
 | `(.cM)=>`((by wtm_at "penle"))
 | `(.cN)=>`((ha pos pins s σ H _ I h))
 | `(.cO)=>`((ha pins s σ H _ I h))
 | `(.cP)=>`((.Tuple elts k1 tpos))
 | `(.cQ)=>`(A.handled=none)
 | `(.cR)=>`((q1 2))
 | `(.cS)=>`(List aV)
 | `(.cT)=>`((λv4 i4=>?_))
 | `(.cU)=>`((λv6 i6=>?_))
 | `(.cW)=>`((ns.length:Int))
namespace EZ
section
variable{α β γ δ ε ζ η θ ι:Type}{g:Prop}
theorem EX1{p:α->Prop}(h:∃a,p a)(k:∀a,p a->g):g:=h.elim k
theorem EX2{p:α->β->Prop}(h:∃a b,p a b)(k:∀a b,p a b->g):g:=h.elim λa h=>h.elim λb h=>k a b h
theorem EX3{p:α->β->γ->Prop}(h:∃a b c,p a b c)(k:∀a b c,p a b c->g):g:=EX2 h λa b h=>h.elim λc h=>k a b c h
theorem EX4{p:α->β->γ->δ->Prop}(h:∃a b c d,p a b c d)(k:∀a b c d,p a b c d->g):g:=EX3 h λa b c h=>h.elim λd h=>k a b c d h
theorem EX5{p:α->β->γ->δ->ε->Prop}(h:∃a b c d e,p a b c d e)(k:∀a b c d e,p a b c d e->g):g:=EX4 h λa b c d h=>h.elim λe h=>k a b c d e h
theorem EX6{p:α->β->γ->δ->ε->ζ->Prop}(h:∃a b c d e f,p a b c d e f)(k:∀a b c d e f,p a b c d e f->g):g:=EX5 h λa b c d e h=>h.elim λf h=>k a b c d e f h
theorem EX7{p:α->β->γ->δ->ε->ζ->η->Prop}(h:∃a b c d e f i,p a b c d e f i)(k:∀a b c d e f i,p a b c d e f i->g):g:=EX6 h λa b c d e f h=>h.elim λi h=>k a b c d e f i h
theorem EX8{p:α->β->γ->δ->ε->ζ->η->θ->Prop}(h:∃a b c d e f i j,p a b c d e f i j)(k:∀a b c d e f i j,p a b c d e f i j->g):g:=EX7 h λa b c d e f i h=>h.elim λj h=>k a b c d e f i j h
end
section
variable{a b c d e f i j k l m g:Prop}
theorem EY2(h:a/\b)(z:a->b->g):g:=z h.1 h.2
theorem EY3(h:a/\b/\c)(z:a->b->c->g):g:=z h.1 h.2.1 h.2.2
theorem EY4(h:a/\b/\c/\d)(z:a->b->c->d->g):g:=EY3 h λx y h=>z x y h.1 h.2
theorem EY5(h:a/\b/\c/\d/\e)(z:a->b->c->d->e->g):g:=EY4 h λx y u h=>z x y u h.1 h.2
theorem EY6(h:a/\b/\c/\d/\e/\f)(z:a->b->c->d->e->f->g):g:=EY5 h λx y u v h=>z x y u v h.1 h.2
theorem EY7(h:a/\b/\c/\d/\e/\f/\i)(z:a->b->c->d->e->f->i->g):g:=EY6 h λx y u v w h=>z x y u v w h.1 h.2
theorem EY8(h:a/\b/\c/\d/\e/\f/\i/\j)(z:a->b->c->d->e->f->i->j->g):g:=EY7 h λx y u v w p h=>z x y u v w p h.1 h.2
theorem EY9(h:a/\b/\c/\d/\e/\f/\i/\j/\k)(z:a->b->c->d->e->f->i->j->k->g):g:=EY8 h λx y u v w p q h=>z x y u v w p q h.1 h.2
end
end EZ
open Lean in
local macro_rules
 | `(tactic| subst 0 $ts*)=>do
  let a<-ts.mapM λt=>`(tactic|refine $t ?_)
  `(tactic|with_reducible first $[|$a:tactic]*)
 | `(tactic| subst 1 $s*)=>do
  let mut r:=#[<-`(tactic|with_reducible apply $(s[1]!))]
  for x in s[2:] do
   let x:TSyntax `str:=⟨x⟩
   r:=r.push (<-match x.getString with|"L"=>`(tactic|focus lia)|"R"=>`(tactic|focus rfl)|"A"=>`(tactic|focus assumption)|_=>`(tactic|focus wtm_at $x))
  for _ in [0:(⟨s[0]!⟩:NumLit).getNat] do r:=r.push (<-`(tactic|intro _))
  `(tactic|($[$r]*))
open Lean in
local macro_rules
 | `(tactic| obtain ⟨$ps,*⟩:=$h) => do
  let s:=ps.getElems
  let k:=s.size
  if k < 3 then return<-`(tactic|rcases $h:term with ⟨$ps,*⟩)
  let mut cl<-`(tactic|skip)
  if h.raw.isIdent then cl<-`(tactic|try clear $(⟨h.raw⟩):ident)
  let mut r<-`(tactic|rcases $h:term with ⟨$ps,*⟩)
  for n in [0:9] do
   let m:=k - n
   if n < k && m < 10 && n + m > 2 then
    let mut t : Array (TSyntax `tactic):=#[]
    let c : Ident:=mkIdent `hz
    if n > 0 then
     t:=(t.push (<- `(tactic|refine $(mkIdent (.str `EZ s!"EX{n}")) $h ?_))).push cl
     for p in s[0:n] do t:=t.push (<- `(tactic|rintro ($p:rcasesPatLo)))
    if m = 1 then t:=t.push (<- `(tactic|rintro ($(s[n]!):rcasesPatLo)))
    else
     if n > 0 then t:=t.push (<- `(tactic|intro $c:ident))
     let y:=mkIdent (.str `EZ s!"EY{m}")
     if n > 0 then t:=(t.push (<- `(tactic|refine $y $c ?_))).push (<- `(tactic|clear $c))
     else t:=(t.push (<- `(tactic|refine $y $h ?_))).push cl
     for p in s[n:k] do t:=t.push (<- `(tactic|rintro ($p:rcasesPatLo)))
    r<-`(tactic|first | ($[$t]*) | ($r:tactic))
  return r
set_option compiler.extract_closed false
set_option Elab.async false
set_option linter.all false
set_option maxRecDepth 100000
open Array renaming append_assoc->Xu,forIn_toList->qT,getElem?_eq_none->xK,getElem?_eq_some_iff->W9,length_toList->Vn,toList->u4
open Bool renaming and_eq_true->vf,and_eq_true_iff->xU,and_false->xS,and_true->Q2,beq_eq_decide_eq->Qs,eq_false_iff->Q8,eq_iff_iff->vI,false_and->WO,false_eq_true->WH,false_ne_true->vU,not_eq_true->ul,not_eq_true'->WY,not_false->xO,not_true->qH,or_eq_true->uG,or_false->uX,true_and->W3
open Classical renaming not_not->Ws
open False renaming elim->W8
open Iff renaming rfl->XJ
open Int renaming add_mul->X7,dvd_mul_left->ud,dvd_mul_right->VP,dvd_trans->qG,ediv_eq_of_eq_mul_right->QV,ediv_le_self->ue,ediv_mul_le->uN,emod_lt_of_pos->qU,emod_nonneg->QC,fdiv_eq_ediv_of_nonneg->WF,gcd->vT,gcd_comm->Xx,gcd_dvd_left->qB,gcd_dvd_right->Qc,gcd_pos_of_ne_zero_right->qp,gcd_zero_right->XG,mul_assoc->V8,mul_ediv_cancel_left->V0,mul_le_mul->uV,mul_le_mul_of_nonneg_right->W0,mul_ne_zero->Qu,mul_neg->X2,mul_nonneg->xT,mul_one->Qh,mul_pos->Wj,natAbs_ediv_le_natAbs->xa,natAbs_mul->xL,natCast_ediv->V1,natCast_mul->VF,neg_dvd->X1,neg_one_mul->uB,one_mul->QR,pow_add->X6,pow_ne_zero->qd,pow_pos->X4,pow_succ->V2,pow_zero->QD,sign_eq_neg_one_of_neg->Q0,sign_eq_one_of_pos->xD,toNat->xv,toNat_natCast->wE,zero_sub->XH
open List renaming Pairwise->Xf,all_cons->Xe,all_eq_true->Wq,all_map->XC,any_cons->Qn,any_eq_true->Qq,append_assoc->Wr,append_inj_left->Xb,append_nil->Wh,cons_append->xi,countP_eq_length_filter->QN,countP_map->uF,dropLast_concat->Xc,dropLast_concat_getLast->QM,dropLast_eq_take->xP,dropLast_subset->x6,drop_append_of_le_length->QI,drop_eq_getElem_cons->WK,drop_eq_nil_of_le->Qm,drop_length->xl,drop_succ_cons->QK,drop_zero->xQ,eq_nil_of_length_eq_zero->Vl,ext_getElem->WS,filterMap_cons->QJ,filter_append->Wy,filter_congr->vJ,filter_cons->WB,filter_eq_nil_iff->xF,filter_eq_self->Xi,filter_filter->VA,find?_cons->uL,find?_some->uM,flatten_cons->VO,foldl->uw,foldl_append->XQ,forIn_cons->qL,forIn_nil->QQ,getD_eq_getElem?_getD->wb,getElem?_append_left->vO,getElem?_append_right->vC,getElem?_cons_succ->xq,getElem?_cons_zero->xp,getElem?_drop->Xz,getElem?_eq_getElem->we,getElem?_eq_none->wQ,getElem?_eq_some_iff->Vg,getElem?_map->wA,getElem?_range->vZ,getElem?_replicate->xm,getElem?_set->W5,getElem?_set_ne->xV,getElem?_set_self->xA,getElem?_toArray->xR,getElem_drop->XS,getElem_map->W2,getElem_mem->vF,getElem_of_mem->vA,getElem_take->XR,length->xC,length_append->wM,length_cons->Wi,length_drop->Wg,length_dropLast->VW,length_eq_zero_iff->Qa,length_filter_le->Wl,length_map->wn,length_nil->xx,length_pos_iff->WL,length_pos_of_mem->xG,length_range->vv,length_replicate->WP,length_set->Wv,length_singleton->vL,length_tail->V3,length_take->Wf,length_zipWith->Xj,lookup_cons->qE,map_append->wU,map_congr_left->Vp,map_cons->vi,map_drop->Qo,map_dropLast->Qg,map_map->VB,map_nil->Qt,map_replicate->XI,map_take->Xg,mem_append->vG,mem_append_left->VS,mem_append_right->Wu,mem_cons->wO,mem_cons_of_mem->wH,mem_cons_self->wL,mem_filter->ve,mem_filterMap->QT,mem_iff_getElem->xZ,mem_map->wW,mem_of_find?_eq_some->xb,mem_of_mem_drop->Xd,mem_of_mem_take->qD,mem_or_eq_of_mem_set->VU,mem_range->wN,mem_singleton->wZ,nil_append->qb,nodup_cons->qa,nodup_range->W1,not_mem_nil->WT,of_mem_zip->xt,pairwise_append->qC,pairwise_cons->Vd,pairwise_iff_getElem->Wo,pairwise_map->Q5,pairwise_singleton->xn,range->wr,range_succ->Qz,replicate->vy,replicate_succ->V6,set_append_right->xN,set_cons_succ->XE,set_cons_zero->XF,size_toArray->wR,sum_cons->Vk,tail_cons->uR,take_add_one->Qd,take_append_of_le_length->QG,take_length->Wm,take_of_length_le->WJ,take_sublist->XM,take_subset->ug,take_succ_cons->Xm,take_zero->qY,zipIdx_cons->uo,zipIdx_nil->uJ
open List.Pairwise renaming drop->Uc
open List.cons renaming injEq->uI
open Nat renaming add_assoc->VL,add_comm->Xw,add_le_add_left->Xo,add_sub_cancel->qR,add_zero->xh,div_add_mod->uO,eq_zero_or_pos->VC,gcd_dvd_right->XO,le_add_right->Vs,le_max_left->uC,le_max_right->uc,le_of_dvd->u0,le_of_lt->WM,le_refl->wu,le_trans->Wt,lt_irrefl->Vj,lt_of_le_of_lt->Vc,lt_of_lt_of_le->vd,lt_or_ge->wJ,lt_succ_of_lt->Q6,lt_trichotomy->ql,lt_two_pow_self->Xp,min_eq_left->Qy,min_le_right->xc,mod_eq_of_lt->uh,mod_lt->Qx,mul_comm->xf,mul_le_mul->Ve,mul_le_mul_left->qJ,mul_le_mul_right->Wb,mul_succ->qQ,ne_of_gt->vH,ne_of_lt->w8,pow_add->X3,pow_succ->Xy,sub_self->W6,succ_mul->Vi,succ_ne_self->um,two_pow_pos->Wz,zero_add->xk,zero_le->Vh,zero_mul->VD
open Nat.succ renaming inj->QF
open Ne renaming symm->WN
open Option renaming getD_none->ua,getD_some->xj,map_eq_some_iff->Vu,map_some->uH
open Option.some renaming inj->w6,injEq->Qe
open Prod renaming ext->qj,fst->X8,snd->X9
open PyProof.Rows renaming callWith_type1->vQ,slot_tuple_getitem->V7
open PyProof.Rows.IsTup renaming new->Qr
open PySem renaming Addr->wf,Around->vB,FuncData->wG,Heap->wS,IsPair->WR,NameKind->Vb,Program->wT,PyData->wF,PylongRoom->uk,Shared->wq,Stmt->vc,Value->wo,World->wX,backTo->VR,binaryOp->WE,bootBuiltins->vX,cLine->WW,call->uA,compareOp->vR,letOwnedTupleGo->qN,mainGlobals->wV,mem_of_lookup->Vo,rawInt->Vq,sizeLine->vn,sizeLine_eq->W7,sliceBounds->qI,starEach->w9,wpAny->wD,wpAny_Call_Name_kw->qV,wpAny_attempt->VN,wpAny_bind->wp,wpAny_call_entry->Wx,wpAny_execs_nil->qM,wpAny_field->vS,wpAny_holding->Va,wpAny_isInstance->Vt,wpAny_mono->WU,wpAny_newObj_type->WZ,wpAny_passesOwn->VJ,wpAny_pure->wI,wpAny_pyIter_list->qm,wpAny_pyIter_tuple->VE,wpAny_seqItems->WQ,wpAny_setField_rec->Vf,wpAny_truthy_bool->WD
open PySem.Around renaming frames_deeper->xW,under->u5,under_plainId->qF
open PySem.Builtin.Dict renaming pairItems->xJ,updateFrom->xr
open PySem.Builtin.Int renaming intBits->Xk
open PySem.Builtin.List renaming listTooLong->qP
open PySem.Builtin.Range renaming rangeSize->u7
open PySem.Builtin.Slice renaming sliceAdjust->qK,sliceApplied->QY,sliceFields->u3,slicePartIndex->uP,slicePlaces->VT
open PySem.Builtin.SmallTypes renaming nextOf->We,ownedTupleHandOut->qS,ownedTupleIsFree->Wc
open PySem.Builtin.Tuple renaming tupleExact->VZ,tupleHashOf->Wp,tupleItemsOf->QZ
open PySem.Calls renaming Name_function_global->QX,evalArgs_plain->xX,spliced_cons->QU,spliced_nil->Q4
open PySem.Challenge renaming pw_glowflock_k32_papers_looked_through->Vx,rw_glowflock_k32_papers_looked_through->wx
open PySem.Code renaming isGuard->u6
open PySem.EntryCells renaming newEntry->Xl
open PySem.F renaming args_enumerate_next_1->xo,args_tuple_add_2->qO,args_tuple_iterator_next_1->QP,args_zip_next_1->VQ,entry_enumerate_next->xI,entry_tuple_add->qZ,entry_tuple_iterator_next->QW,entry_zip_next->V4,excBase_ValueError->x5,plainAttrs_list->vP,slot_enumerate_next->qx,slot_int_rmul->uz,slot_list_append->vV,slot_list_count->Qb,slot_tuple_add->Qi,slot_tuple_eq->xw,slot_tuple_hash->Qf,slot_tuple_iterator_next->VM,slot_zip_getattribute->qk,slot_zip_next->WI,type_list_append->vW
open PySem.Heap renaming IsTuple->XD,MadeExcOf->uS,SameBut->Wd,get?_push_ne->Q7,get?_push_of_some->wt,get?_push_size->wY,get?_update_other->Qj,get?_update_self->qo,lt_size->wK,size_push->qr,update->xH
open PySem.Heap.IsSliceOf renaming new->Ub
open PySem.Heap.SameBut renaming update->Xn
open PySem.IntMulOk renaming of_left->uu,of_right->XY
open PySem.IsRange renaming new->Ua
open PySem.Obj renaming cls_mapFields->XX,data_mapFields->qg,isFreed_of_fields->qu,mapFields->Qp,mapSeq->Q9
open PySem.Paired renaming length->uW
open PySem.PassesOwn renaming leaving->XZ,never->vj
open PySem.PyData renaming canLay0->vD,canLayAll0->vK,depth->WC,depthAll->Wa,eqv->wP,eqvAll->Ww,strOk->XB
open PySem.SeqAt renaming canLay_of_shaped->Vr,shaped->vM
open PySem.SeqAt.EqAt renaming int_str->Xq,str_int->Xr
open PySem.Shared renaming heap->X5
open PySem.Str renaming ofString->Wn,ofString->wB
open PySem.Value renaming isInt->X0
open PySem.W renaming Frag->wa,OpenLaw->xu,WalkO->uY,callWith_K->Xv,cellsFrom_some->xB,codeIn->QL,excIn->V9,exmOne->qz,fnOf->VY,hideAll->uv,hideAll_get->Xh,keepIn->qW,kia_one->VH,kia_tup->VI,kitAny->uU,kitOne->VX,kitx_bool->XU,kitx_dict->XW,kitx_int->ui,kitx_list->XV,kitx_none->XT,kitx_str->uj,kitx_tuple->XA,methodObj->Q3,mg_none_of->vN,mg_of->WA,nsIn->vE,of_hideAll->Xs
open PySem.W.Looks renaming ld->Ud
open PySem.Walks renaming list->uK
open Rat renaming den_divInt->uQ,den_intCast->xz,divInt->wC,divInt_mul_divInt->xM,divInt_nonneg->XN,divInt_ofNat->xg,div_def->Qk,div_mul_cancel->WG,ext->uT,intCast_add->VG,intCast_eq_zero_iff->Vm,intCast_le_intCast->Vw,intCast_lt_intCast->xE,intCast_mul->vY,intCast_pos->uE,le_iff->xY,le_of_lt->Wk,le_refl->WX,le_trans->Qw,lt_iff->uD,lt_of_le_of_ne->qc,mul_assoc->uZ,mul_comm->V5,mul_eq_zero->Qv,mul_le_mul_of_nonneg_right->QE,mul_lt_mul_of_pos_left->Q1,mul_lt_mul_of_pos_right->qA,mul_nonneg->qq,mul_pos->Vv,not_le->Xa,not_lt->W4,num_divInt_den->Vy,num_intCast->xy,num_nonneg->qX,one_mul->Ql,pow_succ->WV,pow_zero->Vz
namespace GH
open PySem PySem.W PyProof.Rows
noncomputable def BJ (p:wT) (w:wX) (m:Nat) (an:Option wo) (N:Nat) (s0:wq):Option wq :=
 Option.bind (Fast.tw14082659384304107361 Fast.tw14364793385576792824 p w m an N s0 (topStub p)) λs1=>match staticsOk .H s0.heap s1.heap&&namesBound p s1.heap&&gensDone s1&&laidKept s0.heap s1.heap with | true=>some s1 | false=>none
noncomputable def i_ (w:wX) (os:OsState):wq:=⟨boot_heap w.params,#[],boot_drawn,boot_toks,os⟩
theorem zzD{p q:wT}{loose:.U}{Xt:wq->Bool}{A:Type}{Yf:wq->A}{Ya:wX->A}{N:Nat}(e:opening p=plainProg p.main.scope.names)(hN:Nat.ble 600 N=true)(f:∀s,fenceModules? p s=some s){m:Nat}{an:Option wo}
  (size:∀w:wX,((boot_heap w.params).isNs wV,(boot_heap w.params).objs.size,(boot_heap w.params).nsMap wV "__annotations__")=(true,m,an))
  (h:∀w:wX,(λos=>(BJ p w m an N (i_ w os)).map (λs=>(Fast.tw4187177175401517315 q loose .H Xt true s,Yf s)))=λ_=>some (openGood q loose,Ya w)):LeftO p q loose Xt Yf Ya N:=λw=>by
 obtain⟨⟨h',gs,d,k,os⟩,e',e2⟩:=Vu.mp (boot_open e hN f (w:=w));obtain⟨rfl,rfl,rfl,rfl⟩:h'=boot_heap w.params/\gs = #[]/\d=boot_drawn/\k=boot_toks:=by simpa using e2
 obtain⟨z1,z2,z3⟩:_/\_/\_:=by simpa only[Prod.mk.injEq] using size w
 have r:=congrFun (h w) os;unfold openEnds;rw[e']
 show Option.map _ (topFrom treeTable p w N _)=_
 rw[<- r];unfold topFrom BJ i_;rw[<- Fast.te14082659384304107361,<- Fast.te14364793385576792824,<- Fast.te5923862056798008813,<- Fast.te4187177175401517315];dsimp only;rw[z1,z2,z3]
 rfl
noncomputable def lE (p:wT) (w:wX) (m:Nat) (an:Option wo) (N:Nat) (s0:wq):Option wq:=Fast.tw14082659384304107361 Fast.tw14364793385576792824 p w m an N s0 (topStub p)
noncomputable def zR (p:wT) (w:wX) (os:OsState) (s1:wq):Bool:=staticsOk .H (i_ w os).heap s1.heap&&namesBound p s1.heap&&gensDone s1&&laidKept (i_ w os).heap s1.heap
theorem aak{p q:wT}{loose:.U}{Xt:wq->Bool}{A:Type}{Yf:wq->A}{Ya:wX->A}{N:Nat}(e:opening p=plainProg p.main.scope.names)(hN:Nat.ble 600 N=true)(f:∀s,fenceModules? p s=some s){m:Nat}{an:Option wo}
  (size:∀w:wX,((boot_heap w.params).isNs wV,(boot_heap w.params).objs.size,(boot_heap w.params).nsMap wV "__annotations__")=(true,m,an)) (hp:drecsOf q=[]) (he:plainsOf q (looseW q loose)=[]) (hd:dclssOf q loose=[])
  (hB0:∀w:wX,(λos=>(lE p w m an N (i_ w os)).map (λs=>(zR p w os s,(Fast.tw4187177175401517315 q loose .H Xt true s).2.2.2.1)))=λ_=>some (true,true))
  (hB1:∀w:wX,(λos=>(lE p w m an N (i_ w os)).map (λs=>((Fast.tw4187177175401517315 q loose .H Xt true s).1,(Fast.tw4187177175401517315 q loose .H Xt true s).2.1)))=λ_=>some (expectedOf q,bltViewBooted))
  (hB2:∀w:wX,(λos=>(lE p w m an N (i_ w os)).map (λs=>(Fast.tw4187177175401517315 q loose .H Xt true s).2.2.1))=λ_=>some true)
  (hB3:∀w:wX,(λos=>(lE p w m an N (i_ w os)).map (λs=>(Fast.tw4187177175401517315 q loose .H Xt true s).2.2.2.2.2.2.2))=λ_=>some (wideGood q,clsGoodW q loose))
  (hC:∀w:wX,(λos=>(lE p w m an N (i_ w os)).map (λs=>Yf s))=λ_=>some (Ya w)):LeftO p q loose Xt Yf Ya N:=by
 refine zzD e hN f size λw=>?_
 funext os
 have h1:=congrFun (hB0 w) os;obtain⟨s1,e1,e2⟩:=Vu.mp h1;have g1:=congrFun (hB1 w) os;have g2:=congrFun (hB2 w) os;have g3:=congrFun (hB3 w) os;have k:=congrFun (hC w) os;rw[e1]at g1 g2 g3 k;have g1:=w6 g1;have g2:=w6 g2;have g3:=w6 g3;have a0:=congrArg X8 e2;have b0:=congrArg X9 e2;have a1:=congrArg X8 g1;have b1:=congrArg X9 g1
 have gp:(Fast.tw4187177175401517315 q loose .H Xt true s1).2.2.2.2.1=pinGoodD (drecsOf q):=by
  rw[<- Fast.te4187177175401517315]
  show pinSeenD q (drecsOf q) s1=_
  rw[hp]
  rfl
 have ge:(Fast.tw4187177175401517315 q loose .H Xt true s1).2.2.2.2.2.1=plainGoodE q (looseW q loose):=by
  rw[<- Fast.te4187177175401517315]
  show plainSeenE q (looseW q loose) s1=_
  unfold plainSeenE plainGoodE;rw[he]
  rfl
 have gd:(Fast.tw4187177175401517315 q loose .H Xt true s1).2.2.2.2.2.2.1=plainGoodD q loose:=by
  rw[<- Fast.te4187177175401517315]
  show plainSeenD q loose s1=_
  unfold plainSeenD plainGoodD;rw[hd]
  rfl
 have g:Fast.tw4187177175401517315 q loose .H Xt true s1=openGood q loose:=qj a1 (qj b1 (qj g2 (qj b0 (qj gp (qj ge (qj gd g3))))));have k:=w6 k
 have ez:BJ p w m an N (i_ w os)=some s1:=by
  unfold BJ;unfold lE at e1;rw[e1]
  show(match zR p w os s1 with | true=>some s1 | false=>none)=some s1
  rw[show zR p w os s1=true from a0]
 rw[ez];exact congrArg some (qj g k)
def qv:wT:=view Vx [1,2,3,4,5,6,8,9,10,11,12,13,14,15,16,17,18,20,21,22,23,24,25,26,27,28,29,31,32,33,34,35,36,37,38,39,40,42,43,45,46,47,48,49,50,51,52,53,55,56,57,58,59,60,61,62,63,64,66,67,68,69,70,71,72,73,74,75,76,77,78,79,80,82,83,84,85,86,87,88,89,90,91,92,93,94,95,96,97,98,99,100,101,102,103,104,105,106,107,108,109,110,111,112,113,114]
theorem R6{a b:Bool}(h:a=true)(k:b=true):(a&&b)=true:=by rw[h,k];rfl
set_option maxHeartbeats 0 in
theorem O0:wx.wellSaid=true:=by
 unfold OpenLaw.wellSaid OpenRow.wellSaid OpenRow.partSaid looksOpen
 repeat' with_reducible refine R6 ?_ ?_
 all_goals decide +kernel
theorem size(w:wX):((boot_heap w.params).isNs wV,(boot_heap w.params).objs.size,(boot_heap w.params).nsMap wV "__annotations__")=(true,11,some (.ref 6)):=by kernel_rfl
theorem no1:drecsOf qv=[]:=by kernel_rfl
theorem no2:plainsOf qv (looseW qv [])=[]:=by kernel_rfl
theorem no3:dclssOf qv []=[]:=by kernel_rfl
theorem aaA(w:wX):(λos=>(lE wx.row.prog w 11 (some (.ref 6)) 8438 (i_ w os)).map (λs=>(zR wx.row.prog w os s,(Fast.tw4187177175401517315 qv [] .aO (λs=>xlAt GH.qv [] s&&recOk (RowW.records (OpenRow.toRowW (OpenLaw.row wx))) s) true s).2.2.2.1)))=λ_=>some (true,true):=by kernel_rfl
theorem aaF(w:wX):(λos=>(lE wx.row.prog w 11 (some (.ref 6)) 8438 (i_ w os)).map (λs=>((Fast.tw4187177175401517315 qv [] .aO (λs=>xlAt GH.qv [] s&&recOk (RowW.records (OpenRow.toRowW (OpenLaw.row wx))) s) true s).1,(Fast.tw4187177175401517315 qv [] .aO (λs=>xlAt GH.qv [] s&&recOk (RowW.records (OpenRow.toRowW (OpenLaw.row wx))) s) true s).2.1)))=λ_=>some (expectedOf qv,bltViewBooted):=by kernel_rfl
theorem aaB(w:wX):(λos=>(lE wx.row.prog w 11 (some (.ref 6)) 8438 (i_ w os)).map (λs=>(Fast.tw4187177175401517315 qv [] .aO (λs=>xlAt GH.qv [] s&&recOk (RowW.records (OpenRow.toRowW (OpenLaw.row wx))) s) true s).2.2.1))=λ_=>some true:=by kernel_rfl
theorem aaG(w:wX):(λos=>(lE wx.row.prog w 11 (some (.ref 6)) 8438 (i_ w os)).map (λs=>(Fast.tw4187177175401517315 qv [] .aO (λs=>xlAt GH.qv [] s&&recOk (RowW.records (OpenRow.toRowW (OpenLaw.row wx))) s) true s).2.2.2.2.2.2.2))=λ_=>some (wideGood qv,clsGoodW qv []):=by kernel_rfl
local macro_rules | `(tactic| o_head $H)=>`(tactic| (refine holds_open (q:=GH.qv) (loose:=[]) (Xt:=λ s=>xlAt GH.qv [] s && recOk (RowW.records (OpenRow.toRowW (OpenLaw.row wx))) s) (XP:=XL GH.qv []) (Yf:=Hook.obs $H) (Ya:=Hook.val $H) (YP:=Hook.says $H) (N:=8438) ?hl (Hook.of $H) (Hook.keeps $H) (λ s e=>xl_of s (xU.mp e).1) XL.keeps (by rfl) (by rfl) (by rfl) (λ s e=>recFacts_of (xU.mp e).2) (by rfl) (by first | assumption | decide +kernel) (by decide +kernel) ⟨rfl,rfl,rfl,rfl,rfl,by decide +kernel⟩ ?hw ?hc; (case hl=>refine GH.aak (by kernel_rfl) rfl (λ s=>by kernel_rfl) GH.size GH.no1 GH.no2 GH.no3 GH.aaA GH.aaF GH.aaB GH.aaG ?_; intro w; kernel_rfl)))
local macro_rules | `(tactic| o_law)=>`(tactic| refine holds_law GH.O0 λ O0=>?_)
set_option maxHeartbeats 0
open_top head for wx
end GH
set_option maxHeartbeats 4000000
namespace L2
open PySem PySem.Spec PyProof.Rows
variable{H:Hp}{a b:wf}{o:HO}
abbrev Key:=Sum Int Str
def Sf:Key->wo->Bool
 | .inl k,v=>X0 k v
 | .inr x,v=>Value.isStrOf x v
def zG5(w:wX):Key->Int
 | .inl k=>hashInt k
 | .inr x=>hashStr w x
theorem my :∀{k:Key}{v:wo},Sf k v=true->(∃i t,k=Sum.inl i/\v=Value.int i t)\/(∃x t,k=Sum.inr x/\v=Value.str x t)
 | .inl i,v,h=>by
  obtain⟨t,e⟩:=Value.isInt_shape (k:=i) (v:=v) h;exact .inl ⟨i,t,rfl,e⟩
 | .inr x,v,h=>by
  obtain⟨t,e⟩:=Value.isStrOf_shape (x:=x) (v:=v) h;exact .inr ⟨x,t,rfl,e⟩
theorem zFv(a b:Int):decide ((Sum.inl a:Key)=Sum.inl b)=(a == b):=by
 by_cases e:a=b
 ·subst e;simp
 ·have h:¬ (Sum.inl a:Key)=Sum.inl b:=λq=>e (Sum.inl.inj q)
  rw[decide_eq_false h];exact(beq_eq_false_iff_ne.mpr e).symm
theorem zFU(a b:Str):decide ((Sum.inr a:Key)=Sum.inr b)=decide (a=b):=by
 by_cases e:a=b
 ·subst e;simp
 ·have h:¬ (Sum.inr a:Key)=Sum.inr b:=λq=>e (Sum.inr.inj q)
  rw[decide_eq_false h,decide_eq_false e]
theorem zFN(a:Int)(b:Str):decide ((Sum.inl a:Key)=Sum.inr b)=false:=decide_eq_false (λq=>nomatch q)
theorem zFf(a:Str)(b:Int):decide ((Sum.inr a:Key)=Sum.inl b)=false:=decide_eq_false (λq=>nomatch q)
def Ki(prog:wT)(w:wX):PySem.KeyKind prog w Key where
 is:=Sf
 hash:=zG5 w
 inj:=λv a b ha hb=>by
  rcases my ha with⟨i,t,rfl,rfl⟩ | ⟨x,t,rfl,rfl⟩
  ·rcases my hb with⟨j,u,rfl,e⟩ | ⟨y,u,rfl,e⟩
   ·injection e with e1 _;rw[e1]
   ·exact nomatch e
  ·rcases my hb with⟨j,u,rfl,e⟩ | ⟨y,u,rfl,e⟩
   ·exact nomatch e
   ·injection e with e1 _;rw[e1]
 byValue:=λk v h=>by
  rcases my h with⟨i,t,rfl,rfl⟩ | ⟨x,t,rfl,rfl⟩<;>rfl
 pyHash:=λhv h=>by
  rcases my hv with⟨i,t,rfl,rfl⟩ | ⟨x,t,rfl,rfl⟩
  ·exact wpAny_pyHash_int h
  ·exact wpAny_pyHash_str h
 eqBool:=λhu hv h=>by
  rcases my hu with⟨i,t,rfl,rfl⟩ | ⟨x,t,rfl,rfl⟩
  ·rcases my hv with⟨j,u,rfl,rfl⟩ | ⟨y,u,rfl,rfl⟩
   ·rw[zFv]at h;exact wpAny_eqBool_int h
   ·rw[zFN]at h;exact Xq i t y u _ _ _ _ h
  ·rcases my hv with⟨j,u,rfl,rfl⟩ | ⟨y,u,rfl,rfl⟩
   ·rw[zFf]at h;exact Xr x t j u _ _ _ _ h
   ·rw[zFU]at h;exact wpAny_eqBool_str h
 «strs»:=λk x t v h=>by
  rcases my h with⟨i,u,rfl,e⟩ | ⟨y,u,rfl,e⟩
  ·exact nomatch e
  ·injection e with e1 _
   subst e1;cases v<;>rfl
inductive V where
 | bX | bl (b:Bool) | int (i:Int) | str (x:Str) | byt (b:Array UInt8) | flt (b:UInt64) | ref (a:wf) | ty (n:.am)
 deriving DecidableEq
def bW:V->wo->Prop
 | .bX,u=>u=Value.none
 | .bl b,u=>u=Value.bool b
 | .int i,u=>∃t,u=Value.int i t
 | .str x,u=>∃t,u=Value.str x t
 | .byt b,u=>∃t,u=Value.bytes b t
 | .flt b,u=>∃t,u=Value.float b t
 | .ref a,u=>u=Value.ref a
 | .ty n,u=>u=Value.type n
abbrev aZ:List V->List wo->Prop:=Paired bW
theorem aZ.length{xs:.x}{us:.Y}(r:aZ xs us):xs.length=us.length:=uW r
theorem aZ.get:∀{xs:.x}{us:.Y}{i:Nat}{x:V},aZ xs us->xs[i]? = some x->∃u,us[i]? = some u/\bW x u
 | _,_,_,_,.nil,e=>by simp at e
 | _,_,0,_,.cons r _,e=>by simp at e;subst e;exact⟨_,rfl,r⟩
 | _,_,i+1,x,.cons _ t,e=>by
  obtain⟨u,h1,h2⟩:=aZ.get (i:=i) (x:=x) t (by simpa using e);exact⟨u,by simpa using h1,h2⟩
theorem aZ.set{x:V}{u:wo}(r:bW x u):∀{xs:.x}{us:.Y}(i:Nat),aZ xs us->aZ (xs.set i x) (us.set i u)
 | _,_,_,.nil=>.nil
 | _,_,0,.cons _ t=>.cons r t
 | _,_,i+1,.cons q t=>.cons q (aZ.set r i t)
theorem aZ.append:∀{xs ys:.x}{us ws:.Y},aZ xs us->aZ ys ws->aZ (xs++ys) (us++ws)
 | _,_,_,_,.nil,s=>s
 | _,_,_,_,.cons r t,s=>.cons r (aZ.append t s)
theorem aZ.take:∀{xs:.x}{us:.Y}(n:Nat),aZ xs us->aZ (xs.take n) (us.take n)
 | _,_,0,_=>.nil
 | _,_,_+1,.nil=>.nil
 | _,_,n+1,.cons r t=>.cons r (aZ.take n t)
theorem aZ.drop:∀{xs:.x}{us:.Y}(n:Nat),aZ xs us->aZ (xs.drop n) (us.drop n)
 | _,_,0,r=>r
 | _,_,_+1,.nil=>.nil
 | _,_,n+1,.cons _ t=>aZ.drop n t
def zGe:Option V->Option wo->Prop
 | some v,some u=>bW v u
 | none,none=>True
 | _,_=>False
def KV{κ : Type} : List (κ × V)->List (κ × wo)->Prop:=Paired λ(p : κ × V)(q : κ × wo)=>p.1=q.1/\bW p.2 q.2
def kV:Key->V
 | .inl i=>.int i
 | .inr x=>.str x
inductive HO where
 | lst (xs:.x)
 | tup (xs:.x)
 | dK (kvs:List (Key × V)) | dT (kvs:List (List Key × V))
 | set (S:Int->Bool) (n:Nat)
 | ins (C dx:wf) (fs:List (Str × V))
 | own (x:wf)
 | xd (fs:List (Str × V))
 | met (f x:wf)
 | Bf (lo hi:Int)
 | jb (o:Obj) (u:HO)
 | nU (ps:.aP)
 | ext (φ : wS->Prop)
abbrev Hp:=wf->Option HO
def upd(H:Hp)(a:wf)(o:HO):Hp:=λb=>if b=a then some o else H b
theorem dR : upd H a o a=some o:=by unfold upd;rw[if_pos rfl]
theorem fP(h:b≠a):upd H a o b=H b:=by unfold upd;rw[if_neg h]
theorem zEm{u:HO}(h:H a=some o)(h':H b=some u)(d:o≠u):a≠b:=by
 intro e;subst e;rw[h]at h';exact d (w6 h')
theorem mw(h:H a=some o)(h':H b=none):a≠b:=by
 intro e;subst e;rw[h]at h';cases h'
section
variable(P:wT)(w:wX)
def eZ(H:Hp)(h:wS)(a:wf):HO->Prop
 | .lst xs=>xs.length<=vn /\ ∃(its:.Y)(n:Nat),aZ xs its/\h.get? a=some {cls:=.type "list",data:=.seq its.toArray n}
 | .tup xs=>xs.length<=vn /\ ∃its:List wo,aZ xs its/\IsTup h a its.toArray
 | .dK kvs=>kvs.length<=vn/\(a == sysModules)=false /\ ∃vs,KV kvs vs/\h.DictOf (Ki P w) a vs
 | .dT kvs=>kvs.length<=vn/\(a == sysModules)=false /\ ∃xs:List (List Key × wf × wo),
     Paired (λ(p:List Key × V)(q:List Key × wf × wo)=>p.1=q.1/\H q.2.1=some (.tup (p.1.map kV))/\bW p.2 q.2.2) kvs xs /\
     ∃o es ep,h.get? a=some o/\o.ExactDict/\o.data=.dict es ep/\es.toList=xs.map (entryOfKey (tupleKind (Ki P w)))/\(xs.map (·.1)).Nodup
 | .set S n=>h.SetOf (intKind P w) a S n
 | .ins C dx fs=>H dx=some (.own a)/\fs.length<=1000/\dx≠a/\h.get? a=some (PySem.W.instObj C dx) /\
     ∃mA,h.Ns1 dx mA/\(∀f,zGe (fs.lookup f) (mA f))/\PySem.Within mA (fs.map (·.1))
 | .own _=>∃o,h.get? a=some o
 | .xd fs=>∃mA,h.Ns1 a mA /\ ∀f,zGe (fs.lookup f) (mA f)
 | .Bf lo hi=>∃t u v,h.get? a=some {cls:=.type "range",data:=.fields #[.int lo t,.int hi u,.int 1 v]}
 | .jb o u=>h.get? a=some o/\eZ H h a u
 | .nU ps=>h.get? a=some {cls:=.none,data:=.fields ps}
 | .met f x=>h.get? a=some (Q3 (.ref f) (.ref x))
 | .ext φ=>φ h/\(∃o,h.get? a=some o) /\ ∀h1 h2:wS,φ h1->(∀o,h1.get? a=some o->h2.get? a=some o) -> φ h2
def d7(H:Hp)(h:wS):Prop:=∀a o,H a=some o->eZ P w H h a o
end
section
variable{P:wT}{w:wX}{H H':Hp}{h h':wS}{a:wf}{o:HO}
theorem eZ.lt(x:eZ P w H h a o):a<h.objs.size:=by
 cases o with
 | lst xs=>obtain⟨_,_,_,_,e⟩:=x;exact wK e
 | tup xs=>obtain⟨_,_,_,p⟩:=x;exact p.lt
 | dK kvs=>obtain⟨_,_,_,_,o,_,_,e,_⟩:=x;exact wK e
 | dT kvs=>obtain⟨_,_,_,_,o,_,_,e,_⟩:=x;exact wK e
 | set S n=>obtain⟨o,_,_,_,e,_⟩:=x;exact wK e
 | ins C dx fs=>obtain⟨_,_,_,e,_⟩:=x;exact wK e
 | own y=>obtain⟨_,e⟩:=x;exact wK e
 | xd fs=>obtain⟨_,⟨_,_,_,e,_⟩,_⟩:=x;exact wK e
 | Bf lo hi=>obtain⟨_,_,_,e⟩:=x;exact wK e
 | jb ob u=>obtain⟨e,_⟩:=x;exact wK e
 | nU ps=>exact wK (show h.get? a=some _ from x)
 | met f y=>exact wK (show h.get? a=some _ from x)
 | ext φ=>obtain⟨_,⟨_,e⟩,_⟩:=x;exact wK e
theorem Paired.OY{α β : Type}{F G : α -> β -> Prop} : ∀{l₁ : .cc}{l₂ : List β},Paired F l₁ l₂ -> (∀a b,F a b->G a b)->Paired G l₁ l₂
 | _,_,.nil,_=>.nil
 | _,_,.cons r t,f=>.cons (f _ _ r) (Paired.OY t f)
theorem eZ.mT(x:eZ P w H h a o)(k:∀b u,(b=a\/H b=some (.own a))->h.get? b=some u->h'.get? b=some u)
  (ho:∀b,H b=some (.own a)->H' b=some (.own a)) (ht:∀b xs,H b=some (.tup xs)->H' b=some (.tup xs)):eZ P w H' h' a o:=by
 induction o with
 | lst xs=>obtain⟨z,its,n,r,e⟩:=x;exact⟨z,its,n,r,k _ _ .aI e⟩
 | tup xs=>obtain⟨z,its,r,ob,e,c⟩:=x;exact⟨z,its,r,ob,k _ _ .aI e,c⟩
 | dK kvs=>obtain⟨z,y,vs,r,ob,es,ep,e,c⟩:=x;exact⟨z,y,vs,r,ob,es,ep,k _ _ .aI e,c⟩
 | dT kvs =>
  obtain⟨z,y,xs,r,ob,es,ep,e,c⟩:=x;exact⟨z,y,xs,Paired.OY r λp q z=>⟨z.1,ht _ _ z.2.1,z.2.2⟩,ob,es,ep,k _ _ .aI e,c⟩
 | set S n=>obtain⟨ob,es,ep,t,e,c⟩:=x;exact⟨ob,es,ep,t,k _ _ .aI e,c⟩
 | ins C dx fs =>
  obtain⟨d,z,ne,e,mA,⟨od,es,ep,e2,c⟩,r⟩:=x;exact⟨ho _ d,z,ne,k _ _ .aI e,mA,⟨od,es,ep,k _ _ (.inr d) e2,c⟩,r⟩
 | own y=>obtain⟨ob,e⟩:=x;exact⟨ob,k _ _ .aI e⟩
 | xd fs=>obtain⟨mA,⟨od,es,ep,e,c⟩,r⟩:=x;exact⟨mA,⟨od,es,ep,k _ _ .aI e,c⟩,r⟩
 | Bf lo hi=>obtain⟨t,u,v,e⟩:=x;exact⟨t,u,v,k _ _ .aI e⟩
 | jb ob u ih=>obtain⟨e,q⟩:=x;exact⟨k _ _ .aI e,ih q⟩
 | nU ps =>
  have e:h.get? a=some {cls:=.none,data:=.fields ps}:=x
  show h'.get? a=some {cls:=.none,data:=.fields ps}
  exact k a _ .aI e
 | met f y =>
  have e:h.get? a=some (Q3 (.ref f) (.ref y)):=x
  show h'.get? a=some (Q3 (.ref f) (.ref y))
  exact k a _ .aI e
 | ext φ=>obtain⟨p,⟨o,e⟩,st⟩:=x;exact⟨st _ _ p λo q=>k _ _ .aI q,⟨o,k _ _ .aI e⟩,st⟩
theorem d7.lt(x:d7 P w H h)(e:H a=some o):a<h.objs.size:=(x a o e).lt
theorem d7.fresh(x:d7 P w H h)(e:h.objs.size<=a):H a=none:=by
 cases q:H a with
 | none=>rfl
 | some u=>exact absurd (vd (x.lt q) e) (Vj _)
theorem d7.kept(x:d7 P w H h)(k:∀b u,h.get? b=some u->h'.get? b=some u):d7 P w H h':=λa o e =>
 (x a o e).mT (λb u _ q=>k b u q) (λ_ q=>q) λ_ _ q=>q
theorem d7.laid(x:d7 P w H h)(k:∀b u,h.get? b=some u->h'.get? b=some u)(hp:h.objs.size<=a)(new:eZ P w (upd H a o) h' a o):d7 P w (upd H a o) h':=λb u e=>by
 have hn:=x.fresh hp
 by_cases hb:b=a
 ·subst hb;rw[dR]at e;cases e;exact new
 ·rw[fP hb]at e
  exact(x b u e).mT (λc v _ q=>k c v q) (λc q=>by rw[fP (mw q hn)];exact q) λc xs q=>by rw[fP (mw q hn)];exact q
end
def Rd(H:Hp)(a:wf)(u:HO):Prop:=H a=some u \/ ∃o,H a=some (.jb o u)
theorem Rd.ok{P:wT}{w:wX}{H:Hp}{h:wS}{a:wf}{u:HO}(r:Rd H a u)(x:d7 P w H h):eZ P w H h a u:=by
 rcases r with r | ⟨o,r⟩
 ·exact x a u r
 ·obtain⟨_,q⟩:=x a _ r
  exact q
def A4:Option HO->Prop
 | some (.lst _)=>True
 | some (.dK _)=>True
 | some (.dT _)=>True
 | some (.set _ _)=>True
 | some (.ins _ _ _)=>True
 | some (.ext _)=>True
 | _=>False
section
variable{P:wT}{w:wX}{H:Hp}{h h':wS}{x e:wf}{o':HO}
theorem d7.write(ok:d7 P w H h)(mu:A4 (H x))(he:e=x\/H e=some (.own x))(k:∀b u,b≠e->h.get? b=some u->h'.get? b=some u)(heo:∃u,h'.get? e=some u)
  (new:eZ P w (upd H x o') h' x o'):d7 P w (upd H x o') h':=λb u q=>by
 have nown:∀c y,H c=some (.own y)->c≠x:=λc y r z=>by subst z;rw[r]at mu;exact mu
 have ntup:∀c xs,H c=some (.tup xs)->c≠x:=λc xs r z=>by subst z;rw[r]at mu;exact mu
 by_cases hb:b=x
 ·subst hb;rw[dR]at q;cases q;exact new
 ·rw[fP hb]at q
  by_cases hbe:b=e
  ·have q':H b=some (.own x):=by
    rcases he with z | z
    ·exact absurd (hbe.trans z) hb
    ·rw[hbe];exact z
   rw[q]at q';cases q';obtain⟨v,hv⟩:=heo;exact⟨v,by rw[hbe];exact hv⟩
  ·refine(ok b u q).mT (λc v hc r=>k c v ?_ r) (λc r=>by rw[fP (nown c b r)];exact r) λc xs r=>by rw[fP (ntup c xs r)];exact r
   rcases hc with rfl | hc
   ·exact hbe
   ·rintro rfl
    rcases he with z | z
    ·exact nown c b hc z
    ·rw[hc]at z;cases z;exact hb rfl
end
structure Un(fs ex:.bZ)(H H':Hp)(h h':wS):Prop where
 keep:∀b o,h.get? b=some o->H b=none->b ∉ fs->b ∉ ex->h'.get? b=some o
 slot:∀b o,h.get? b=some o->H b=none->b∈fs->b ∉ ex->∃sl,h'.get? b=some {o with slots:=sl}
 free:∀b o,h.get? b=some o->H b=none->b ∉ ex->H' b=none
 there:∀b o,h.get? b=some o->b ∉ ex->∃o',h'.get? b=some o'
 j7:∀b xs,H b=some (.tup xs)->H' b=some (.tup xs)
 jK:∀b o u,H b=some (.jb o u)->H' b=some (.jb o u)
 j9:∀b ps,H b=some (.nU ps)->∃more,H' b=some (.nU (ps++more))
section
variable{fs fs' ex ex':.bZ}{H H1 H2:Hp}{h h1 h2 h':wS}{a x e:wf}{o:HO}
theorem Un.any(u:Un fs ex H H1 h h1){b:wf}{ob:Obj}(q:h.get? b=some ob)(n:H b=none)(hx:b ∉ ex):∃sl,h1.get? b=some {ob with slots:=sl}:=by
 by_cases hb:b∈fs
 ·exact u.slot b ob q n hb hx
 ·exact⟨ob.slots,u.keep b ob q n hb hx⟩
theorem Un.kept(k:∀b u,h.get? b=some u->h'.get? b=some u):Un fs ex H H h h' :=
 ⟨λb ob q _ _ _=>k b ob q,λb ob q _ _ _=>⟨ob.slots,k b ob q⟩,λ_ _ _ n _=>n,λb ob q _=>⟨ob,k b ob q⟩,λ_ _ q=>q,λ_ _ _ q=>q,λ_ ps q=>⟨#[],by rw[q];simp⟩⟩
theorem Un.refl:Un fs ex H H h h:=Un.kept λ_ _ q=>q
theorem Un.laid(k:∀b u,h.get? b=some u->h'.get? b=some u)(hp:h.objs.size<=a)(hn:H a=none):Un fs ex H (upd H a o) h h' where
 keep:=λb u q _ _ _=>k b u q
 slot:=λb u q _ _ _=>⟨u.slots,k b u q⟩
 free:=λb u q n _=>by rw[fP (w8 (vd (wK q) hp))];exact n
 there:=λb u q _=>⟨u,k b u q⟩
 j7:=λb xs q=>by rw[fP (mw q hn)];exact q
 jK:=λb u xs q=>by rw[fP (mw q hn)];exact q
 j9:=λb ps q=>⟨#[],by rw[fP (mw q hn),q];simp⟩
theorem Un.write(mu:A4 (H x))(he:e=x\/H e=some (.own x))(k:∀b u,b≠e->h.get? b=some u->h'.get? b=some u)(heo:∃u,h'.get? e=some u):Un fs ex H (upd H x o) h h':=by
 have hx:∀b,H b=none->b≠x:=λb n z=>by subst z;rw[n]at mu;exact mu
 have hb:∀b,H b=none->b≠e:=λb n z=>by
  subst z;rcases he with r | r
  ·exact hx b n r
  ·rw[n]at r;cases r
 have hm:∀b u,H b=some u->¬ A4 (some u)->b≠x:=λb u q nm z=>by subst z;rw[q]at mu;exact nm mu
 refine⟨λb u q n _ _=>k b u (hb b n) q,λb u q n _ _=>⟨u.slots,k b u (hb b n) q⟩,λb u q n _=>by rw[fP (hx b n)];exact n,λb u q _=>?_,
  λb xs q=>by rw[fP (hm b _ q λz=>z)];exact q,λb u xs q=>by rw[fP (hm b _ q λz=>z)];exact q,λb ps q=>⟨#[],by rw[fP (hm b _ q λz=>z),q];simp⟩⟩
 by_cases hbe:b=e
 ·subst hbe;exact heo
 ·exact⟨u,k b u hbe q⟩
end
def kC(h:wS)(H:Hp):List wf:=(wr h.objs.size).filter λa=>(H a).isSome
def ma(h:wS)(H:Hp):wS:=uv h (kC h H)
theorem zzl(h:wS)(H:Hp):(ma h H).objs.size=h.objs.size:=PySem.W.hideAll_size _ _
theorem zBS{h:wS}{H:Hp}{b:wf}{o:Obj}(e:h.get? b=some o)(n:H b=none):(ma h H).get? b=some o :=
 Xh _ e λhm=>by
  have q:(H b).isSome=true:=(ve.mp hm).2;rw[n]at q;simp at q
theorem zCT{h:wS}{H:Hp}{b:wf}{o:Obj}(e:(ma h H).get? b=some o):h.get? b=some o/\H b=none:=by
 have e':h.get? b=some o:=Xs (kC h H) e;refine⟨e',?_⟩;cases q:H b with
 | none=>rfl
 | some x =>
  have hm:b∈kC h H:=ve.mpr ⟨wN.mpr (wK e'),by simp[q]⟩;have z:(ma h H).get? b=none:=PySem.W.hideAll_none (kC h H) hm;rw[z]at e;cases e
def zCz(g h:wS)(L:wf):List (wf × Obj):=(wr h.objs.size).filterMap λa=>if a=L\/(g.get? a).isSome=true then none else(h.get? a).map λo=>(a,o)
def gc(g h:wS)(L d:wf):List (wf × Obj):=(zCz g h L).filter λp=>decide (p.1≠d)
structure Mod(K:wa)(mg:.M)(base:wS):Prop where
 ya:K.In base
 glob:base.Ns wV mg
 blt:∃mb,base.Ns builtinsNs mb /\ ∀x:Str,x≠"__name__" -> mb x=vX x
 nolimit:base.NoLimit
 seer:base.NoSeer
structure Cx where
 prog:wT
 w:wX
 K:wa
 mg:Str->Option wo
 base:wS
 A:vB
 N:List Str
 s₀ : wq
 H₀ : Hp
 env:Env
 outer:List Env
 stack:List Env
 ex:List wf
 fn:Str->Bool
 calm:Bool
 pn:List (wf × Obj)
 xe:wo->wq->Prop
def fo(l:.bT):List wf:=l.filterMap (·.frame)
abbrev Cx.fs(X:Cx):List wf:=fo X.outer
def tK(sc:Scope)(x:Str):Prop:=sc.names.lookup x=some .local\/sc.names.lookup x=some .cell\/sc.names.lookup x=some .free
def Loc(sc:Scope)(x:Str):Prop:=sc.names.lookup x=some .local\/sc.names.lookup x=some .cell
def zGY(env:Env)(h:wS)(m:.M)(x:Str)(u:wo):Prop :=
 (env.kindOf x=some .local/\m x=some u)\/((env.kindOf x=some .cell\/env.kindOf x=some .free) /\ ∃c,env.cells.lookup x=some c/\h.IsCell c (some u))
structure Cx.Ok(X:Cx):Prop where
 mod:Mod X.K X.mg X.base
 kind:X.env.scope.kind=.function
 glob:X.env.globals=wV
 blt:X.env.builtins=builtinsNs
 above:X.s₀.heap.objs.size<=X.env.locals
 inj:∀x y c,X.env.cells.lookup x=some c->X.env.cells.lookup y=some c->x=y
 has:∀x,(X.env.kindOf x=some .cell\/X.env.kindOf x=some .free)->∃c,X.env.cells.lookup x=some c
 nO:∀x c,X.fn x=true->X.env.cells.lookup x=some c->X.s₀.heap.objs.size<=c
 hd:X.calm=true->X.A.handled=none
 frames:X.A.frames=some X.stack
 oI:X.stack=X.outer\/(X.stack=X.env::X.outer/\X.env.frame=some X.env.locals)
 y8:∀b∈X.ex,b≠X.env.locals /\ ∀x c,X.env.cells.lookup x=some c->c≠b
 bs:∀b o,X.base.get? b=some o->X.s₀.heap.get? b=some o/\X.H₀ b=none
 kc:X.base.objs.size<=X.s₀.heap.objs.size
 mS:∀b o,X.base.get? b=some o->b ∉ X.ex
 oh:∀b∈X.ex,b ∉ X.fs
 gA:X.s₀.heap.FunFrames X.base X.outer
 lQ:∀b∈X.fs,X.H₀ b=none
structure Inv(X:Cx)(pins:.j)(σ : List (Option V))(H:Hp)(s:wq):Prop where
 ok:X.Ok
 os:s.os=X.s₀.os
 bare:AllBare s.gens
 base:Un X.fs X.ex X.H₀ H X.s₀.heap s.heap
 loc:∃m,s.heap.Ns X.env.locals m /\ ∀(i:Nat)(x:Str)(v:V),X.N[i]? = some x -> σ[i]? = some (some v)->tK X.env.scope x->∃u,bW v u/\zGY X.env s.heap m x u
 cell:∀x c,X.env.cells.lookup x=some c->∃v,s.heap.IsCell c v
 free:H X.env.locals=none
 iO:∀x c,X.env.cells.lookup x=some c->H c=none
 pin:∀p∈X.pn++pins,s.heap.get? p.1=some p.2/\H p.1=none/\p.1≠X.env.locals/\p.1 ∉ X.fs /\ ∀v,p.2.data≠.cell v
 aR:d7 X.prog X.w H s.heap
 len : σ.length=X.N.length
section
variable{X:Cx}{pins:.j}{σ : List (Option V)}{H H':Hp}{s:wq}{h':wS}
variable{i t':Nat}{ch:.bZ}{x:Str}
theorem Cx.Ok.aaJ(ok:X.Ok){b:wf}{o:Obj}(e:X.base.get? b=some o):b ∉ X.fs:=λhb=>by
 have:=(ok.gA.mem hb).1;rw[e]at this;cases this
theorem Inv.bs(I:.l):∀b o,X.base.get? b=some o->s.heap.get? b=some o/\H b=none:=λb o e =>
 ⟨I.base.keep b o (I.ok.bs b o e).1 (I.ok.bs b o e).2 (I.ok.aaJ e) (I.ok.mS b o e),I.base.free b o (I.ok.bs b o e).1 (I.ok.bs b o e).2 (I.ok.mS b o e)⟩
theorem Inv.bk(I:.l):∀b o,X.base.get? b=some o->s.heap.get? b=some o:=λb o e=>(I.bs b o e).1
theorem Inv.mod(I:.l):Mod X.K X.mg X.base:=I.ok.mod
theorem Inv.eU(I:.l):X.K.In s.heap:=I.ok.mod.ya.keeps I.bk
theorem Inv.nolimit(I:.l):s.heap.NoLimit:=I.ok.mod.nolimit.keeps I.bk
theorem Inv.lt(I:.l):X.env.locals<s.heap.objs.size:=let ⟨_,hn,_⟩:=I.loc;hn.lt
theorem Inv.sz(I:.l):X.s₀.heap.objs.size<=s.heap.objs.size:=Wt I.ok.above (WM I.lt)
theorem Inv.aaL(I:.l){a:wf}(h:s.heap.objs.size<=a):a ∉ X.fs:=λhb=>by
 obtain⟨_,o,ho,_⟩:=I.ok.gA.mem hb;exact absurd (vd (wK ho) (Wt I.sz h)) (Vj _)
theorem Inv.nY(I:.l):∀x c,X.env.cells.lookup x=some c->c≠X.env.locals:=λx c e z=>by
 obtain⟨v,o,ho,hd⟩:=I.cell x c e;obtain⟨m,⟨o',es,ep,ho',hd',_⟩,_⟩:=I.loc;rw[z,ho']at ho;cases ho;rw[hd']at hd;cases hd
theorem Inv.gA(I:.l):s.heap.FunFrames X.base X.outer:=by
 have all:∀(l:.bT),(∀b∈fo l,b∈X.fs)->X.s₀.heap.FunFrames X.base l->s.heap.FunFrames X.base l:=by
  intro l
  induction l with
  | nil=>intro _ _;trivial
  | cons env r ih =>
   intro hs hl;obtain⟨hk,⟨L,o,hf,hn,ho,hd⟩,hr⟩:=hl;have hL:L∈X.fs:=hs L (by unfold fo;rw[QJ,hf];exact wL);obtain⟨sl,e⟩:=I.base.slot L o ho (I.ok.lQ L hL) hL λz=>I.ok.oh L z hL
   exact⟨hk,⟨L,_,hf,hn,e,hd⟩,ih (λb hb=>hs b (by unfold fo;rw[QJ,hf];exact wH _ hb)) hr⟩
 exact all X.outer (λ_ hb=>hb) I.ok.gA
theorem Inv.stack(I:.l):s.heap.FunFrames X.base X.stack:=by
 rcases I.ok.oI with e | ⟨e,hf⟩
 ·rw[e];exact I.gA
 ·rw[e]
  obtain⟨m,hn,_⟩:=I.loc;refine .cons (by rw[I.ok.kind];decide) hf hn ?_ I.gA;exact Heap.get?_none_of_le (Wt I.ok.kc I.ok.above)
theorem Inv.pG(I:.l):∀b∈fo X.stack,b∈X.env.locals::X.fs:=λb hb=>by
 rcases I.ok.oI with e | ⟨e,hf⟩
 ·rw[e]at hb;exact wH _ hb
 ·rw[e]at hb
  unfold fo at hb;rw[QJ,hf]at hb;exact hb
theorem Inv.zt(I:.l):∀b∈fo X.stack,H b=none:=λb hb=>by
 rcases wO.mp (I.pG b hb)with e | hb
 ·rw[e];exact I.free
 ·obtain⟨_,o,ho,_⟩:=I.ok.gA.mem hb
  exact I.base.free b o ho (I.ok.lQ b hb) λz=>I.ok.oh b z hb
theorem Inv.step{g':Array GenState}{d':Drawn}(I:.l)
  (hch:∀b∈ch,(b∈X.ex\/X.s₀.heap.objs.size<=b)/\b≠X.env.locals/\(∀x c,X.env.cells.lookup x=some c->c≠b) /\ ∀p∈X.pn++pins,p.1≠b)
  (keep:∀b o,b≠X.env.locals->b ∉ X.fs->b ∉ ch->s.heap.get? b=some o->H b=none->h'.get? b=some o)
  (slot:∀b o,b≠X.env.locals->b∈X.fs->b ∉ ch->s.heap.get? b=some o->H b=none->∃sl,h'.get? b=some {o with slots:=sl}) (free:∀b o,b ∉ ch->s.heap.get? b=some o->H b=none->H' b=none)
  (there:∀b o,b ∉ ch->s.heap.get? b=some o->∃o',h'.get? b=some o')
  (j7:∀b xs,H b=some (.tup xs)->H' b=some (.tup xs)) (jK:∀b o u,H b=some (.jb o u)->H' b=some (.jb o u)) (j9:∀b ps,H b=some (.nU ps)->∃more,H' b=some (.nU (ps++more)))
  (ns:∀m,s.heap.Ns X.env.locals m->h'.Ns X.env.locals m) (aR:d7 X.prog X.w H' h') (hg:AllBare g') :
  Inv X pins σ H' {s with heap:=h',gens:=g',drawn:=d',toks:=t'}:=by
 have neL:∀b o,X.s₀.heap.get? b=some o->b≠X.env.locals:=λb o e=>w8 (vd (wK e) I.ok.above)
 have neC:∀b o,X.s₀.heap.get? b=some o->b ∉ X.ex->b ∉ ch:=λb o e hx hb=>by
  rcases (hch b hb).1 with z | z
  ·exact hx z
  ·exact absurd (vd (wK e) z) (Vj _)
 have cellK:∀x c,X.env.cells.lookup x=some c->∀v,s.heap.IsCell c v->h'.IsCell c v:=λx c e v ⟨o,ho,hd⟩=>by
  have nch:c ∉ ch:=λz=>(hch c z).2.2.1 x c e rfl
  by_cases hc:c∈X.fs
  ·obtain⟨sl,q⟩:=slot c o (I.nY x c e) hc nch ho (I.iO x c e)
   exact⟨_,q,hd⟩
  ·exact⟨o,keep c o (I.nY x c e) hc nch ho (I.iO x c e),hd⟩
 refine⟨I.ok,I.os,hg,⟨λb o e n hb hx=>?_,λb o e n hb hx=>?_,λb o e n hx=>?_,λb o e hx=>?_,λb xs e=>j7 b xs (I.base.j7 b xs e),λb o xs e=>jK b o xs (I.base.jK b o xs e),λb ps e=>?_⟩,?_,λx c e=>?_,?_,λx c e=>?_,λp hp=>?_,aR,I.len⟩
 ·exact keep b o (neL b o e) hb (neC b o e hx) (I.base.keep b o e n hb hx) (I.base.free b o e n hx)
 ·obtain⟨sl,e1⟩:=I.base.slot b o e n hb hx
  obtain⟨sl',e2⟩:=slot b _ (neL b o e) hb (neC b o e hx) e1 (I.base.free b o e n hx);exact⟨sl',e2⟩
 ·obtain⟨o',e1⟩:=I.base.there b o e hx
  exact free b o' (neC b o e hx) e1 (I.base.free b o e n hx)
 ·obtain⟨o',e1⟩:=I.base.there b o e hx
  exact there b o' (neC b o e hx) e1
 ·obtain⟨m1,e1⟩:=I.base.j9 b ps e
  obtain⟨m2,e2⟩:=j9 b _ e1;exact⟨m1++m2,by rw[e2,Xu]⟩
 ·obtain⟨m,hn,hl⟩:=I.loc
  refine⟨m,ns m hn,λi x v e1 e2 e3=>?_⟩;obtain⟨u,r,l⟩:=hl i x v e1 e2 e3;refine⟨u,r,?_⟩;rcases l with l | ⟨k,c,e,z⟩
  ·exact .inl l
  ·exact .inr ⟨k,c,e,cellK x c e _ z⟩
 ·obtain⟨v,z⟩:=I.cell x c e
  exact⟨v,cellK x c e v z⟩
 ·obtain⟨m,⟨o,_,_,ho,_⟩,_⟩:=I.loc
  exact free _ o (λz=>(hch _ z).2.1 rfl) ho I.free
 ·obtain⟨v,o,ho,hd⟩:=I.cell x c e
  exact free c o (λz=>(hch c z).2.2.1 x c e rfl) ho (I.iO x c e)
 ·obtain⟨e,n,ne,nf,d⟩:=I.pin p hp
  have nch:p.1 ∉ ch:=λz=>(hch p.1 z).2.2.2 p hp rfl
  exact⟨keep p.1 p.2 ne nf nch e n,free p.1 p.2 nch e n,ne,nf,d⟩
theorem Inv.un(I:.l)(u:Un X.fs [] H H' s.heap h')(aR:d7 X.prog X.w H' h'):Inv X pins σ H' {s with heap:=h',toks:=t'}:=by
 obtain⟨m,⟨o,es,ep,ho,r⟩,_⟩:=id I.loc;obtain⟨sl,hL⟩:=u.any ho I.free .u
 exact I.step (g':=s.gens) (d':=s.drawn) (ch:=[]) (λ_ z=>nomatch z) (λb o _ hb _ e n=>u.keep b o e n hb .u) (λb o _ hb _ e n=>u.slot b o e n hb .u) (λb o _ e n=>u.free b o e n .u) (λb o _ e=>u.there b o e .u) u.j7 u.jK u.j9 (λm' hm=>by
  obtain⟨o',es',ep',ho',r'⟩:=hm;rw[ho]at ho';cases ho';exact⟨_,es',ep',hL,r'⟩) aR I.bare
theorem Inv.call{g':Array GenState}{d':Drawn}(I:.l)(u:Un (fo X.stack) ch H H' s.heap h')(aR:d7 X.prog X.w H' h')(hg:AllBare g')
  (hch:∀b∈ch,(b∈X.ex\/X.s₀.heap.objs.size<=b)/\b≠X.env.locals/\(∀x c,X.env.cells.lookup x=some c->c≠b) /\ ∀p∈X.pn++pins,p.1≠b) :
  Inv X pins σ H' {s with heap:=h',gens:=g',drawn:=d',toks:=t'}:=by
 obtain⟨m,⟨o,es,ep,ho,r⟩,_⟩:=id I.loc;obtain⟨sl,hL⟩:=u.any ho I.free λz=>(hch _ z).2.1 rfl
 exact I.step (ch:=ch) hch (λb o hL hb hc e n=>u.keep b o e n (λz=>(wO.mp (I.pG b z)).elim hL hb) hc) (λb o _ _ hc e n=>u.any e n hc) (λb o hc e n=>u.free b o e n hc) (λb o hc e=>u.there b o e hc) u.j7 u.jK u.j9 (λm' hm=>by
  obtain⟨o',es',ep',ho',r'⟩:=hm;rw[ho]at ho';cases ho';exact⟨_,es',ep',hL,r'⟩) aR hg
theorem Inv.turned{it:wf}(I:.l)(k:∀b o,b≠it->s.heap.get? b=some o->h'.get? b=some o)(hn:H it=none)(hL:it≠X.env.locals)
  (h1:it∈X.ex\/X.s₀.heap.objs.size<=it) (h2:∀x c,X.env.cells.lookup x=some c->c≠it) (h3:∀p∈X.pn++pins,p.1≠it):Inv X pins σ H {s with heap:=h',toks:=t'}:=by
 have nit:∀b u,H b=some u->b≠it:=λb u e z=>by rw[z,hn]at e;cases e
 refine I.step (g':=s.gens) (d':=s.drawn) (ch:=[it]) (λb hb=>?_) (λb o _ _ hc e _=>k b o (λz=>hc (by simp[z])) e) (λb o _ _ hc e _=>⟨o.slots,k b o (λz=>hc (by simp[z])) e⟩) (λ_ _ _ _ n=>n)
  (λb o hc e=>⟨o,k b o (λz=>hc (by simp[z])) e⟩) (λ_ _ e=>e) (λ_ _ _ e=>e) (λb ps e=>⟨#[],by rw[e];simp⟩) (λm hm=>?_) (λb u e=>?_) I.bare
 ·have e:b=it:=by simpa using hb
  subst e;exact⟨h1,hL,h2,h3⟩
 ·obtain⟨o,es,ep,ho,r⟩:=hm
  exact⟨o,es,ep,k _ o (WN hL) ho,r⟩
 ·refine(I.aR b u e).mT (λc v hc q=>k c v ?_ q) (λ_ q=>q) λ_ _ q=>q
  rcases hc with z | z
  ·rw[z];exact nit b u e
  ·exact nit c _ z
theorem Inv.tok(I:.l)(t:Nat):Inv X pins σ H {s with toks:=t}:=I.un (h':=s.heap) (t':=t) Un.refl I.aR
theorem Inv.kept(I:.l)(k:∀b u,s.heap.get? b=some u->h'.get? b=some u):Inv X pins σ H {s with heap:=h',toks:=t'}:=I.un (Un.kept k) (I.aR.kept k)
theorem Inv.laid{a:wf}{o:HO}(I:.l)(k:∀b u,s.heap.get? b=some u->h'.get? b=some u)(hp:s.heap.objs.size<=a)(new:eZ X.prog X.w (upd H a o) h' a o) :
  Inv X pins σ (upd H a o) {s with heap:=h',toks:=t'}:=I.un (Un.laid k hp (I.aR.fresh hp)) (I.aR.laid k hp new)
theorem Inv.write{x e:wf}{o:HO}(I:.l)(mu:A4 (H x))(he:e=x\/H e=some (.own x))(k:∀b u,b≠e->s.heap.get? b=some u->h'.get? b=some u)(heo:∃u,h'.get? e=some u)
  (new:eZ X.prog X.w (upd H x o) h' x o):Inv X pins σ (upd H x o) {s with heap:=h',toks:=t'}:=I.un (Un.write mu he k heo) (I.aR.write mu he k heo new)
theorem Inv.Oz{pins':.j}(I:.l)(h:∀p∈pins',s.heap.get? p.1=some p.2/\H p.1=none/\p.1≠X.env.locals/\p.1 ∉ X.fs /\ ∀v,p.2.data≠.cell v):Inv X pins' σ H s :=
 ⟨I.ok,I.os,I.bare,I.base,I.loc,I.cell,I.free,I.iO,λp hp=>(vG.mp hp).elim (λz=>I.pin p (VS _ z)) (h p),I.aR,I.len⟩
theorem Tx{N:.U}(hN:N.Nodup){j:Nat}(a:N[i]? = some x)(b:N[j]? = some x):i=j:=by
 obtain⟨h1,e1⟩:=Vg.mp a;obtain⟨h2,e2⟩:=Vg.mp b;exact(List.getElem_inj hN).mp (e1.trans e2.symm)
theorem Rh{M:Model}{A:vB}{E:.n}{v:V}{u:wo}{Q:Unit->wq->Prop}(I:.l)(hN:X.N.Nodup)(hi:X.N[i]? = some x)(hx:Loc X.env.scope x)(r:bW v u)
  (h:∀s',Inv X pins (σ.set i (some v)) H s'->(∃a,Wd a s.heap s'.heap/\(a=X.env.locals\/X.env.cells.lookup x=some a))->Q () s') (hf:X.fn x=true\/X.env.scope.names.lookup x=some .local:=by first | exact .inl rfl | exact .inr rfl | assumption):wD M A (storeName X.env x u) Q E s:=by
 obtain⟨m,hn,hl⟩:=id I.loc;have hcls:(X.env.scope.kind == .class || (X.env.scope.kind == .module&&X.env.locals != X.env.globals))=false:=by rw[I.ok.kind];rfl
 have hiσ : i < σ.length:=by rw[I.len];exact(Vg.mp hi).1
 have nY:=I.nY
 have tracked:∀{a:wf}{h':wS},(∃o,s.heap.get? a=some o/\H a=none)->Wd a s.heap h'->d7 X.prog X.w H h':=λ{a h'} ha hs b ob e=>by
  obtain⟨_,_,hfree⟩:=ha;refine(I.aR b ob e).mT (λc w' hc q=>(hs.2 c ?_).trans q) (λ_ q=>q) λ_ _ q=>q
  rintro rfl;rcases hc with rfl | hc
  ·rw[hfree]at e;cases e
  ·rw[hfree]at hc;cases hc
 rcases hx with hk | hk
 ·refine wpAny_storeName_local hk hn (λh' hn' hs=>?_) hcls
  obtain⟨oL,_,_,hoL,_⟩:=id hn;refine h _ ⟨I.ok,I.os,I.bare,⟨λb o e n hb hx=>?_,λb o e n hb hx=>?_,I.base.free,λb o e hx=>?_,I.base.j7,I.base.jK,I.base.j9⟩,⟨_,hn',λj y v' e1 e2 e3=>?_⟩,λy c e=>?_,I.free,I.iO,λp hp=>?_,tracked ⟨oL,hoL,I.free⟩ hs,by simpa using I.len⟩ ⟨_,hs,.inl rfl⟩
  ·exact(hs.2 b (w8 (vd (wK e) I.ok.above))).trans (I.base.keep b o e n hb hx)
  ·obtain⟨sl,e1⟩:=I.base.slot b o e n hb hx
   exact⟨sl,(hs.2 b (w8 (vd (wK e) I.ok.above))).trans e1⟩
  ·obtain⟨o',e1⟩:=I.base.there b o e hx
   exact⟨o',(hs.2 b (w8 (vd (wK e) I.ok.above))).trans e1⟩
  ·by_cases hj:j=i
   ·subst hj
    rw[hi]at e1;cases e1;rw[xA hiσ]at e2;cases e2;exact⟨u,r,.inl ⟨hk,by simp⟩⟩
   ·rw[xV (WN hj)]at e2
    obtain⟨u',r',q⟩:=hl j y v' e1 e2 e3;refine⟨u',r',?_⟩;rcases q with⟨k,e⟩ | ⟨k,c,e,z⟩
    ·refine .inl ⟨k,?_⟩
     have:y≠x:=λe=>hj (Tx hN e1 (e ▸ hi))
     simp[this,e]
    ·exact .inr ⟨k,c,e,z.sameBut hs (nY y c e)⟩
  ·obtain⟨w',z⟩:=I.cell y c e
   exact⟨w',z.sameBut hs (nY y c e)⟩
  ·obtain⟨e,n,ne,nf,d⟩:=I.pin p hp
   exact⟨(hs.2 p.1 ne).trans e,n,ne,nf,d⟩
 ·have hfn:X.fn x=true:=by
   rcases hf with z | z
   ·exact z
   ·rw[z]at hk;cases hk
  obtain⟨c,hc⟩:=I.ok.has x (.inl hk);obtain⟨w',z⟩:=I.cell x c hc;refine wpAny_storeName_cell I.ok.kind hk hc z (λh' hc' hs=>?_);obtain⟨oc,hoc,hocd⟩:=id z;refine h {s with heap:=h'} ⟨I.ok,I.os,I.bare,⟨λb o e n hb hx=>?_,λb o e n hb hx=>?_,I.base.free,λb o e hx=>?_,I.base.j7,I.base.jK,I.base.j9⟩,⟨m,hn.sameBut hs (WN (nY x c hc)),λj y v' e1 e2 e3=>?_⟩,λy c' e=>?_,I.free,I.iO,λp hp=>?_,tracked ⟨oc,hoc,I.iO x c hc⟩ hs,by simpa using I.len⟩ ⟨c,hs,.inr hc⟩
  ·exact(hs.2 b (w8 (vd (wK e) (I.ok.nO x c hfn hc)))).trans (I.base.keep b o e n hb hx)
  ·obtain⟨sl,e1⟩:=I.base.slot b o e n hb hx
   exact⟨sl,(hs.2 b (w8 (vd (wK e) (I.ok.nO x c hfn hc)))).trans e1⟩
  ·obtain⟨o',e1⟩:=I.base.there b o e hx
   exact⟨o',(hs.2 b (w8 (vd (wK e) (I.ok.nO x c hfn hc)))).trans e1⟩
  ·by_cases hj:j=i
   ·subst hj
    rw[hi]at e1;cases e1;rw[xA hiσ]at e2;cases e2;exact⟨u,r,.inr ⟨.inl hk,c,hc,hc'⟩⟩
   ·rw[xV (WN hj)]at e2
    obtain⟨u',r',q⟩:=hl j y v' e1 e2 e3;refine⟨u',r',?_⟩;rcases q with q | ⟨k,c',e,z'⟩
    ·exact .inl q
    ·refine .inr ⟨k,c',e,z'.sameBut hs ?_⟩
     rintro rfl;exact hj (Tx hN e1 (I.ok.inj _ _ _ e hc ▸ hi))
  ·by_cases hcc:c'=c
   ·subst hcc;exact⟨_,hc'⟩
   ·obtain⟨w2,z2⟩:=I.cell y c' e
    exact⟨w2,z2.sameBut hs hcc⟩
  ·obtain⟨e,n,ne,nf,d⟩:=I.pin p hp
   refine⟨(hs.2 p.1 ?_).trans e,n,ne,nf,d⟩;intro q;rw[q,hoc]at e;have q':oc=p.2:=w6 e;exact d w' (by rw[<- q'];exact hocd)
theorem yg{M:Model}{A:vB}{E:.n}{v:V}{u:wo}{Q:Unit->wq->Prop}(I:.l)(hN:X.N.Nodup)(hi:X.N[i]? = some x)(hx:Loc X.env.scope x)(r:bW v u)
  (h:∀s',Inv X pins (σ.set i (some v)) H s'->Q () s') (hf:X.fn x=true\/X.env.scope.names.lookup x=some .local:=by first | exact .inl rfl | exact .inr rfl | assumption):wD M A (storeName X.env x u) Q E s :=
 Rh I hN hi hx r (λs' I' _=>h s' I') hf
theorem Inv.OP{s':wq}(I:.l)(ho:s'.os=s.os)(u:Un (fo X.stack) ch H H' s.heap s'.heap)(aR:d7 X.prog X.w H' s'.heap)(hg:AllBare s'.gens)
  (hch:∀b∈ch,(b∈X.ex\/X.s₀.heap.objs.size<=b)/\b≠X.env.locals/\(∀x c,X.env.cells.lookup x=some c->c≠b) /\ ∀p∈X.pn++pins,p.1≠b):Inv X pins σ H' s':=by
 obtain⟨h',g',d',t',o'⟩:=s';have e:o'=s.os:=ho;subst e;exact I.call (g':=g') (t':=t') (d':=d') u aR hg hch
end
abbrev XK:=wo->Option wf->Hp->Prop
abbrev St:=List (Option V)
abbrev VK:=V->Hp->Prop
abbrev TE:=St->Hp->VK->Prop
abbrev TT:=St->Hp->(Bool->Hp->Prop)->Prop
abbrev TA:=St->Hp->(List V->Hp->Prop)->Prop
structure df where
 nx:St->Hp->Prop
 rt:VK
 bk:St->Hp->Prop:=λ_ _=>False
 ct:St->Hp->Prop:=λ_ _=>False
abbrev TS:=df->St->Hp->Prop
def EP(X:Cx)(pins:.j)(σ : St)(Q:VK)(u:wo)(s':wq):Prop:=∃v H',Inv X pins σ H' s'/\bW v u/\Q v H'
def TP(X:Cx)(pins:.j)(σ : St)(Q:Bool->Hp->Prop)(b:Bool)(s':wq):Prop:=∃H',Inv X pins σ H' s'/\Q b H'
def AP(X:Cx)(pins:.j)(σ : St)(Q:List V->Hp->Prop)(us:.Y)(s':wq):Prop:=∃vs H',Inv X pins σ H' s'/\aZ vs us/\Q vs H'
def SP(X:Cx)(pins:.j)(D:df)(f:Flow)(s':wq):Prop :=
 match f with
 | .next=>∃σ' H',Inv X pins σ' H' s'/\D.nx σ' H'
 | .brk=>∃σ' H',Inv X pins σ' H' s'/\D.bk σ' H'
 | .cont=>∃σ' H',Inv X pins σ' H' s'/\D.ct σ' H'
 | .ret u=>∃v σ' H',Inv X pins σ' H' s'/\bW v u/\D.rt v H'
def PE(X:Cx)(e:Expr)(t:TE):Prop :=
 ∀(pins:.j)(s:wq)(σ : St)(H:Hp)(Q:VK),Inv X pins σ H s->t σ H Q->wD .m X.A (eval e X.env) .cw X.xe s
def PT(X:Cx)(e:Expr)(t:TT):Prop :=
 ∀(pins:.j)(s:wq)(σ : St)(H:Hp)(Q:Bool->Hp->Prop),Inv X pins σ H s->t σ H Q->wD .m X.A (isTrue e X.env (eval e X.env)) (TP X pins σ Q) X.xe s
def PW(X:Cx)(e:Expr)(t:TT):Prop :=
 ∀(whole:Sem wo)(pins:.j)(s:wq)(σ : St)(H:Hp)(Q:Bool->Hp->Prop),Inv X pins σ H s->t σ H Q->wD .m X.A (isTrue e X.env whole) (TP X pins σ Q) X.xe s
theorem PW.pt{X:Cx}{e:Expr}{t:TT}(h:PW X e t):PT X e t:=h _
def PA(X:Cx)(es:.aG)(t:TA):Prop :=
 ∀(pos:Pos)(pins:.j)(s:wq)(σ : St)(H:Hp)(Q:List V->Hp->Prop),Inv X pins σ H s->t σ H Q->wD .m X.A (spliced (VR pos .ci)) (AP X pins σ Q) X.xe s
def PS(X:Cx)(st:vc)(t:TS):Prop :=
 ∀(pins:.j)(s:wq)(σ : St)(H:Hp)(D:df),Inv X pins σ H s->t D σ H->wD .m X.A (exec st X.env) (SP X pins D) X.xe s
def gW(X:Cx)(st:List vc)(t:TS):Prop :=
 ∀(pins:.j)(s:wq)(σ : St)(H:Hp)(D:df),Inv X pins σ H s->t D σ H->wD .m X.A (execs st X.env) (SP X pins D) X.xe s
theorem aS{α : Type}{t:Sem α}{Q Q' : α -> wq->Prop}{M:Model}{A:vB}{E:.n}{s:wq}(h:wD M A t Q E s)(hQ:∀a s,Q a s->Q' a s):wD M A t Q' E s:=WU h hQ λ_ _ x=>x
section
variable{X:Cx}
variable{x:Str}{u:wo}
def nV1:St->Nat->(V->Prop)->Prop
 | [],_,_=>False
 | o::_,0,q=>(match o with|some v=>q v|none=>False)
 | _::σ,n+1,q=>nV1 σ n q
theorem nVe:∀{σ:St}{i:Nat}{q:V->Prop},nV1 σ i q->∃v,σ[i]? = some (some v)/\q v
 | some v::_,0,_,h=>⟨v,rfl,h⟩
 | none::_,0,_,h=>h.elim
 | _::σ,n+1,_,h=>nVe (σ:=σ) (i:=n) h
theorem nVo:∀{σ:St}{i:Nat}{q:V->Prop}{v:V},σ[i]? = some (some v)->q v->nV1 σ i q
 | _::_,0,_,_,h,k=>by cases h;exact k
 | _::σ,n+1,_,_,h,k=>nVo (σ:=σ) (i:=n) h k
def jM(i:Nat):TE:=λσ H Q=>nV1 σ i λv=>Q v H
def tC(v:V):TE:=λ_ H Q=>Q v H
theorem zBU{i:Nat}{pos:Pos}(hN:X.N[i]? = some x)(hv:tK X.env.scope x)(hd:.ai=false:=by decide)(hcd:(x == ("__classdict__" : Str))=false:=by decide):PE X (.Name x pos) (jM i):=by
 intro pins s σ H Q I h;obtain⟨v,e,h⟩:=nVe h;obtain⟨m,hn,hl⟩:=I.loc;obtain⟨u,r,l⟩:=hl i x v hN e hv;have fin:EP X pins σ Q u s:=⟨v,H,I,r,h⟩;rcases l with⟨hk,hm⟩ | ⟨hk,c,hc,hcell⟩
 ·exact wpAny_Name (wpAny_loadName_local I.ok.kind hk hn hm fin) hd
 ·rcases hk with hk | hk
  ·exact wpAny_Name (wpAny_loadName_cell I.ok.kind hk hc hcell fin) hd
  ·exact wpAny_Name (wpAny_loadName_free I.ok.kind hk hc hcell fin hcd) hd
theorem ar{i j pos} : PE X (.Constant (.int i) j pos) (tC (.int i)):=λ_ _ _ H _ I h=>wpAny_Constant_int ⟨.int i,H,I.tok _,⟨_,rfl⟩,h⟩
theorem d8{b j pos} : PE X (.Constant (.bool b) j pos) (tC (.bl b)):=λ_ _ _ H _ I h=>Constant_bool ⟨.bl b,H,I,rfl,h⟩
theorem gD{j pos} : PE X (.Constant .none j pos) (tC .bX):=λ_ _ _ H _ I h=>Constant_none ⟨.bX,H,I,rfl,h⟩
theorem fA{x j pos} : PE X (.Constant (.str x) j pos) (tC (.str x)):=λ_ _ _ H _ I h=>Calls.Constant_str ⟨.str x,H,I.tok _,⟨_,rfl⟩,h⟩
def Gl(X:Cx)(x:Str):Prop:=X.env.kindOf x=some .globalImplicit
theorem yo{E:.n}{pins:.j}{s:wq}{σ : St}{H:Hp}{pos:Pos}{Q:.n}(I:.l)(hg:Gl X x)(hm:X.mg x=some u)(h:Q u s)
  (hd:.ai=false:=by decide):wD .m X.A (eval (.Name x pos) X.env) Q E s :=
 QX I.ok.kind hg (Calls.loadGlobal_global (by rw[I.ok.glob];exact I.mod.glob.keeps I.bk) hm h) hd
theorem jH{E:.n}{pins:.j}{s:wq}{σ : St}{H:Hp}{pos:Pos}{Q:.n}(I:.l)(hg:Gl X x)(hm:X.mg x=none)(hv:vX x=some u)(h:Q u s)
  (hn:x≠"__name__":=by decide) (hd:.ai=false:=by decide):wD .m X.A (eval (.Name x pos) X.env) Q E s:=by
 obtain⟨mb,h1,h2⟩:=I.mod.blt;exact QX I.ok.kind hg (Calls.loadGlobal_builtin (by rw[I.ok.glob];exact I.mod.glob.keeps I.bk) hm (by rw[I.ok.blt];exact h1.keeps I.bk) ((h2 x hn).trans hv) h) hd
theorem cJ{v:V}{pos:Pos}(hg:Gl X x)(hm:X.mg x=some u)(r:bW v u)(hd:.ai=false:=by decide):PE X (.Name x pos) (tC v) :=
 λ_ _ _ H _ I h=>yo I hg hm ⟨v,H,I,r,h⟩ hd
theorem jR{v:V}{pos:Pos}(hg:Gl X x)(hm:X.mg x=none)(hv:vX x=some u)(r:bW v u)(hn:x≠"__name__":=by decide)(hd:.ai=false:=by decide):PE X (.Name x pos) (tC v) :=
 λ_ _ _ H _ I h=>jH I hg hm hv ⟨v,H,I,r,h⟩ hn hd
def t2I(ta tb:TE)(k:Int->Int->Hp->Prop):St->Hp->Prop:=λσ H=>ta σ H λx H1=>tb σ H1 λy H2=>∃i j,x=.int i/\y=.int j/\k i j H2
variable{a b:Expr}{ta tb:TE}{pos:Pos}
def PC(X:Cx)(op:CmpOp)(a b:Expr)(t:TE):Prop :=
 ∀(pins:.j)(s:wq)(σ : St)(H:Hp)(Q:VK),Inv X pins σ H s->t σ H Q ->
  wD .m X.A (eval a X.env) (λv s₁=>wD .m X.A (eval b X.env) (λu s₂=>wD .m X.A (vR op v u) .cw X.xe s₂) X.xe s₁) X.xe s
def sr(p:Int->Int->Bool)(ta tb:TE):TE:=λσ H Q=>t2I ta tb (λi j H2=>Q (.bl (p i j)) H2) σ H
abbrev tLt:TE->TE->TE:=sr λi j=>decide (i<j)
abbrev tLe:TE->TE->TE:=sr λi j=>decide (i<=j)
abbrev tGt:TE->TE->TE:=sr λi j=>decide (j<i)
abbrev tGe:TE->TE->TE:=sr λi j=>decide (j<=i)
abbrev zG6:TE->TE->TE:=sr λi j=>decide (i=j)
abbrev zG7:TE->TE->TE:=sr λi j=>!decide (i=j)
def tB(t:TE):TT:=λσ H Q=>t σ H λx H1=>∃c,x=.bl c/\Q c H1
theorem cF{e:Expr}{t:TE}(h:PE X e t)(he:∀whole,isTrue e X.env whole=(do let v <- whole;standAt e.pos;holding [v] (truthy v)):=by intro _;rfl):PT X e (tB t):=by
 intro pins s σ H Q I hw;refine isTrue_plain (aS (h pins s σ H _ I hw) λv s1 ⟨x,H1,I1,r1,q1⟩=>?_) (he _);obtain⟨d,rfl,q⟩:=q1;cases r1;exact WD ⟨H1,I1,q⟩
variable{tA tB':TT}{gc:.aG}
def Pn(t u:TT):TT:=λσ H Q=>t σ H λc H1=>if c=true then u σ H1 Q else Q false H1
def tOr(t u:TT):TT:=λσ H Q=>t σ H λc H1=>if c=true then Q true H1 else u σ H1 Q
def ZR(t:TT):TT:=λσ H Q=>t σ H λc H1=>Q (!c) H1
theorem lY(ha:PT X a tA):PW X (.BoolOp .And [a] pos) tA:=by
 intro wh pins s σ H Q I h;refine isTrue_and (aS (ha pins s σ H Q I h) λc s1 e=>?_);cases c with
 | true=>exact isTrue_and_nil e
 | false=>exact e
theorem g6(ha:PT X a tA):PW X (.BoolOp .Or [a] pos) tA:=by
 intro wh pins s σ H Q I h;refine isTrue_or (aS (ha pins s σ H Q I h) λc s1 e=>?_);cases c with
 | false=>exact isTrue_or_nil e
 | true=>exact e
theorem mB(ha:PT X a tA)(hb:PW X (.BoolOp .And (b::gc) pos) tB'):PW X (.BoolOp .And (a::b::gc) pos) (Pn tA tB'):=by
 intro wh pins s σ H Q I h;refine isTrue_and (aS .cO λc s1 ⟨H1,I1,q1⟩=>?_);cases c with
 | true=>exact hb wh pins s1 σ H1 Q I1 q1
 | false=>exact⟨H1,I1,q1⟩
theorem fI(ha:PT X a tA)(hb:PW X (.BoolOp .Or (b::gc) pos) tB'):PW X (.BoolOp .Or (a::b::gc) pos) (tOr tA tB'):=by
 intro wh pins s σ H Q I h;refine isTrue_or (aS .cO λc s1 ⟨H1,I1,q1⟩=>?_);cases c with
 | true=>exact⟨H1,I1,q1⟩
 | false=>exact hb wh pins s1 σ H1 Q I1 q1
theorem c7(ha:PT X a tA):PT X (.UnaryOp .Not a pos) (ZR tA):=by
 intro pins s σ H Q I h;exact isTrue_not (ha pins s σ H (λc H1=>Q (!c) H1) I h)
def Y3(ta tb:TE):TE:=λσ H Q=>ta σ H λx H1=>∃c,x=.bl c/\if c=true then tb σ H1 Q else Q .cn H1
def SE(ta:TE):TE:=λσ H Q=>ta σ H λx H1=>∃c,x=.bl c/\Q (.bl (!c)) H1
theorem gL{op}{t:TE}(h:PE X a t):PE X (.BoolOp op [a] pos) t:=λpins s σ H Q I hw=>BoolOp_one (h pins s σ H Q I hw)
theorem e_(ha:PE X a ta)(hb:PE X (.BoolOp .And (b::gc) pos) tb):PE X (.BoolOp .And (a::b::gc) pos) (Y3 ta tb):=by
 intro pins s σ H Q I h;refine BoolOp_and (aS .cO λv s1 ⟨x,H1,I1,r1,q1⟩=>?_);obtain⟨c,rfl,q1⟩:=q1;cases r1;refine WD ?_;cases c with
 | true=>exact hb pins s1 σ H1 Q I1 q1
 | false=>exact⟨.bl false,H1,I1,rfl,q1⟩
theorem rG(ha:PE X a ta):PE X (.UnaryOp .Not a pos) (SE ta):=by
 intro pins s σ H Q I h;refine UnaryOp_ (aS .cO λv s1 ⟨x,H1,I1,r1,q1⟩=>?_);obtain⟨c,rfl,q1⟩:=q1;cases r1;exact not_of (WD ⟨.bl (!c),H1,I1,rfl,q1⟩)
def tIf(t:TT)(ta tb:TE):TE:=λσ H Q=>t σ H λc H1=>if c=true then ta σ H1 Q else tb σ H1 Q
theorem sX{c:Expr}(hc:PT X c tA)(ha:PE X a ta)(hb:PE X b tb):PE X (.IfExp c a b pos) (tIf tA ta tb):=by
 intro pins s σ H Q I h;refine wpAny_IfExp (aS (hc pins s σ H _ I h) λd s1 ⟨H1,I1,q1⟩=>?_);cases d with
 | true=>exact ha pins s1 σ H1 Q I1 q1
 | false=>exact hb pins s1 σ H1 Q I1 q1
end
def aF(K:wa)(H:Hp)(a:wf)(xs:.x):Prop :=
 Rd H a .b7 \/
  ∃(o:Obj)(its:.aP)(n:Nat),K.lookup a=some o/\o.cls=.type "list"/\o.dict=none/\o.data=.seq its n/\its.size<=vn/\aZ xs its.toList
def a_(K:wa)(H:Hp)(a:wf)(xs:.x):Prop :=
 Rd H a (.tup xs) \/
  ∃(o:Obj)(its:.aP)(n:Nat),K.lookup a=some o/\o.cls=.type "tuple"/\o.data=.seq its n/\its.size<=vn/\aZ xs its.toList
def zGZ:wo->Option V
 | .none=>some .bX
 | .bool b=>some (.bl b)
 | .int i _=>some (.int i)
 | .str x _=>some (.str x)
 | .bytes b _=>some (.byt b)
 | .float b _=>some (.flt b)
 | .ref a=>some .bu
 | .type n=>some (.ty n)
 | _=>none
theorem bW.abs{x:V}{u:wo}(r:bW x u):zGZ u=some x:=by
 cases x with
 | bX=>cases r;rfl
 | bl _=>cases r;rfl
 | int _=>obtain⟨t,rfl⟩:=r;rfl
 | str _=>obtain⟨t,rfl⟩:=r;rfl
 | byt _=>obtain⟨t,rfl⟩:=r;rfl
 | flt _=>obtain⟨t,rfl⟩:=r;rfl
 | ref _=>cases r;rfl
 | ty _=>cases r;rfl
theorem bW.inj{x y:V}{u:wo}(r:bW x u)(q:bW y u):x=y:=w6 (r.abs.symm.trans q.abs)
theorem aZ.inj:∀{xs ys:.x}{us:.Y},aZ xs us->aZ ys us->xs=ys
 | _,_,_,.nil,.nil=>rfl
 | _,_,_,.cons r t,.cons r' t'=>by rw[r.inj r',aZ.inj t t']
section
variable{X:Cx}{pins:.j}{σ : St}{H:Hp}{s:wq}{a:wf}{xs ys:.x}
theorem aF.of{K:wa}(h:H a=some .b7):aF K H a xs:=.inl (.inl h)
theorem a_.of{K:wa}(h:H a=some (.tup xs)):a_ K H a xs:=.inl (.inl h)
theorem Inv.list(I:.l)(h:aF X.K H a xs):∃its:List wo,aZ xs its/\PlainL s.heap a its.toArray/\xs.length<=vn:=by
 rcases h with h | ⟨o,its,n,hk,hc,hd,hs,hz,r⟩
 ·obtain⟨z,its,n,r,e⟩:=h.ok I.aR
  exact⟨its,r,⟨_,n,e,rfl,rfl,rfl⟩,z⟩
 ·refine⟨its.toList,r,⟨o,n,I.eU a o hk,hc,hd,by simpa using hs⟩,?_⟩
  have e:=r.length;simp only[Vn]at e
  lia
theorem Inv.tuple(I:.l)(h:a_ X.K H a xs):∃its:List wo,aZ xs its/\IsTup s.heap a its.toArray/\xs.length<=vn:=by
 rcases h with h | ⟨o,its,n,hk,hc,hs,hz,r⟩
 ·obtain⟨z,its,r,p⟩:=h.ok I.aR
  exact⟨its,r,p,z⟩
 ·refine⟨its.toList,r,⟨o,I.eU a o hk,hc,n,by simpa using hs⟩,?_⟩
  have e:=r.length;simp only[Vn]at e
  lia
theorem Inv.DH(I:.l)(h:aF X.K H a xs)(h':aF X.K H a ys):xs=ys:=by
 obtain⟨its,r,⟨o,n,e,_,_,d⟩,_⟩:=I.list h;obtain⟨its',r',⟨o',n',e',_,_,d'⟩,_⟩:=I.list h';rw[e]at e';cases e';rw[d]at d'
 injection d' with d1 _
 have:its=its':=by simpa using congrArg u4 d1
 subst this;exact r.inj r'
theorem Inv.DD(I:.l)(h:a_ X.K H a xs)(h':a_ X.K H a ys):xs=ys:=by
 obtain⟨its,r,⟨o,e,_,n,d⟩,_⟩:=I.tuple h;obtain⟨its',r',⟨o',e',_,n',d'⟩,_⟩:=I.tuple h';rw[e]at e';cases e';rw[d]at d'
 injection d' with d1 _
 have:its=its':=by simpa using congrArg u4 d1
 subst this;exact r.inj r'
end
abbrev Cx.kM(X:Cx)(E:.n):Cx:={X with xe:=E}
abbrev Cx.C5(X:Cx):Cx:=X.kM λ_ _=>False
theorem Cx.Ok.kM{X:Cx}(ok:X.Ok)(E:.n):(X.kM E).Ok :=
 ⟨ok.mod,ok.kind,ok.glob,ok.blt,ok.above,ok.inj,ok.has,ok.nO,ok.hd,ok.frames,ok.oI,ok.y8,ok.bs,ok.kc,ok.mS,ok.oh,ok.gA,ok.lQ⟩
theorem Cx.Ok.mQ{X:Cx}{E:.n}(ok:(X.kM E).Ok):X.Ok :=
 ⟨ok.mod,ok.kind,ok.glob,ok.blt,ok.above,ok.inj,ok.has,ok.nO,ok.hd,ok.frames,ok.oI,ok.y8,ok.bs,ok.kc,ok.mS,ok.oh,ok.gA,ok.lQ⟩
section
variable{X:Cx}{pins:.j}{σ : St}{H:Hp}{s:wq}{E:.n}
theorem Inv.kM(I:.l)(E:.n):Inv (X.kM E) pins σ H s:=⟨I.ok.kM E,I.os,I.bare,I.base,I.loc,I.cell,I.free,I.iO,I.pin,I.aR,I.len⟩
theorem Inv.mQ(I:Inv (X.kM E) pins σ H s):Inv X pins σ H s:=⟨I.ok.mQ,I.os,I.bare,I.base,I.loc,I.cell,I.free,I.iO,I.pin,I.aR,I.len⟩
theorem SP.mQ{D:df}{f:Flow}{s':wq}(h:SP (X.kM E) pins D f s'):SP X pins D f s':=by
 cases f with
 | next=>obtain⟨σ',H',I,q⟩:=h;exact⟨σ',H',I.mQ,q⟩
 | brk=>obtain⟨σ',H',I,q⟩:=h;exact⟨σ',H',I.mQ,q⟩
 | cont=>obtain⟨σ',H',I,q⟩:=h;exact⟨σ',H',I.mQ,q⟩
 | ret u=>obtain⟨v,σ',H',I,r,q⟩:=h;exact⟨v,σ',H',I.mQ,r,q⟩
theorem gW.C5{st:List vc}{t:TS}(h:gW X.C5 st t):gW X st t:=λpins s σ H D I hw =>
 WU (h pins s σ H D (I.kM _) hw) (λ_ _ q=>q.mQ) λ_ _ z=>W8 z
end
section
variable{X:Cx}{st:vc}{gc:List vc}{t u:TS}{e:Expr}{te:TE}{pos:Pos}
def Uk:TS:=λD σ H=>D.nx σ H
def Ky(t u:TS):TS:=λD σ H=>t {D with nx:=u D} σ H
theorem bE:gW X [] Uk:=λ_ _ σ H _ I h=>qM ⟨σ,H,I,h⟩
theorem ak(h1:PS X st t)(h2:gW X gc u):gW X (st::gc) (Ky t u):=by
 intro pins s σ H D I h;refine wpAny_execs_cons (aS (h1 pins s σ H {D with nx:=u D} I h) λf s1 q=>?_);cases f with
 | next =>
  obtain⟨σ',H',I',q⟩:=q;exact h2 pins s1 σ' H' D I' q
 | ret v=>exact q
 | brk=>exact q
 | cont=>exact q
theorem av(h1:PS X st t):gW X [st] t:=by
 intro pins s σ H D I h;refine wpAny_execs_cons (aS (h1 pins s σ H D I h) λf s1 q=>?_);cases f with
 | next=>exact qM q
 | ret v=>exact q
 | brk=>exact q
 | cont=>exact q
theorem Inv.quiet{pins:.j}{σ : St}{H:Hp}{s:wq}(I:.l):interactive X.env=false:=by simp[interactive,I.ok.kind]
def YE(te:TE):TS:=λD σ H=>te σ H λ_ H1=>D.nx σ H1
theorem jP(he:PE X e te)(hs:swapsWith e none pos.line X.env=pure false:=by rfl):PS X (.Expr e pos) (YE te):=by
 intro pins s σ H D I h;exact wpAny_Expr_any (aS (he pins s σ H _ I h) λv s1 ⟨x,H1,I1,r1,q1⟩=>⟨σ,H1,I1,q1⟩) I.quiet hs
def zGs(te:TE):TS:=λD σ H=>te σ H D.rt
theorem aA(he:PE X e te):PS X (.Return (some e) pos) (zGs te):=by
 intro pins s σ H D I h;exact wpAny_Return_some (aS (he pins s σ H _ I h) λv s1 ⟨x,H1,I1,r1,q1⟩=>⟨x,σ,H1,I1,r1,q1⟩)
def zGP(c:TT)(t u:TS):TS:=λD σ H=>c σ H λb H1=>if b=true then t D σ H1 else u D σ H1
theorem aY{c:Expr}{a b:List vc}{tc:TT}(hc:PT X c tc)(ha:gW X a t)(hb:gW X b u):PS X (.If c a b pos) (zGP tc t u):=by
 intro pins s σ H D I h;refine wpAny_If (aS (hc pins s σ H _ I h) λd s1 ⟨H1,I1,q1⟩=>?_);cases d with
 | true=>exact ha pins s1 σ H1 D I1 q1
 | false=>exact hb pins s1 σ H1 D I1 q1
def zED:TS:=λ_ _ _=>False
theorem FX:PS X st zED:=λ_ _ _ _ _ _ h=>h.elim
end
abbrev TG:=V->St->Hp->(St->Hp->Prop)->Prop
abbrev mq:=List V->St->Hp->(St->Hp->Prop)->Prop
def PG(X:Cx)(target:Expr)(t:TG):Prop :=
 ∀(pins:.j)(s:wq)(σ : St)(H:Hp)(v:V)(u:wo)(Q:St->Hp->Prop),Inv X pins σ H s->bW v u->t v σ H Q ->
  wD .m X.A (assign target X.env u) (λ_ s'=>∃σ' H',Inv X pins σ' H' s'/\Q σ' H') X.xe s
def Cb(X:Cx)(ts:.aG)(t:mq):Prop :=
 ∀(pins:.j)(s:wq)(σ : St)(H:Hp)(vs:.x)(us:.Y)(Q:St->Hp->Prop),Inv X pins σ H s->aZ vs us->t vs σ H Q ->
  wD .m X.A (assignInOrder ((assignEach ts X.env).map (·.2)) us) (λ_ s'=>∃σ' H',Inv X pins σ' H' s'/\Q σ' H') X.xe s
abbrev Bc:=V->V->V->Hp->(Hp->Prop)->Prop
def zGJ(X:Cx)(t:Bc):Prop :=
 ∀(pins:.j)(s:wq)(σ : St)(H:Hp)(o i v:V)(ov iv u:wo)(Q:Hp->Prop),Inv X pins σ H s->bW o ov->bW i iv->bW v u->t o i v H Q ->
  wD .m X.A (setItem ov iv u) (λ_ s'=>∃H',Inv X pins σ H' s'/\Q H') X.xe s
abbrev tU:=V->V->Hp->VK->Prop
def TQ(X:Cx)(op:Operator)(t:tU):Prop :=
 ∀(pins:.j)(s:wq)(σ : St)(H:Hp)(x y:V)(v u:wo)(Q:VK),Inv X pins σ H s->bW x v->bW y u->t x y H Q ->
  wD .m X.A (inplaceOp op v u) .cw X.xe s
section
variable{X:Cx}{pos:Pos}
variable{i:Nat}{x:Str}{e:Expr}{te:TE}{pos':Pos}
def kj(i:Nat):TG:=λv σ H Q=>Q (σ.set i (some v)) H
theorem cC(hN:X.N.Nodup)(hi:X.N[i]? = some x)(hx:Loc X.env.scope x)(hf:X.fn x=true\/X.env.scope.names.lookup x=some .local:=by first | exact .inl rfl | exact .inr rfl | assumption):PG X (.Name x pos) (kj i):=by
 intro pins s σ H v u Q I r h;exact wpAny_assign_Name (yg I hN hi hx r (λs' I'=>⟨_,H,I',h⟩) hf)
def RN:mq:=λvs σ H Q=>vs=[]/\Q σ H
def RP(t:TG)(u:mq):mq:=λvs σ H Q=>∃v r,vs=v::r/\t v σ H λσ' H'=>u r σ' H' Q
theorem gQ :Cb X [] RN:=by
 intro pins s σ H vs us Q I r h;obtain⟨e,h⟩:=h;subst e;cases r;exact assignInOrder_nil ⟨σ,H,I,h⟩
theorem dg{es:.aG}{t:TG}{u:mq}(h1:PG X e t)(h2:Cb X es u)
  (hs:(assignEach (e::es) X.env).map (·.2)=assign e X.env::(assignEach es X.env).map (·.2):=by rfl):Cb X (e::es) (RP t u):=by
 intro pins s σ H vs us Q I r h;obtain⟨v,vr,e1,h⟩:=h;subst e1;cases r with
 | cons r rr =>
  rw[hs];refine assignInOrder_cons (aS (h1 pins s σ H _ _ _ I r h) λ_ s1 ⟨σ1,H1,I1,q1⟩=>?_);exact h2 pins s1 σ1 H1 _ _ Q I1 rr q1
def m9(K:wa)(n:Nat)(t:mq):TG:=λv σ H Q=>∃a xs,v=.ref a/\a_ K H a xs/\xs.length=n/\t xs σ H Q
theorem gZ{es:.aG}{k:Nat}{t:mq}{n:Nat}(hc:.bE)(h:Cb X es t)
  (hn:(assignEach es X.env).length=n:=by rfl) (hst:(assignEach es X.env).findIdx? (·.1)=none:=by rfl):PG X (.Tuple es k pos) (m9 X.K n t):=by
 intro pins s σ H v u Q I r hw;obtain⟨a,xs,e1,hq,hl,hw⟩:=hw;subst e1;cases r;obtain⟨its,rv,ht,hz⟩:=I.tuple hq;refine assign_Tuple_tuple .aW ht (by simp[hn,<- hl,rv.length]) hst λh' hx=>?_
 have I1:Inv X pins σ H {s with heap:=h'}:=I.kept (t':=s.toks) λb o e=>hx b o (w8 (wK e)) e
 exact h pins _ σ H xs _ Q I1 (by simpa using rv) hw
def YK(to ti:TE)(t:Bc):TG:=λv σ H Q=>to σ H λo H1=>ti σ H1 λi H2=>t o i v H2 λH3=>Q σ H3
theorem j3{o i:Expr}{to ti:TE}{t:Bc}(ho:PE X o to)(hi:PE X i ti)(hs:zGJ X t)
  (ha:∀v,assign (.Subscript o i pos) X.env v=(do
   let ov <- holding [v] (eval o X.env)
   let iv <- holding [v,ov] (eval i X.env)
   standAt pos
   holding [v,ov,iv] (setItem ov iv v)
   release [v,ov,iv] []):=by intro _;rfl):PG X (.Subscript o i pos) (YK to ti t):=by
 intro pins s σ H v u Q I r h;rw[ha];refine wp (Va (aS (ho pins s σ H _ I h) λov s1 ⟨x,H1,I1,r1,q1⟩=>?_));refine wp (Va (aS (hi pins s1 σ H1 _ I1 q1) λiv s2 ⟨y,H2,I2,r2,q2⟩=>?_));refine wp (wpAny_standAt (wp (Va (aS (hs pins s2 σ H2 x y v ov iv u _ I2 r1 r2 r q2) λ_ s3 ⟨H3,I3,q3⟩=>?_))));exact wpAny_release ⟨σ,H3,I3,q3⟩
def o_(te:TE)(g:TG):TS:=λD σ H=>te σ H λx H1=>g x σ H1 D.nx
theorem fQ{tg:Expr}{g:TG}(he:PE X e te)(hg:PG X tg g)(hs:swapsWithSole [tg] e pos.line X.env=pure false:=by rfl)(hw:swappedStores [tg] e X.env=pure none:=by rfl)
  (h1:(assignEach [tg] X.env).map (·.2)=[assign tg X.env]:=by rfl):PS X (.Assign [tg] e pos) (o_ te g):=by
 intro pins s σ H D I h;refine wpAny_Assign_stores (aS (he pins s σ H _ I h) λv s1 ⟨x,H1,I1,r1,q1⟩=>?_) hs hw;rw[h1];exact aS (hg pins s1 σ H1 x v _ I1 r1 q1) λ_ s2 q=>q
theorem zFc(hN:X.N.Nodup)(hi:X.N[i]? = some x)(hx:Loc X.env.scope x)(he:PE X e te)(hs:swapsWith e (some (.Name x pos')) pos.line X.env=pure false:=by rfl)(hf:X.fn x=true\/X.env.scope.names.lookup x=some .local:=by first | exact .inl rfl | exact .inr rfl | assumption) :
  PS X (.Assign [.Name x pos'] e pos) (o_ te (kj i)):=by
 intro pins s σ H D I h;refine wpAny_Assign_Name (aS (he pins s σ H _ I h) λv s1 ⟨y,H1,I1,r1,q1⟩=>?_) hs;exact yg I1 hN hi hx r1 (λs2 I2=>⟨_,H1,I2,q1⟩) hf
def Pp(i j:Nat)(ta:TA):TS:=λD σ H=>ta σ H λvs H1=>∃v w,vs=[v,w]/\D.nx ((σ.set i (some v)).set j (some w)) H1
theorem zFp{j:Nat}{y:Str}{a b:Expr}{ta:TA}{px py pt:Pos}{kt k2 pt2}(hc:.bE)(hN:X.N.Nodup)(hi:X.N[i]? = some x)(hj:X.N[j]? = some y)(hij:i≠j)
  (hx:X.env.scope.names.lookup x=some .local) (hy:X.env.scope.names.lookup y=some .local) (ha:PA X [a,b] ta)
  (hw:swappedStores [.Tuple [.Name x px,.Name y py] kt pt] (.Tuple [a,b] k2 pt2) X.env=pure (some [x,y]))
  (hs:swapsWithSole [.Tuple [.Name x px,.Name y py] kt pt] (.Tuple [a,b] k2 pt2) pos.line X.env=pure false:=by rfl) :
  PS X (.Assign [.Tuple [.Name x px,.Name y py] kt pt] (.Tuple [a,b] k2 pt2) pos) (Pp i j ta):=by
 intro pins s σ H D I h;rw[exec_Assign_arm];refine wp (wpAny_standAt ?_);rw[hs];refine wp (wI ?_);rw[if_neg .ab];refine wp (Tuple_ (aS (ha _ pins s σ H _ I h) λus s1 ⟨vs,H1,I1,r1,q1⟩=>?_));obtain⟨v,w,e1,q1⟩:=q1;subst e1
 obtain⟨u1,u2,rfl,rv,rw'⟩:∃u1 u2,us=[u1,u2]/\bW v u1/\bW w u2:=by
  cases r1 with
  | cons p q =>
   cases q with
   | cons p' q' =>
    cases q';exact⟨_,_,rfl,p,p'⟩
 refine WZ ?_ (by show 2<=vn;decide);have I2:Inv X pins σ H1 {s1 with heap:=s1.heap.push {cls:=.type "tuple",data:=.seq [u1,u2].toArray}}:=I1.kept (t':=s1.toks) λb o e=>wt _ e
 rw[hw];refine wp (wI ?_)
 show wD .m X.A (do rule "assign.swapped-stores";let items <- unpackItems (.ref s1.heap.objs.size) 2 none;assignInOrder [λv=>bindName X.env y v,λv=>bindName X.env x v] items.reverse;pure Flow.next) _ _ _
 refine wp (wpAny_rule (wp (unpackItems_tuple (items:=#[u1,u2]) .aW (Qr s1.heap _) λh' hx'=>?_)));have I3:=I2.kept (h':=h') (t':=s1.toks) λb o e=>hx' b o (w8 (wK e)) e
 show wD _ _ (assignInOrder [λv=>bindName X.env y v,λv=>bindName X.env x v] [u2,u1] >>= λ_=>pure Flow.next) _ _ _
 refine wp (assignInOrder_cons (wpAny_bindName (yg I3 hN hj (.inl hy) rw' (λs2 I4=>?_) (.inr hy))));refine assignInOrder_cons (wpAny_bindName (yg I4 hN hi (.inl hx) rv (λs3 I5=>assignInOrder_nil (wI ?_)) (.inr hx)));rw[List.set_comm _ _ (WN hij)]at I5;exact⟨_,H1,I5,q1⟩
def YZ(i:Nat)(te:TE)(ti:tU):TS:=λD σ H=>∃x,σ[i]? = some (some x)/\te σ H λy H1=>ti x y H1 λz H2=>D.nx (σ.set i (some z)) H2
theorem zFm{op:Operator}{ti:tU}(hN:X.N.Nodup)(hi:X.N[i]? = some x)(hx:Loc X.env.scope x)(he:PE X e te)(ho:TQ X op ti)(hf:X.fn x=true\/X.env.scope.names.lookup x=some .local:=by first | exact .inl rfl | exact .inr rfl | assumption) :
  PS X (.AugAssign (.Name x pos') op e pos) (YZ i te ti):=by
 intro pins s σ H D I h;obtain⟨v,e1,h⟩:=h;obtain⟨m,hn,hl⟩:=I.loc;have JQ:tK X.env.scope x:=by rcases hx with k | k;exact .inl k;exact .inr (.inl k)
 obtain⟨u,r,l⟩:=hl i x v hi e1 JQ;refine wpAny_AugAssign_Name ?_
 have go:wD .m X.A (eval e X.env) (λw s₂=>wD .m X.A (inplaceOp op u w) (λr s₃=>wD .m X.A (storeName X.env x r) (λ_=>SP X pins D .next) X.xe s₃) X.xe s₂) X.xe s:=by
  refine aS (he pins s σ H _ I h) λw s1 ⟨y,H1,I1,r1,q1⟩=>?_
  refine aS (ho pins s1 σ H1 v y u w _ I1 r r1 q1) λz s2 ⟨zv,H2,I2,r2,q2⟩=>?_
  exact yg I2 hN hi hx r2 (λs3 I3=>⟨_,H2,I3,q2⟩) hf
 rcases l with⟨hk,hm⟩ | ⟨hk,c,hc,hcell⟩
 ·exact wpAny_loadName_local I.ok.kind hk hn hm go
 ·rcases hk with hk | hk
  ·exact wpAny_loadName_cell I.ok.kind hk hc hcell go
  ·rcases hx with k | k
   ·have:X.env.scope.names.lookup x=some .free:=hk
    rw[k]at this;cases this
   ·have:X.env.scope.names.lookup x=some .free:=hk
    rw[k]at this;cases this
def U4(f:Int->Int->Int):tU:=λx y H Q=>∃i j,x=.int i/\y=.int j/\Q (.int (f i j)) H
theorem zEy :TQ X .Add (U4 λi j=>i+j):=by
 intro pins s σ H x y v u Q I r1 r2 h;obtain⟨i,j,e1,e2,q⟩:=h;subst e1;subst e2;obtain⟨t,rfl⟩:=r1;obtain⟨t',rfl⟩:=r2;exact iadd_int ⟨.int _,H,I.tok _,⟨_,rfl⟩,q⟩
end
section
variable{X:Cx}{pos:Pos}
def Fo(c:TT)(tb:TS):TS:=λD σ H=>∃W:Nat->St->Hp->Prop,(∃m,W m σ H) /\ ∀m σ H,W m σ H ->
 c σ H λb H1=>if b=true then ∃N:St->Hp->Prop,(∀σ' H',N σ' H'->∃m',m'<m/\W m' σ' H')/\tb {D with nx:=N,ct:=N,bk:=D.nx} σ H1 else D.nx σ H1
theorem nI{c:Expr}{body:List vc}{tc:TT}{tb:TS}(hp:PassesOwn .m X.A X.env X.xe)(hc:PT X c tc)(hb:gW X body tb):PS X (.While c body [] pos) (Fo tc tb):=by
 intro pins s σ H D I h;obtain⟨W,⟨m0,w0⟩,turn⟩:=h;refine wpAny_While (codeAny_whileLoop (λn s'=>∃σ' H',Inv X pins σ' H' s'/\W n σ' H') ?_ m0 ⟨σ,H,I,w0⟩);rintro n s1 hz;obtain⟨σ1,H1,I1,w1⟩:=hz;refine VJ hp (aS (hc pins s1 σ1 H1 _ I1 (turn n σ1 H1 w1)) λb s2 ⟨H2,I2,q2⟩=>?_);cases b with
 | true =>
  obtain⟨N,hN,q2⟩:=q2;rw[if_pos rfl];refine VJ hp (aS (hb pins s2 σ1 H2 _ I2 q2) λf s3 q3=>?_);cases f with
  | next =>
   obtain⟨σ3,H3,I3,n3⟩:=q3;obtain⟨m',hm,w3⟩:=hN σ3 H3 n3;exact⟨m',hm,σ3,H3,I3,w3⟩
  | cont =>
   obtain⟨σ3,H3,I3,n3⟩:=q3;obtain⟨m',hm,w3⟩:=hN σ3 H3 n3;exact⟨m',hm,σ3,H3,I3,w3⟩
  | brk=>exact q3
  | ret v=>exact q3
 | false =>
  rw[if_neg vU];exact qM ⟨σ1,H2,I2,q2⟩
end
variable{tg:Expr}{P:wT}{w:wX}{K:wa}
structure It where
 go:Nat->Hp->Prop
 gM:Nat->Hp->V->Hp->Prop
 stop:Nat->Hp->Prop
def fY(X:Cx)(pins:.j)(H:Hp)(b:wf):Prop :=
 H b=none/\b≠X.env.locals/\b ∉ X.fs/\(b∈X.ex\/X.s₀.heap.objs.size<=b)/\(∀x c,X.env.cells.lookup x=some c->c≠b) /\ ∀p∈X.pn++pins,p.1≠b
theorem Inv.lT{X:Cx}{pins:.j}{σ : St}{H H':Hp}{s:wq}{b:wf}(I:.l)(hb:s.heap.objs.size<=b)(hn:H' b=none):fY X pins H' b:=by
 refine⟨hn,vH (vd I.lt hb),I.aaL hb,.inr (Wt I.sz hb),λx c e z=>?_,λp hp z=>?_⟩
 ·obtain⟨v,q⟩:=I.cell x c e
  exact absurd (vd q.lt (by rw[z];exact hb)) (Vj _)
 ·exact absurd (vd (wK (I.pin p hp).1) (by rw[z];exact hb)) (Vj _)
structure lD(P:wT)(w:wX)(K:wa)(tg:Expr)(J:It)(fp:.bZ)(it:wf)(tn:Nat->wS->Prop):Prop where
 mem:it∈fp
 obj:∀i h,tn i h->∀b∈fp,∃o,h.get? b=some o /\ ∀v,o.data≠.cell v
 keep:∀i h h',tn i h->(∀b∈fp,∀o,h.get? b=some o->h'.get? b=some o)->tn i h'
 item:∀(X:Cx),X.prog=P->X.w=w->X.K=K->X.calm=true->∀(i:Nat)(pins:.j)(s:wq)(σ : St)(H:Hp)(E:.n),Inv X pins σ H s->(∀b∈fp,fY X pins H b)->tn i s.heap->J.go i H ->
   wD (model P w) X.A (pyNext .cK) (λr s1=>∃u,r=some u /\
     wD (model P w) X.A (qN tg .cK u) (λ_ s2=>∃x H',Inv X pins σ H' s2/\bW x u/\J.gM i H x H'/\tn (i+1) s2.heap /\ ∀b∈fp,H' b=none) E s1) E s
 done:∀(X:Cx),X.prog=P->X.w=w->X.K=K->X.calm=true->∀(i:Nat)(pins:.j)(s:wq)(σ : St)(H:Hp)(E:.n),Inv X pins σ H s->(∀b∈fp,fY X pins H b)->tn i s.heap->J.stop i H ->
   wD (model P w) X.A (pyNext .cK) (λr s1=>r=none/\Inv X pins σ H s1) E s
 self:∀(A:vB)(i:Nat)(s:wq)(Q:.n)(E:.n),tn i s.heap->Q .cK s->wD (model P w) A (pyIter .cK) Q E s
abbrev TI:=St->Hp->(It->Hp->Prop)->Prop
def EZ(X:Cx)(pins:.j)(σ : St)(tg:Expr)(R:It->Hp->Prop)(itv:wo)(s2:wq):Prop :=
 ∃(it:wf)(fp:.bZ)(tn:Nat->wS->Prop)(J:It)(H':Hp),itv=.ref it/\Inv X pins σ H' s2/\lD X.prog X.w X.K tg J fp it tn/\tn 0 s2.heap/\(∀b∈fp,fY X pins H' b)/\R J H'
def PI(X:Cx)(tg iter:Expr)(wi:TI):Prop :=
 ∀(pins:.j)(s:wq)(σ : St)(H:Hp)(R:It->Hp->Prop),Inv X pins σ H s->wi σ H R ->
  wD .m X.A (eval iter X.env) (λv s1=>wD .m X.A (pyIter v) (EZ X pins σ tg R) X.xe s1) X.xe s
theorem GX{M:Model}{A:vB}{E:.n}{s:wq}{it:wf}{u:wo}{o:Obj}{n:.am}{vs:.aP}{Q:Unit->wq->Prop}(ho:s.heap.get? it=some o)(hc:o.cls=.type n)(hd:o.data=.fields vs)
   (hn:["enumerate","zip","dict_itemiterator","dict_reverseitemiterator","odict_iterator","itertools.zip_longest","itertools.pairwise"].contains n=false) (hQ:Q () s):wD M A (qN tg .cK u) Q E s:=by
 unfold qN
 cases tg<;>first
   | exact wI hQ
   | (cases u<;>first
       | exact wI hQ
       | (refine wp (wpAny_load ho ?_)
          rw[hc,hd]
          show wD M A (if(["enumerate","zip","dict_itemiterator","dict_reverseitemiterator","odict_iterator","itertools.zip_longest","itertools.pairwise"].contains n&&vs[0]? == some (Vq _))=true then _ else _) Q E s
          rw[if_neg (by intro h;rw[hn,WO]at h;cases h)];exact wI hQ))
def k9(K:wa)(a:wf):It :=
 ⟨λi H=>∃xs x,aF K H a xs/\xs[i]? = some x,λi H x H'=>H'=H /\ ∀xs,aF K H a xs->xs[i]? = some x,λi H=>∃xs,aF K H a xs/\xs.length<=i⟩
def kX(K:wa)(a:wf):It :=
 ⟨λi H=>∃xs x,a_ K H a xs/\xs[i]? = some x,λi H x H'=>H'=H /\ ∀xs,a_ K H a xs->xs[i]? = some x,λi H=>∃xs,a_ K H a xs/\xs.length<=i⟩
def iY(lo:Int)(n:Nat):It:=⟨λi _=>i<n,λi H x H'=>H'=H/\x=.int (lo+i),λi _=>n<=i⟩
theorem zry(a it:wf):lD P w K tg (k9 K a) [it] it (λi h=>h.IsListIter it a i) where
 mem:=by simp
 obj:=λi h st b hb=>by
  have e:b=it:=by simpa using hb
  subst e;obtain⟨o,e,c,d⟩:=st;exact⟨o,e,λv z=>by rw[d]at z;cases z⟩
 keep:=λi h h' st k=>st.at λo e=>k it .u o e
 item:=by
  intro X hP hw hK hc i pins s σ H E I hf st hg;subst hP hw hK;obtain⟨xs,x,hq,hx⟩:=hg;obtain⟨its,rv,p,hz⟩:=I.list hq;obtain⟨u,hu,ru⟩:=rv.get hx;obtain⟨f0,f1,f2,f3,f4,f5⟩:=hf it .u;refine wpAny_pyNext_list_item st p.isList (x:=u) (by simpa using hu) λh' st' sb=>?_
  have I1:Inv X pins σ H {s with heap:=h'}:=I.turned (t':=s.toks) (λb o hb e=>(sb.2 b hb).trans e) f0 f1 f3 f4 f5;obtain⟨o,e,c,d⟩:=id st';exact⟨u,rfl,GX (s:={s with heap:=h'}) e c d .ab ⟨x,H,I1,ru,⟨rfl,λys hy=>by rw[I.DH hy hq];exact hx⟩,st',λb hb=>(hf b hb).1⟩⟩
 done:=by
  intro X hP hw hK hc i pins s σ H E I hf st hg;subst hP hw hK;obtain⟨xs,hq,hx⟩:=hg;obtain⟨its,rv,p,hz⟩:=I.list hq;obtain⟨f0,f1,f2,f3,f4,f5⟩:=hf it .u;have hl:=rv.length;exact wpAny_pyNext_list_end .aW st p.isList .aw λh' eb=>⟨rfl,I.turned (t':=s.toks) (λb o hb e=>eb b o hb e) f0 f1 f3 f4 f5⟩
 self:=λ_ _ _ _ _ st h=>wpAny_pyIter_listiter st h
theorem UA(a it:wf):lD P w K tg (kX K a) [it] it (λi h=>h.IsTupleIter it a i) where
 mem:=by simp
 obj:=λi h st b hb=>by
  have e:b=it:=by simpa using hb
  subst e;obtain⟨o,e,c,d⟩:=st;exact⟨o,e,λv z=>by rw[d]at z;cases z⟩
 keep:=λi h h' st k=>st.at λo e=>k it .u o e
 item:=by
  intro X hP hw hK hc i pins s σ H E I hf st hg;subst hP hw hK;obtain⟨xs,x,hq,hx⟩:=hg;obtain⟨its,rv,p,hz⟩:=I.tuple hq;obtain⟨u,hu,ru⟩:=rv.get hx;obtain⟨f0,f1,f2,f3,f4,f5⟩:=hf it .u;refine wpAny_pyNext_tuple_item st (show s.heap.IsTuple a its.toArray from p) (x:=u) (by simpa using hu) λh' st' sb=>?_
  have I1:Inv X pins σ H {s with heap:=h'}:=I.turned (t':=s.toks) (λb o hb e=>(sb.2 b hb).trans e) f0 f1 f3 f4 f5;obtain⟨o,e,c,d⟩:=id st';exact⟨u,rfl,GX (s:={s with heap:=h'}) e c d .ab ⟨x,H,I1,ru,⟨rfl,λys hy=>by rw[I.DD hy hq];exact hx⟩,st',λb hb=>(hf b hb).1⟩⟩
 done:=by
  intro X hP hw hK hc i pins s σ H E I hf st hg;subst hP hw hK;obtain⟨xs,hq,hx⟩:=hg;obtain⟨its,rv,p,hz⟩:=I.tuple hq;obtain⟨f0,f1,f2,f3,f4,f5⟩:=hf it .u;have hl:=rv.length;exact wpAny_pyNext_tuple_end .aW st (show s.heap.IsTuple a its.toArray from p) .aw λh' eb=>⟨rfl,I.turned (t':=s.toks) (λb o hb e=>eb b o hb e) f0 f1 f3 f4 f5⟩
 self:=λ_ _ _ _ _ st h=>wpAny_pyIter_tupleiter st h
theorem zvY(it:wf)(lo:Int)(n:Nat):lD P w K tg (iY lo n) [it] it (λi h=>IsRangeIter h it (lo+(i:Nat)*1) ((n:Int)-(i:Nat)) 1) where
 mem:=by simp
 obj:=λi h st b hb=>by
  have e:b=it:=by simpa using hb
  subst e
  exact⟨_,st,λv z=>by
   have z':Data.fields _=Data.cell v:=z;cases z'⟩
 keep:=λi h h' st k=>k it .u _ st
 item:=by
  intro X hP hw hK hc i pins s σ H E I hf st hg;subst hP hw hK;obtain⟨f0,f1,f2,f3,f4,f5⟩:=hf it .u;have W:=Walks.range (prog:=X.prog) (w:=X.w) .aW it lo 1 n;refine W.item i s _ _ hg st λv h' tk hv st' kk=>?_
  obtain⟨t,rfl⟩:=hv;have I1:Inv X pins σ H {s with heap:=h',toks:=tk}:=I.turned (λb o hb e=>kk b o (by simpa using hb) e) f0 f1 f3 f4 f5;refine⟨_,rfl,GX (s:={s with heap:=h',toks:=tk}) (n:="range_iterator") st' rfl rfl .ab ⟨.int (lo+i),H,I1,⟨t,?_⟩,⟨rfl,rfl⟩,st',λb hb=>(hf b hb).1⟩⟩;rw[Qh]
 done:=by
  intro X hP hw hK hc i pins s σ H E I hf st hg;subst hP hw hK;obtain⟨f0,f1,f2,f3,f4,f5⟩:=hf it .u;exact wpAny_pyNext_range_end .aW st (by have:n<=i:=hg;lia) λh' eb=>⟨rfl,I.turned (t':=s.toks) (λb o hb e=>eb b o hb e) f0 f1 f3 f4 f5⟩
 self:=λ_ _ _ _ _ st h=>wpAny_pyIter_rangeiter st h
section
variable{X:Cx}{tg:Expr}
variable{σ:St}{H:Hp}{s:wq}{fp:.bZ}
def F7(K:wa)(tl:TE):TI:=λσ H R=>tl σ H λx H1=>∃a,x=.ref a/\(∃xs,aF K H1 a xs)/\R (k9 K a) H1
def Y2(K:wa)(tl:TE):TI:=λσ H R=>tl σ H λx H1=>∃a,x=.ref a/\(∃xs,a_ K H1 a xs)/\R (kX K a) H1
theorem fT{l:Expr}{tl:TE}(hl:PE X l tl):PI X tg l (F7 X.K tl):=by
 intro pins s σ H R I h;refine aS (hl pins s σ H _ I h) λv s1 ⟨x,H1,I1,r1,q1⟩=>?_
 obtain⟨a,e,⟨xs,hq⟩,q⟩:=q1;subst e;cases r1;obtain⟨its,rv,p,hz⟩:=I1.list hq;refine qm p.isList ?_;refine⟨s1.heap.objs.size,[s1.heap.objs.size],_,_,H1,rfl,I1.kept (t':=s1.toks) λb o e=>wt _ e,zry a _,⟨_,wY _ rfl,rfl,rfl⟩,λb hb=>?_,q⟩;have e:b=s1.heap.objs.size:=by simpa using hb
 subst e;exact I1.lT .ax (I1.aR.fresh .ax)
theorem kZ{l:Expr}{tl:TE}(hl:PE X l tl):PI X tg l (Y2 X.K tl):=by
 intro pins s σ H R I h;refine aS (hl pins s σ H _ I h) λv s1 ⟨x,H1,I1,r1,q1⟩=>?_
 obtain⟨a,e,⟨xs,hq⟩,q⟩:=q1;subst e;cases r1;obtain⟨its,rv,p,hz⟩:=I1.tuple hq;refine VE (show s1.heap.IsTuple a its.toArray from p) ?_;refine⟨s1.heap.objs.size,[s1.heap.objs.size],_,_,H1,rfl,I1.kept (t':=s1.toks) λb o e=>wt _ e,UA a _,⟨_,wY _ rfl,rfl,rfl⟩,λb hb=>?_,q⟩;have e:b=s1.heap.objs.size:=by simpa using hb
 subst e;exact I1.lT .ax (I1.aR.fresh .ax)
theorem zvz{pins:.j}{R:It->Hp->Prop}{E:.n}{lo hi:Int}{t u v:Tok}{tk:Nat}(I:.l)(h1 : -(2^62)<=lo)(h2:lo<2^62)(h3 : -(2^62)<=hi)(h4:hi<2^62)
  (q:R (iY lo (hi-lo).toNat) H):wD .m X.A (pyIter .aX) (EZ X pins σ tg R) E {s with heap:=s.heap.push {cls:=.type "range",data:=.fields #[.int lo t,.int hi u,.int 1 v]},toks:=tk}:=by
 refine wpAny_pyIter_range (Ua ..) (small_one h1 h2 h3 h4) ?_;have I1:Inv X pins σ H {s with heap:=s.heap.push {cls:=.type "range",data:=.fields #[.int lo t,.int hi u,.int 1 v]},toks:=tk}:=I.kept λb o e=>wt _ e
 refine⟨(s.heap.push {cls:=.type "range",data:=.fields #[.int lo t,.int hi u,.int 1 v]}).objs.size,[(s.heap.push {cls:=.type "range",data:=.fields #[.int lo t,.int hi u,.int 1 v]}).objs.size],_,_,H,rfl,
  I1.kept (t':=tk) λb o e=>wt _ e,zvY _ lo (hi-lo).toNat,?_,λb hb=>?_,q⟩
 ·have e1:lo+((0:Nat):Int)*1=lo:=by simp
  have e2:(((hi-lo).toNat:Nat):Int)-((0:Nat):Int)=u7 lo hi 1:=by rw[rangeSize_one];split<;>lia
  show IsRangeIter _ _ (lo+((0:Nat):Int)*1) ((((hi-lo).toNat:Nat):Int)-((0:Nat):Int)) 1
  rw[e1,e2];exact wY _ rfl
 ·have e:b=(s.heap.push {cls:=.type "range",data:=.fields #[.int lo t,.int hi u,.int 1 v]}).objs.size:=by simpa using hb
  subst e;exact I1.lT .ax (I1.aR.fresh .ax)
def HU(ta:TA):TI:=λσ H R=>ta σ H λvs H1=>∃j:Int,vs=[.int j] /\ -(2^62)<=j/\j<2^62/\R (iY 0 j.toNat) H1
def zDT(ta:TA):TI:=λσ H R=>ta σ H λvs H1=>∃i j:Int,vs=[.int i,.int j]/\(-(2^62)<=i/\i<2^62 /\ -(2^62)<=j/\j<2^62)/\R (iY i (j-i).toNat) H1
theorem gI{a:Expr}{ta:TA}{p pos:Pos}(hg:Gl X "range")(hm:X.mg "range"=none)(ha:PA X [a] ta)(hs:w9 [a] X.env=[(false,eval a X.env)]:=by rfl):PI X tg (.Call (.Name "range" p) [a] [] pos) (HU ta):=by
 intro pins s σ H R I h;refine Call_ (jH I hg hm boot_range (vQ (aS .cN λus s1 ⟨vs,H1,I1,r1,q1⟩=>?_) hs rfl));obtain⟨j,e,q1,q2,q⟩:=q1;subst e;cases r1 with
 | cons r rr =>
  cases rr;obtain⟨t,rfl⟩:=r;exact call_range_1 (zvz I1 .c .c q1 q2 (by simpa using q))
theorem zzw{a b:Expr}{ta:TA}{p pos:Pos}(hg:Gl X "range")(hm:X.mg "range"=none)(ha:PA X [a,b] ta)(hs:w9 [a,b] X.env=[(false,eval a X.env),(false,eval b X.env)]:=by rfl)(hs2:w9 [b] X.env=[(false,eval b X.env)]:=by rfl) :
  PI X tg (.Call (.Name "range" p) [a,b] [] pos) (zDT ta):=by
 intro pins s σ H R I h;refine Call_ (jH I hg hm boot_range (vQ (aS .cN λus s1 ⟨vs,H1,I1,r1,q1⟩=>?_) (by rw[hs,hs2]) (by rw[hs2];rfl)));obtain⟨i,j,e,⟨q1,q2,q3,q4⟩,q⟩:=q1;subst e;cases r1 with
 | cons r rr =>
  cases rr with
  | cons r' rr =>
   cases rr;obtain⟨t,rfl⟩:=r;obtain⟨t',rfl⟩:=r';exact call_range_2 (zvz I1 q1 q2 q3 q4 q)
def oy(wi:TI)(g:TG)(tb:TS):TS:=λD σ H=>wi σ H λJ H1=>∃W:Nat->Nat->St->Hp->Prop,(∃m,W 0 m σ H1) /\ ∀i m σ H,W i m σ H ->
 (J.stop i H/\D.nx σ H)\/(J.go i H /\ ∃N:St->Hp->Prop,(∀σ' H',N σ' H'->∃m',m'<m/\W (i+1) m' σ' H') /\ ∀x H',J.gM i H x H'->g x σ H' λσ2 H2=>tb {D with nx:=N,ct:=N,bk:=D.nx} σ2 H2)
def yB(fp:.bZ)(h:wS):List (wf × Obj):=fp.filterMap λb=>(h.get? b).map λo=>(b,o)
theorem Cu{h:wS}{b:wf}{o:Obj}(hb:b∈fp)(e:h.get? b=some o):(b,o)∈yB fp h:=QT.mpr ⟨b,hb,by rw[e];rfl⟩
theorem zzg{h:wS}{p:wf × Obj}(hp:p∈yB fp h):p.1∈fp/\h.get? p.1=some p.2:=by
 obtain⟨b,hb,e⟩:=QT.mp hp;cases q:h.get? b with
 | none=>rw[q]at e;cases e
 | some o =>
  rw[q]at e;have e':(b,o)=p:=w6 e;subst e';exact⟨hb,q⟩
theorem Inv.pinned{pins:.j}(I:.l)(hf:∀b∈fp,fY X pins H b)(ho:∀b∈fp,∃o,s.heap.get? b=some o /\ ∀v,o.data≠.cell v):Inv X (pins++yB fp s.heap) σ H s :=
 I.Oz λp hp=>(vG.mp hp).elim (λz=>I.pin p (Wu _ z)) λz=>by
  obtain⟨hb,e⟩:=zzg z;obtain⟨f0,f1,f2,_⟩:=hf p.1 hb;obtain⟨o,e',d⟩:=ho p.1 hb;rw[e]at e';cases e';exact⟨e,f0,f1,f2,d⟩
theorem Inv.zo{pins pl:.j}(I:Inv X (pins++pl) σ H s):Inv X pins σ H s:=I.Oz λp hp=>I.pin p (Wu _ (VS _ hp))
theorem fi{iter:Expr}{body:List vc}{wi:TI}{g:TG}{tb:TS}{pos:Pos}(hp:PassesOwn .m X.A X.env X.xe)(hc:.bE)(hi:PI X tg iter wi)(hg:PG X tg g)(hb:gW X body tb)
  (hs:∀x,foldedSetIterable iter X.env x=pure x:=by intro _;rfl):PS X (.For tg iter body [] pos) (oy wi g tb):=by
 intro pins s σ H D I h;refine wpAny_For (aS (hi pins s σ H _ I h) λv s1 h1=>aS h1 λitv s2 h2=>?_) hs;obtain⟨it,fp,tn,J,H2,e,I2,T,st2,f2,W,⟨m0,w0⟩,turn⟩:=h2;subst e
 have stat:∀{H':Hp},(∀b∈fp,H' b=none)->∀b∈fp,fY X pins H' b:=λhn b hb=>⟨hn b hb,(f2 b hb).2⟩
 refine codeAny_forLoop_any (λn s'=>∃i σ' H',Inv X pins σ' H' s'/\tn i s'.heap/\(∀b∈fp,H' b=none)/\W i n σ' H') ?_ m0 ⟨0,σ,H2,I2,st2,λb hb=>(f2 b hb).1,w0⟩;rintro n s3 hz;obtain⟨i,σ3,H3,I3,st3,fr3,w3⟩:=hz;rcases turn i n σ3 H3 w3 with⟨stop,qn⟩ | ⟨go,N,hN,step⟩
 ·refine VJ hp (aS (T.done X rfl rfl rfl hc i pins s3 σ3 H3 X.xe I3 (stat fr3) st3 stop) λr s4 ⟨hr,I4⟩=>?_)
  subst hr;exact qM ⟨σ3,H3,I4,qn⟩
 ·refine VJ hp (aS (T.item X rfl rfl rfl hc i pins s3 σ3 H3 X.xe I3 (stat fr3) st3 go) λr s4 ⟨u,hr,h4⟩=>?_)
  subst hr;refine VJ hp (aS h4 λ_ s5 ⟨x,H5,I5,r5,y5,st5,fr5⟩=>?_);have I5':=I5.pinned (stat fr5) (T.obj _ _ st5);refine VJ hp (aS (hg _ s5 σ3 H5 x u _ I5' r5 (step x H5 y5)) λ_ s6 ⟨σ6,H6,I6,q6⟩=>?_);refine VJ hp (aS (hb _ s6 σ6 H6 _ I6 q6) λf s7 q7=>?_)
  have again:∀{σ7:St}{H7:Hp},Inv X (pins++yB fp s5.heap) σ7 H7 s7->N σ7 H7->∃m,m<n /\ ∃i σ' H',Inv X pins σ' H' s7/\tn i s7.heap/\(∀b∈fp,H' b=none)/\W i m σ' H':=λ{σ7 H7} I7 n7=>by
   obtain⟨m',hm,w7⟩:=hN σ7 H7 n7;refine⟨m',hm,i+1,σ7,H7,I7.zo,T.keep _ _ _ st5 λb hb o e=>(I7.pin (b,o) (Wu _ (Wu _ (Cu hb e)))).1,λb hb=>?_,w7⟩;obtain⟨o,e,d⟩:=T.obj _ _ st5 b hb;exact(I7.pin (b,o) (Wu _ (Wu _ (Cu hb e)))).2.1
  cases f with
  | next=>obtain⟨σ7,H7,I7,n7⟩:=q7;exact again I7 n7
  | cont=>obtain⟨σ7,H7,I7,n7⟩:=q7;exact again I7 n7
  | brk=>obtain⟨σ7,H7,I7,q7⟩:=q7;exact⟨σ7,H7,I7.zo,q7⟩
  | ret v=>obtain⟨x7,σ7,H7,I7,r7,q7⟩:=q7;exact⟨x7,σ7,H7,I7.zo,r7,q7⟩
end
variable{g:TG}{tb:TS}{D:df}{σ:St}{H:Hp}
theorem zB0{K:wa}{a:wf}{xs:.x}(Pv:Nat->St->Hp->Prop)(h0:Pv 0 σ H)(hl:∀i σ H,i<=xs.length->Pv i σ H->aF K H a xs)
  (hs:∀i x σ H,xs[i]? = some x->Pv i σ H->g x σ H λσ2 H2=>tb {D with nx:=Pv (i+1),ct:=Pv (i+1),bk:=D.nx} σ2 H2) (hd:∀σ H,Pv xs.length σ H->D.nx σ H) :
  ∃W:Nat->Nat->St->Hp->Prop,(∃m,W 0 m σ H) /\ ∀i m σ H,W i m σ H ->
   ((k9 K a).stop i H/\D.nx σ H)\/((k9 K a).go i H /\ ∃N:St->Hp->Prop,(∀σ' H',N σ' H'->∃m',m'<m/\W (i+1) m' σ' H') /\ ∀x H',(k9 K a).gM i H x H'->g x σ H' λσ2 H2=>tb {D with nx:=N,ct:=N,bk:=D.nx} σ2 H2):=by
 refine⟨λi m σ H=>m=xs.length-i/\i<=xs.length/\Pv i σ H,⟨xs.length,by simp,Vh _,h0⟩,?_⟩;rintro i m σ H ⟨rfl,hi,p⟩;have q:=hl i σ H hi p
 by_cases hlt:i<xs.length
 ·refine .inr ⟨⟨xs,xs[i],q,by simp[hlt]⟩,Pv (i+1),λσ' H' p'=>⟨xs.length-(i+1),by lia,rfl,hlt,p'⟩,λx H' y=>?_⟩
  obtain⟨e,y⟩:=y;subst e;exact hs i x σ _ (y xs q) p
 ·have e:i=xs.length:=by lia
  subst e;exact .inl ⟨⟨xs,q,wu _⟩,hd σ H p⟩
theorem zDg{K:wa}{a:wf}{xs:.x}(Pv:Nat->St->Hp->Prop)(h0:Pv 0 σ H)(hl:∀i σ H,i<=xs.length->Pv i σ H->a_ K H a xs)
  (hs:∀i x σ H,xs[i]? = some x->Pv i σ H->g x σ H λσ2 H2=>tb {D with nx:=Pv (i+1),ct:=Pv (i+1),bk:=D.nx} σ2 H2) (hd:∀σ H,Pv xs.length σ H->D.nx σ H) :
  ∃W:Nat->Nat->St->Hp->Prop,(∃m,W 0 m σ H) /\ ∀i m σ H,W i m σ H ->
   ((kX K a).stop i H/\D.nx σ H)\/((kX K a).go i H /\ ∃N:St->Hp->Prop,(∀σ' H',N σ' H'->∃m',m'<m/\W (i+1) m' σ' H') /\ ∀x H',(kX K a).gM i H x H'->g x σ H' λσ2 H2=>tb {D with nx:=N,ct:=N,bk:=D.nx} σ2 H2):=by
 refine⟨λi m σ H=>m=xs.length-i/\i<=xs.length/\Pv i σ H,⟨xs.length,by simp,Vh _,h0⟩,?_⟩;rintro i m σ H ⟨rfl,hi,p⟩;have q:=hl i σ H hi p
 by_cases hlt:i<xs.length
 ·refine .inr ⟨⟨xs,xs[i],q,by simp[hlt]⟩,Pv (i+1),λσ' H' p'=>⟨xs.length-(i+1),by lia,rfl,hlt,p'⟩,λx H' y=>?_⟩
  obtain⟨e,y⟩:=y;subst e;exact hs i x σ _ (y xs q) p
 ·have e:i=xs.length:=by lia
  subst e;exact .inl ⟨⟨xs,q,wu _⟩,hd σ H p⟩
theorem RL{lo:Int}{n:Nat}(Pv:Nat->St->Hp->Prop)(h0:Pv 0 σ H)
  (hs:∀i σ H,i<n->Pv i σ H->g (.int (lo+i)) σ H λσ2 H2=>tb {D with nx:=Pv (i+1),ct:=Pv (i+1),bk:=D.nx} σ2 H2) (hd:∀σ H,Pv n σ H->D.nx σ H) :
  ∃W:Nat->Nat->St->Hp->Prop,(∃m,W 0 m σ H) /\ ∀i m σ H,W i m σ H ->
   ((iY lo n).stop i H/\D.nx σ H)\/((iY lo n).go i H /\ ∃N:St->Hp->Prop,(∀σ' H',N σ' H'->∃m',m'<m/\W (i+1) m' σ' H') /\ ∀x H',(iY lo n).gM i H x H'->g x σ H' λσ2 H2=>tb {D with nx:=N,ct:=N,bk:=D.nx} σ2 H2):=by
 refine⟨λi m σ H=>m=n-i/\i<=n/\Pv i σ H,⟨n,by simp,Vh _,h0⟩,?_⟩;rintro i m σ H ⟨rfl,hi,p⟩
 by_cases hlt:i<n
 ·refine .inr ⟨hlt,Pv (i+1),λσ' H' p'=>⟨n-(i+1),by lia,rfl,hlt,p'⟩,λx H' y=>?_⟩
  obtain⟨e,y⟩:=y;subst e y;exact hs i σ _ hlt p
 ·have e:i=n:=by lia
  subst e;exact .inl ⟨wu _,hd σ H p⟩
abbrev R2:=V->V->Hp->VK->Prop
def bV(X:Cx)(f:wo->wo->Sem wo)(r:R2):Prop :=
 ∀(pins:.j)(s:wq)(σ : St)(H:Hp)(x y:V)(v u:wo)(Q:VK),Inv X pins σ H s->bW x v->bW y u->r x y H Q ->
  wD .m X.A (f v u) .cw X.xe s
def JO(X:Cx)(f:wo->Sem wo)(r:V->Hp->VK->Prop):Prop :=
 ∀(pins:.j)(s:wq)(σ : St)(H:Hp)(x:V)(v:wo)(Q:VK),Inv X pins σ H s->bW x v->r x H Q ->
  wD .m X.A (f v) .cw X.xe s
def bN(X:Cx)(f:wo)(r:List V->Hp->VK->Prop):Prop :=
 ∀(pins:.j)(s:wq)(σ : St)(H:Hp)(xs:.x)(us:.Y)(Q:VK),Inv X pins σ H s->aZ xs us->r xs H Q ->
  wD .m X.A (call f us) .cw X.xe s
def zGX(X:Cx)(r:V->Hp->(Bool->Hp->Prop)->Prop):Prop :=
 ∀(pins:.j)(s:wq)(σ : St)(H:Hp)(x:V)(v:wo)(Q:Bool->Hp->Prop),Inv X pins σ H s->bW x v->r x H Q ->
  wD .m X.A (truthy v) (TP X pins σ Q) X.xe s
def kg(r:R2)(ta tb:TE):TE:=λσ H Q=>ta σ H λx H1=>tb σ H1 λy H2=>r x y H2 Q
def Zj(r:V->Hp->VK->Prop)(ta:TE):TE:=λσ H Q=>ta σ H λx H1=>r x H1 Q
def rI(C:Int->Int->Prop)(g:Int->Int->V):R2:=λx y H Q=>∃i j,x=.int i/\y=.int j/\C i j/\Q (g i j) H
def kA(g:Int->Int->V):R2:=λx y H Q=>∃i j,x=.int i/\y=.int j/\Q (g i j) H
def rU(g:Int->V):V->Hp->VK->Prop:=λx H Q=>∃i,x=.int i/\Q (g i) H
section
variable{X:Cx}{a b c:Expr}{ta tb tc:TE}{pos:Pos}
theorem KJ(ha:PE X a ta)(hb:PE X b tb){pins:.j}{s:wq}{σ : St}{H:Hp}{R:V->V->Hp->Prop}(I:.l)
  (h:ta σ H λx H1=>tb σ H1 λy H2=>R x y H2) {Q:.n} {f:wo->wo->Sem wo}
  (hf:∀v u s2 x y H2,Inv X pins σ H2 s2->bW x v->bW y u->R x y H2->wD .m X.A (f v u) Q X.xe s2) :
  wD .m X.A (eval a X.env) (λv s₁=>wD .m X.A (eval b X.env) (λu s₂=>wD .m X.A (f v u) Q X.xe s₂) X.xe s₁) X.xe s:=by
 refine aS .cO λv s1 ⟨x,H1,I1,r1,q1⟩=>?_
 refine aS (hb pins s1 σ H1 _ I1 q1) λu s2 ⟨y,H2,I2,r2,q2⟩=>?_
 exact hf v u s2 x y H2 I2 r1 r2 q2
theorem az{op:Operator}{r:R2}(ho:bV X (WE op) r)(ha:PE X a ta)(hb:PE X b tb):PE X (.BinOp a op b pos) (kg r ta tb):=by
 intro pins s σ H Q I h;exact wpAny_BinOp (KJ ha hb I h λv u s2 x y H2 I2 rx ry q=>ho pins s2 σ H2 x y v u Q I2 rx ry q)
theorem fu{op:UnaryOp}{r:V->Hp->VK->Prop}(ho:JO X (unaryOp op) r)(ha:PE X a ta):PE X (.UnaryOp op a pos) (Zj r ta):=by
 intro pins s σ H Q I h;exact UnaryOp_ (aS .cO λv s1 ⟨x,H1,I1,r1,q1⟩=>ho pins s1 σ H1 x v Q I1 r1 q1)
theorem HY{f:wo->wo->Sem wo}{C:Int->Int->Prop}{g:Int->Int->Int}
  (rule:∀(i j:Int)(t u:Tok)(s:wq)(Q:.n)(E:.n),C i j->Q (.int (g i j) s.toks) {s with toks:=s.toks+1}->wD .m X.A (f (.int i t) (.int j u)) Q E s) :
  bV X f (rI C λi j=>.int (g i j)):=by
 intro pins s σ H x y v u Q I rx ry h;obtain⟨i,j,rfl,rfl,hc,q⟩:=h;obtain⟨t,rfl⟩:=rx;obtain⟨t',rfl⟩:=ry;exact rule i j t t' s _ _ hc ⟨.int (g i j),H,I.tok _,⟨_,rfl⟩,q⟩
theorem zF5{f:wo->wo->Sem wo}{g:Int->Int->Int}
  (rule:∀(i j:Int)(t u:Tok)(s:wq)(Q:.n)(E:.n),Q (.int (g i j) s.toks) {s with toks:=s.toks+1}->wD .m X.A (f (.int i t) (.int j u)) Q E s) :
  bV X f (kA λi j=>.int (g i j)):=by
 intro pins s σ H x y v u Q I rx ry h;obtain⟨i,j,rfl,rfl,q⟩:=h;obtain⟨t,rfl⟩:=rx;obtain⟨t',rfl⟩:=ry;exact rule i j t t' s _ _ ⟨.int (g i j),H,I.tok _,⟨_,rfl⟩,q⟩
theorem Af{f:wo->wo->Sem wo}{g:Int->Int->Bool}
  (rule:∀(i j:Int)(t u:Tok)(s:wq)(Q:.n)(E:.n),Q (.bool (g i j)) s->wD .m X.A (f (.int i t) (.int j u)) Q E s) :
  bV X f (kA λi j=>.bl (g i j)):=by
 intro pins s σ H x y v u Q I rx ry h;obtain⟨i,j,rfl,rfl,q⟩:=h;obtain⟨t,rfl⟩:=rx;obtain⟨t',rfl⟩:=ry;exact rule i j t t' s _ _ ⟨.bl (g i j),H,I,rfl,q⟩
def ZV(i j:Int):Prop:=0<=j/\j<=1000000/\i.natAbs<2^64
theorem zEB:bV X (WE .Add) (kA λi j=>.int (i+j)):=zF5 λ_ _ _ _ _ _ _ q=>add_int q
theorem fL:bV X (WE .Sub) (kA λi j=>.int (i-j)):=zF5 λ_ _ _ _ _ _ _ q=>sub_int q
theorem jl:bV X (WE .Mod) (rI (λ_ j=>0<j) λi j=>.int (i % j)):=HY λi j _ _ _ _ _ hc q=>by
 have h1:(0:Int)<j:=hc;exact mod_int' .c (by rw[Int.fmod_eq_emod_of_nonneg i .c];exact q)
theorem zEV:bV X (WE .Pow) (rI ZV λi j=>.int (i^j.toNat)):=HY λ_ _ _ _ _ _ _ hc q=>pow_int_small hc.1 hc.2.1 hc.2.2 q
theorem unI{f:wo->Sem wo}{g:Int->Int}
  (rule:∀(i:Int)(t:Tok)(s:wq)(Q:.n)(E:.n),Q (.int (g i) s.toks) {s with toks:=s.toks+1}->wD .m X.A (f (.int i t)) Q E s) :
  JO X f (rU λi=>.int (g i)):=by
 intro pins s σ H x v Q I rx h;obtain⟨i,rfl,q⟩:=h;obtain⟨t,rfl⟩:=rx;exact rule i t s _ _ ⟨.int (g i),H,I.tok _,⟨_,rfl⟩,q⟩
theorem fq:JO X (unaryOp .USub) (rU λi=>.int (-i)):=unI λ_ _ _ _ _ q=>neg_int q
end
section
variable{X:Cx}{a b c:Expr}{ta tb tc:TE}{pos:Pos}
variable{r r':R2}{op:CmpOp}
theorem zB9{pins:.j}{σ : St}{H:Hp}{s:wq}{Q:VK}{k k':Bool}(I:.l)(q:Q (.bl k) H)(e:k=k'):EP X pins σ Q (.bool k') s:=by
 subst e;exact⟨.bl k,H,I,rfl,q⟩
theorem lF :bV X (vR .Lt) (kA λi j=>.bl (decide (i<j))):=Af λ_ _ _ _ _ _ _ q=>lt_int q
theorem oN :bV X (vR .LtE) (kA λi j=>.bl (decide (i<=j))):=Af λ_ _ _ _ _ _ _ q=>le_int q
theorem kS :bV X (vR .Gt) (kA λi j=>.bl (decide (j<i))):=Af λ_ _ _ _ _ _ _ q=>gt_int q
theorem CO :bV X (vR .GtE) (kA λi j=>.bl (decide (j<=i))):=Af λ_ _ _ _ _ _ _ q=>ge_int q
theorem zEZ :bV X (vR .Is) (λx y H Q=>y=.bX/\Q (.bl (decide (x=.bX))) H):=by
 intro pins s σ H x y v u Q I rx ry h;obtain⟨rfl,q⟩:=h;cases ry;refine is_none_gen (zB9 I q ?_)
 cases x<;>first
  | (cases rx;rfl)
  | (obtain⟨t,rfl⟩:=rx;rfl)
theorem bV.or{f:wo->wo->Sem wo}(h:bV X f r)(h':bV X f r'):bV X f (λx y H Q=>r x y H Q\/r' x y H Q):=by
 intro pins s σ H x y v u Q I rx ry q;rcases q with q | q
 ·exact h pins s σ H x y v u Q I rx ry q
 ·exact h' pins s σ H x y v u Q I rx ry q
theorem du(b:Expr)(h:op≠.In:=by decide)(h2:op≠.NotIn:=by decide):behindInMarks op b=false:=by
 have e1:(op == CmpOp.In)=false:=by cases op<;>first | rfl | exact absurd rfl h
 have e2:(op == CmpOp.NotIn)=false:=by cases op<;>first | rfl | exact absurd rfl h2
 cases b<;>simp[behindInMarks,e1,e2]
theorem jF(ho:bV X (vR op) r)(ha:PE X a ta)(hb:PE X b tb)(hm:behindInMarks op b=false):PE X (.Compare a [op] [b] pos) (kg r ta tb):=by
 intro pins s σ H Q I h;exact wpAny_Compare1 (KJ ha hb I h λv u s2 x y H2 I2 rx ry q=>ho pins s2 σ H2 x y v u Q I2 rx ry q) hm
def yP(t:TE):TT:=λσ H Q=>t σ H λx H'=>∃k,x=.bl k/\Q k H'
theorem dB(ho:bV X (vR op) r)(ha:PE X a ta)(hb:PE X b tb)(hm:behindInMarks op b=false):PT X (.Compare a [op] [b] pos) (yP (kg r ta tb)):=by
 intro pins s σ H Q I h
 refine wpAny_isTrue_Compare1 (aS .cO λv s1 ⟨x,H1,I1,r1,q1⟩=>aS (hb pins s1 σ H1 _ I1 q1) λu s2 ⟨y,H2,I2,r2,q2⟩ =>
  aS (ho pins s2 σ H2 x y v u _ I2 r1 r2 q2) λc s3 ⟨z,H3,I3,r3,k,e,q3⟩=>?_) hm
 subst e;cases r3;exact WD ⟨H3,I3,q3⟩
def Kk(r r':R2)(ta tb tc:TE):TE:=λσ H Q=>ta σ H λx H1=>tb σ H1 λy H2=>r x y H2 λz H3=>∃k,z=.bl k /\
 (if k=true then tc σ H3 λw' H4=>r' y w' H4 Q else Q .cn H3)
theorem zAg{op':CmpOp}(ho:bV X (vR op) r)(ho':bV X (vR op') r')(ha:PE X a ta)(hb:PE X b tb)(hc:PE X c tc)
  (hm:lastMarks [op,op'] [b,c]=false:=by with_unfolding_all rfl):PE X (.Compare a [op,op'] [b,c] pos) (Kk r r' ta tb tc):=by
 intro pins s σ H Q I h
 refine Compare_chain (aS .cO λv s1 ⟨x,H1,I1,r1,q1⟩=>chain_link (aS (hb pins s1 σ H1 _ I1 q1) λu s2 ⟨y,H2,I2,r2,q2⟩ =>
  aS (ho pins s2 σ H2 x y v u _ I2 r1 r2 q2) λd s3 ⟨z,H3,I3,r3,k,e,q3⟩=>?_)) hm
 subst e;cases r3;refine WD ?_;cases k with
 | false=>exact ite_ff ⟨.bl false,H3,I3,rfl,q3⟩
 | true=>exact ite_tt (chain_last (aS (hc pins s3 σ H3 _ I3 q3) λw' s4 ⟨z',H4,I4,r4,q4⟩=>ho' pins s4 σ H4 y z' u w' Q I4 r2 r4 q4))
theorem zAu{op':CmpOp}(ho:bV X (vR op) r)(ho':bV X (vR op') r')(ha:PE X a ta)(hb:PE X b tb)(hc:PE X c tc)
  (hm:lastMarks [op,op'] [b,c]=false:=by with_unfolding_all rfl):PT X (.Compare a [op,op'] [b,c] pos) (yP (Kk r r' ta tb tc)):=by
 intro pins s σ H Q I h
 refine isTrue_chain (aS .cO λv s1 ⟨x,H1,I1,r1,q1⟩=>test_link (aS (hb pins s1 σ H1 _ I1 q1) λu s2 ⟨y,H2,I2,r2,q2⟩ =>
  aS (ho pins s2 σ H2 x y v u _ I2 r1 r2 q2) λd s3 ⟨z,H3,I3,r3,k,e,q3⟩=>?_)) hm
 subst e;cases r3;refine WD ?_;cases k with
 | false =>
  obtain⟨k',e',q'⟩:=q3;cases e';exact ite_ff ⟨H3,I3,q'⟩
 | true =>
  refine ite_tt (test_last (aS (hc pins s3 σ H3 _ I3 q3) λw' s4 ⟨z',H4,I4,r4,q4⟩=>aS (ho' pins s4 σ H4 y z' u w' _ I4 r2 r4 q4) λd' s5 ⟨z2,H5,I5,r5,k2,e2,q5⟩=>?_));subst e2;cases r5;exact WD ⟨H5,I5,q5⟩
def FE(K:wa)(x:V)(H:Hp)(k:Bool):Prop :=
 match x with
 | .bX=>k=false
 | .bl b=>k=b
 | .int i=>k=(i != 0)
 | .str y=>y.length<=vn/\k=((y.length:Int) != 0)
 | .byt y=>y.size<=vn/\k=((y.size:Int) != 0)
 | .ref p=>(∃xs,aF K H p xs/\k = !xs.isEmpty)\/(∃xs,a_ K H p xs/\k = !xs.isEmpty) \/ ∃kvs,H p=some (.dK kvs)/\k = !kvs.isEmpty
 | _=>False
theorem zwv{κ : Type}{kvs:List (κ × V)}{vs:List (κ × wo)}(r:KV kvs vs):(!vs.isEmpty) = !kvs.isEmpty:=by
 cases r<;>rfl
theorem Yi{xs:.x}{its:.Y}(r:aZ xs its):(!its.toArray.isEmpty) = !xs.isEmpty:=by
 cases r<;>simp
theorem r_ :(vn:Nat)<2^63:=by rw[W7];decide
theorem zEW :zGX X (λx H Q=>∃k,FE X.K x H k/\Q k H):=by
 intro pins s σ H x v Q I rx h;obtain⟨k,e,q⟩:=h;have hl:=r_;have hs:vn=16777216:=W7;cases x with
 | bX =>
  cases rx;have e':k=false:=e;subst e';exact truthy_none ⟨H,I,q⟩
 | bl b =>
  cases rx;have e':k=b:=e;subst e';exact WD ⟨H,I,q⟩
 | int i =>
  obtain⟨t,rfl⟩:=rx;have e':k=(i != 0):=e;subst e';exact PySem.P.truthy_int ⟨H,I,q⟩
 | str y =>
  obtain⟨t,rfl⟩:=rx;obtain⟨hy,e'⟩:y.length<=vn/\k=((y.length:Int) != 0):=e;subst e';exact PySem.P.truthy_str .c ⟨H,I.tok _,q⟩
 | byt y =>
  obtain⟨t,rfl⟩:=rx;obtain⟨hy,e'⟩:y.size<=vn/\k=((y.size:Int) != 0):=e;subst e';exact PySem.W.truthy_bytes .c ⟨H,I.tok _,q⟩
 | ref p =>
  cases rx;have e':(∃xs,aF X.K H p xs/\k = !xs.isEmpty)\/(∃xs,a_ X.K H p xs/\k = !xs.isEmpty) \/ ∃kvs,H p=some (.dK kvs)/\k = !kvs.isEmpty:=e;rcases e' with⟨xs,hx,e'⟩ | ⟨xs,hx,e'⟩ | ⟨kvs,hx,e'⟩
  ·subst e'
   obtain⟨its,r,pl,hz⟩:=I.list hx;have hlen:=r.length;exact wpAny_truthy_list pl.isList (by simp only[wR];lia) ⟨H,I.tok _,by rw[Yi r];exact q⟩
  ·subst e'
   obtain⟨its,r,pl,hz⟩:=I.tuple hx;have hlen:=r.length;exact truthy_tuple pl (by simp only[wR];lia) ⟨H,I.tok _,by rw[Yi r];exact q⟩
  ·subst e'
   obtain⟨hz,hS,vs,r,m⟩:kvs.length<=vn/\(p == sysModules)=false /\ ∃vs,KV kvs vs/\s.heap.DictOf (Ki X.prog X.w) p vs:=I.aR p _ hx;have hlen:kvs.length=vs.length:=uW r;exact wpAny_truthy_dict hS m .c ⟨H,I.tok _,by rw[zwv r];exact q⟩
 | _=>exact(show False from e).elim
theorem zBb(ha:PE X a ta)(he:∀whole,isTrue a X.env whole=(do let v <- whole;standAt a.pos;holding [v] (truthy v))) :
  PT X a (λσ H Q=>ta σ H λx H'=>∃k,FE X.K x H' k/\Q k H'):=by
 intro pins s σ H Q I h;exact isTrue_plain (aS .cO λv s1 ⟨x,H1,I1,r1,q1⟩=>zEW pins s1 σ H1 x v Q I1 r1 q1) (he _)
theorem zwo :bV X (WE .Add) (λx y H Q=>∃i j,x=.str i/\y=.str j/\i.length+j.length<=vn/\Q (.str (i++j)) H):=by
 intro pins s σ H x y v u Q I rx ry h;obtain⟨i,j,rfl,rfl,hz,q⟩:=h;obtain⟨t,rfl⟩:=rx;obtain⟨t',rfl⟩:=ry;exact add_str (λt' tk=>⟨.str (i++j),H,I.tok _,⟨_,rfl⟩,q⟩) hz
theorem jE{x:V}{us:.Y}(r:aZ [x] us):∃u,us=[u]/\bW x u:=by
 cases r with
 | cons r1 r2=>cases r2;exact⟨_,rfl,r1⟩
theorem nj{x y:V}{us:.Y}(r:aZ [x,y] us):∃u w',us=[u,w']/\bW x u/\bW y w':=by
 cases r with
 | cons r1 r2 =>
  cases r2 with
  | cons r3 r4=>cases r4;exact⟨_,_,rfl,r1,r3⟩
theorem zAR :bN X (.builtin "abs") (λxs H Q=>∃i,xs=[.int i]/\Q (.int (if i<0 then -i else i)) H):=by
 intro pins s σ H xs us Q I r h;obtain⟨i,rfl,q⟩:=h;obtain⟨u,rfl,t,rfl⟩:=jE r;exact call_abs_int λu tk=>⟨.int (if i<0 then -i else i),H,I.tok _,⟨_,rfl⟩,q⟩
theorem zzn(hc:.bE):bN X (.builtin "max") (λxs H Q=>∃i j,xs=[.int i,.int j]/\Q (.int (if j > i then j else i)) H):=by
 intro pins s σ H xs us Q I r h;obtain⟨i,j,rfl,q⟩:=h;obtain⟨u,w',rfl,⟨t,rfl⟩,⟨t',rfl⟩⟩:=nj r;refine max_two_ints .aW λh' tk k=>⟨_,H,I.kept k,?_,q⟩
 by_cases hj:j > i
 ·rw[if_pos hj,if_pos hj];exact⟨_,rfl⟩
 ·rw[if_neg hj,if_neg hj];exact⟨_,rfl⟩
theorem zyQ(hc:.bE):bN X (.builtin "min") (λxs H Q=>∃i j,xs=[.int i,.int j]/\Q (.int (if j<i then j else i)) H):=by
 intro pins s σ H xs us Q I r h;obtain⟨i,j,rfl,q⟩:=h;obtain⟨u,w',rfl,⟨t,rfl⟩,⟨t',rfl⟩⟩:=nj r;refine min_two_ints .aW λh' tk k=>⟨_,H,I.kept k,?_,q⟩
 by_cases hj:j<i
 ·rw[if_pos hj,if_pos hj];exact⟨_,rfl⟩
 ·rw[if_neg hj,if_neg hj];exact⟨_,rfl⟩
theorem zzm :bN X (.type "int") (λxs H Q=>(∃i,xs=[.int i]/\Q (.int i) H) \/ ∃k,xs=[.bl k]/\Q (.int (if k then 1 else 0)) H):=by
 intro pins s σ H xs us Q I r h;rcases h with⟨i,rfl,q⟩ | ⟨k,rfl,q⟩
 ·obtain⟨u,rfl,t,rfl⟩:=jE r
  exact call_int_int ⟨.int i,H,I,⟨_,rfl⟩,q⟩
 ·obtain⟨u,rfl,r1⟩:=jE r
  cases r1;exact call_int_bool ⟨.int (if k then 1 else 0),H,I.tok _,⟨_,rfl⟩,q⟩
end
section
variable{prog:wT}{w:wX}{A:vB}{E:.n}{s:wq}{K:wa}{x dx C f:wf}{mA:.M}{name:Str}{v:wo}
end
section
variable{P:wT}{w:wX}{H H':Hp}{h h':wS}{a C dx:wf}{fs fs':List (Str × V)}
end
section
variable{X:Cx}{pins:.j}{σ : St}{H:Hp}{s:wq}{a C dx:wf}{fs:List (Str × V)}{f:Str}{v:V}{A:vB}{E:.n}
end
section
variable{X:Cx}{o e value:Expr}{f:Str}{pos pos' tpos:Pos}{ta tv:TE}
end
section
variable{X:Cx}{pins:.j}{σ : St}{H:Hp}{s:wq}{A:vB}{E:.n}{Q:.n}{c:wo}{b:Bool}
end
variable{k:Nat}{A:vB}
def U7(e:Env):Prop:=e.scope.isGenerator=false/\e.scope.isCoroutine=false/\e.builtins=builtinsNs/\e.globals=wV
structure eY(k:Nat)(A:vB):Prop where
 hd:A.handled=none
 dp:A.depth+3*k+105<recursionLimit
 un:A.units+16*k+200<WW
 gd:A.guards=some []
 fr:∀e l,A.frames=some (e::l)->U7 e
theorem eY.mono{j:Nat}(r:eY k A)(h:j<=k):eY j A:=⟨r.hd,by have:=r.dp;lia,by have:=r.un;lia,by first | exact r.gd | (simp[u5,Code.guards,u6,guardIds];exact r.gd),r.fr⟩
theorem eY.deeper(r:eY (k+1) A){env:Env}(g:U7 env):eY k (A.deeper env) :=
 ⟨r.hd,by have:=r.dp;show A.depth+1+3*k+105<_;lia,by have:=r.un;show A.units+3+16*k+200<_;lia,by first | exact r.gd | (simp[u5,Code.guards,u6,guardIds];exact r.gd),λe l h=>by
  cases q:A.frames with
  | none=>exact absurd (show A.frames.map _=_ from h) (by rw[q];simp)
  | some o =>
   rw[xW q]at h;cases h;exact g⟩
theorem eY.depth(r:eY k A):A.depth<recursionLimit:=by have:=r.dp;lia
theorem eY.units(r:eY k A):A.units+64<WW:=by have:=r.un;lia
def sD:TA:=λ_ H Q=>Q [] H
def mi(ta:TE)(tr:TA):TA:=λσ H Q=>ta σ H λx H1=>tr σ H1 λxs H2=>Q (x::xs) H2
section
variable{X:Cx}{e:Expr}{es:.aG}{te:TE}{t:TA}{pos:Pos}
theorem ag:PA X [] sD:=λ_ _ _ _ H Q I h=>Q4 ⟨[],H,I,.nil,h⟩
theorem ae(ha:PE X e te)(hr:PA X es t)(hs:w9 (e::es) X.env=.bw::w9 es X.env:=by rfl):PA X (e::es) (mi te t):=by
 intro pos pins s σ H Q I h;rw[hs]
 show wD _ _ (spliced (.bw::VR pos .ci)) _ _ s
 refine QU (aS .cO λu s1 ⟨x,H1,I1,r1,q1⟩=>?_);exact aS (hr pos pins s1 σ H1 _ I1 q1) λus s2 ⟨xs,H2,I2,r2,q2⟩=>⟨x::xs,H2,I2,.cons r1 r2,q2⟩
def zGV(t:TA):TE:=λσ H Q=>t σ H λxs H1=>xs.length<=vn /\ ∀p,H1 p=none->Q .ay (upd H1 p (.tup xs))
def zG0(t:TA):TE:=λσ H Q=>t σ H λxs H1=>xs.length<=vn /\ ∀p,H1 p=none->Q .ay (upd H1 p .b7)
theorem zFV{x1}(h:PA X es t):PE X (.Tuple es x1 pos) (zGV t):=by
 intro pins s σ H Q I hq;refine wpAny_Tuple_spliced (aS (h pos pins s σ H _ I hq) λus s1 ⟨xs,H1,I1,r,z,q⟩=>⟨by rw[<- r.length];exact z,?_⟩);have hf:H1 s1.heap.objs.size=none:=I1.aR.fresh .ax;refine⟨.ref s1.heap.objs.size,upd H1 s1.heap.objs.size (.tup xs),I1.laid (t':=s1.toks) (λb u e=>wt _ e) .ax ?_,rfl,q _ hf⟩;exact⟨z,us,r,⟨_,wY _ rfl,rfl,_,rfl⟩⟩
theorem zE5(h:PA X es t):PE X (.List es pos) (zG0 t):=by
 intro pins s σ H Q I hq;refine wpAny_List_spliced (aS (h pos pins s σ H _ I hq) λus s1 ⟨xs,H1,I1,r,z,q⟩=>⟨by rw[<- r.length];exact z,?_⟩);have hf:H1 s1.heap.objs.size=none:=I1.aR.fresh .ax;refine⟨.ref s1.heap.objs.size,upd H1 s1.heap.objs.size .b7,I1.laid (t':=s1.toks) (λb u e=>wt _ e) .ax ?_,rfl,q _ hf⟩;exact⟨z,us,0,r,wY _ rfl⟩
end
abbrev Sp:=List V->Hp->VK->XK->Prop
abbrev hZ:=List Env->Hp->wq->XK->wo->wq->Prop
structure Aq(P:wT)(w:wX)(K:wa)(mg:.M)(base:wS)(A:vB)(outer:.bT)(s:wq)(H:Hp):Prop where
 frames:A.frames=some outer
 mod:Mod K mg base
 bs:∀b o,base.get? b=some o->s.heap.get? b=some o/\H b=none
 kc:base.objs.size<=s.heap.objs.size
 gA:s.heap.FunFrames base outer
 lQ:∀b∈fo outer,H b=none
 aR:d7 P w H s.heap
 bare:AllBare s.gens
def CE(outer:.bT)(P:wT)(w:wX)(H:Hp)(s:wq)(Q:VK)(u:wo)(s':wq):Prop :=
 ∃v H',s'.os=s.os/\AllBare s'.gens/\Un (fo outer) [] H H' s.heap s'.heap/\d7 P w H' s'.heap/\bW v u/\Q v H'
def CR(CX:hZ)(outer:.bT)(P:wT)(w:wX)(H:Hp)(s:wq)(Q:VK)(E:XK)(r:Result)(s':wq):Prop :=
 match r with
 | .ok (.ret u)=>CE outer P w H s Q u s'
 | .ok _=>False
 | .error e=>CX outer H s E e s'
structure aI(P:wT)(w:wX)(K:wa)(mg:.M)(base:wS)(CX:hZ)(k:Nat)(f:wf)(fd:wG)(ps:.U)(sp:Sp):Prop where
 len:∀vs H Q E,sp vs H Q E->vs.length=ps.length
 run:∀(A:vB)(outer:.bT)(s:wq)(H:Hp)(args:Args)(us:.Y)(vs:.x)(Q:VK)(E:XK),eY k A->Aq P w K mg base A outer s H->BindsTo s fd args (ps.zip us)->aZ vs us->sp vs H Q E ->
   codeAny (model P w) A (.call (.ref f) args) (CR CX outer P w H s Q E) s
section
variable{X:Cx}{pins:.j}{σ : St}{H:Hp}{s s':wq}
theorem Inv.OU(I:.l):Aq X.prog X.w X.K X.mg X.base X.A X.stack s H :=
 ⟨I.ok.frames,I.ok.mod,I.bs,Wt I.ok.kc I.sz,I.stack,I.zt,I.aR,I.bare⟩
theorem Inv.after{Q:VK}{u:wo}(I:.l)(h:CE X.stack X.prog X.w H s Q u s'):EP X pins σ Q u s':=by
 obtain⟨v,H',os,bare,un,aR,r,q⟩:=h;obtain⟨hh,g,d,t,os'⟩:=s';obtain rfl:os'=s.os:=os;exact⟨v,H',I.call (h':=hh) (g':=g) (d':=d) (t':=t) (ch:=[]) un aR bare (λb z=>absurd z .u),r,q⟩
end
def yh(sp:Sp)(dvs:.x)(E:XK)(t:TA):TE:=λσ H Q=>t σ H λvs H1=>sp (vs++dvs) H1 Q E
def oZ(K:wa)(fd:wG)(ps:.U)(ds:.Y):Prop :=
 ∀(s:wq)(us:.Y),K.In s.heap->(us++ds).length=ps.length->BindsTo s fd ⟨us,[]⟩ (ps.zip (us++ds))
theorem oZ.all{K:wa}{fd:wG}{ps:.U}(h:∀us:List wo,us.length=ps.length->bindArgs fd ⟨us,[]⟩=pure (ps.zip us)):oZ K fd ps []:=λs us _ hl=>by
 rw[Wh]at hl ⊢;exact .of_eq (h us hl)
def rZ(CX:hZ)(X:Cx)(E:XK):Prop:=∀(pins:.j)(σ : St)(H:Hp)(s:wq)(e:wo)(s':wq),Inv X pins σ H s->CX X.stack H s E e s'->X.xe e s'
section
variable{X:Cx}{CX:hZ}{k:Nat}{f C:wf}{fd:wG}{ps:.U}{sp:Sp}{dvs:.x}{ds:.Y}{E:XK}{x m:Str}{p pos apos:Pos}{e o:Expr}{es:.aG}{ta:TE}{t:TA}
theorem zFP{pins:.j}{σ : St}{H:Hp}{s:wq}{Q:VK}{us:.Y}{vs:.x}(F:aI X.prog X.w X.K X.mg X.base CX k f fd ps sp)(hr:eY k X.A)(hb:oZ X.K fd ps ds)(hd:aZ dvs ds)(hx:rZ CX X E)
  (I:.l) (r:aZ vs us) (h:sp (vs++dvs) H Q E):wD .m X.A (call (.ref f) us) .cw X.xe s:=by
 have r2:aZ (vs++dvs) (us++ds):=r.append hd;have hl:(us++ds).length=ps.length:=by rw[<- r2.length];exact F.len _ _ _ _ h
 refine wpAny_call (codeAny_mono (F.run X.A X.stack s H ⟨us,[]⟩ (us++ds) (vs++dvs) Q E hr I.OU (hb s us I.eU hl) r2 h) λr s' hq=>?_);cases r with
 | error e=>exact hx pins σ H s e s' I hq
 | ok fl =>
  cases fl with
  | ret u=>exact I.after hq
  | next=>exact W8 hq
  | brk=>exact W8 hq
  | cont=>exact W8 hq
theorem zyA(F:aI X.prog X.w X.K X.mg X.base CX k f fd ps sp)(hr:eY k X.A)(hg:Gl X x)(hm:X.mg x=some (.ref f))(hk:qW X.K (.ref f)=true)(hb:oZ X.K fd ps ds)(hd:aZ dvs ds)(hx:rZ CX X E)
  (ha:PA X (e::es) t) (hdb:.ai=false:=by decide) (he:w9 (e::es) X.env=.bw::w9 es X.env:=by rfl) (hpl:(VR pos .ci).any (·.1)=false:=by rfl) :
  PE X (.Call (.Name x p) (e::es) [] pos) (yh sp dvs E t):=by
 intro pins s σ H Q I h;refine qV (yo I hg hm ?_ hdb);refine Xv (h₀:=X.base) I.ok.mod.ya hk (aS .cN λus s1 ⟨vs,H1,I1,r,q⟩=>⟨I1.eU,?_⟩) he hpl;exact zFP F hr hb hd hx I1 r q
end
section
variable{X:Cx}{CX:hZ}{k:Nat}{f C:wf}{fd:wG}{ps ks:.U}{sp:Sp}{E:XK}{x m:Str}{p pos apos kpos:Pos}{e o:Expr}{es:.aG}{kws:List Keyword}{te ta:TE}{t tk:TA}{nm:Option Str}
variable{g:List wo->List wo->List wo}{gV:List V->List V->List V}
end
variable{base:wS}{qual:Str}
structure aO(N P:.U)(sc:Scope):Prop where
 kind:sc.kind=.function
 co:sc.isCoroutine=false
 gen:sc.isGenerator=false
 nd:N.Nodup
 pre:N.take P.length=P
 par:∀x∈P,sc.names.lookup x=some .local\/sc.names.lookup x=some .cell
 aay:∀y∈sc.names,y.2≠.free
theorem U8{kindOf:Str->Option Vb}{x:Str} : ∀{binds:List (Str × wo)}{m:.M},(∀v,(x,v) ∉ binds)->bindL kindOf binds m x=m x
 | [],_,_=>rfl
 | (n,v)::r,m,h=>by
  unfold bindL;rw[U8 λw hw=>h w (wH _ hw)]
  split
  ·have:x≠n:=by rintro rfl;exact h v wL
   simp[this]
  ·rfl
theorem Ra{kindOf:Str->Option Vb}{x:Str} : ∀{binds:List (Str × wo)}{m:.M},(∀v,(x,v) ∉ binds)->bindC kindOf binds m x=m x
 | [],_,_=>rfl
 | (n,v)::r,m,h=>by
  unfold bindC;rw[Ra λw hw=>h w (wH _ hw)]
  split
  ·rfl
  ·have:x≠n:=by rintro rfl;exact h v wL
   simp[this]
theorem Pt{kindOf:Str->Option Vb}{x:Str}{v:wo} : ∀{P:.U}{vs:.Y}{i:Nat}{m:.M},P.Nodup->P[i]? = some x->vs[i]? = some v->kindOf x=some .local ->
  bindL kindOf (P.zip vs) m x=some v
 | [],_,_,_,_,h,_,_=>by simp at h
 | _::_,[],_,_,_,_,h,_=>by simp at h
 | p::P,w::vs,0,m,nd,h1,h2,hk=>by
  simp at h1 h2;subst h1;subst h2
  show bindL kindOf ((p,w)::P.zip vs) m p=_
  unfold bindL;rw[U8 λv hv=>(qa.mp nd).1 (xt hv).1,if_pos hk];simp
 | p::P,w::vs,i+1,m,nd,h1,h2,hk=>by
  show bindL kindOf ((p,w)::P.zip vs) m x=_
  unfold bindL;exact Pt (i:=i) (qa.mp nd).2 (by simpa using h1) (by simpa using h2) hk
theorem RC{kindOf:Str->Option Vb}{x:Str}{v:wo} : ∀{P:.U}{vs:.Y}{i:Nat}{m:.M},P.Nodup->P[i]? = some x->vs[i]? = some v->kindOf x≠some .local ->
  bindC kindOf (P.zip vs) m x=some v
 | [],_,_,_,_,h,_,_=>by simp at h
 | _::_,[],_,_,_,_,h,_=>by simp at h
 | p::P,w::vs,0,m,nd,h1,h2,hk=>by
  simp at h1 h2;subst h1;subst h2
  show bindC kindOf ((p,w)::P.zip vs) m p=_
  unfold bindC;rw[Ra λv hv=>(qa.mp nd).1 (xt hv).1,if_neg hk];simp
 | p::P,w::vs,i+1,m,nd,h1,h2,hk=>by
  show bindC kindOf ((p,w)::P.zip vs) m x=_
  unfold bindC;exact RC (i:=i) (qa.mp nd).2 (by simpa using h1) (by simpa using h2) hk
def start(N:.U)(vs:.x):St:=vs.map some++vy (N.length-vs.length) none
def kq(CX:hZ)(P:wT)(w:wX)(K:wa)(mg:.M)(base:wS)(N:.U)(qual:Str)(scope:Scope)(f:wf)(cd:wo)(A:vB)(outer:.bT)(s:wq)(H:Hp)(E:XK):Cx where
 prog:=P
 w:=w
 K:=K
 mg:=mg
 base:=base
 A:=A.deeper (envOfC qual scope s.heap.objs.size f cd)
 N:=N
 s₀:=s
 H₀:=H
 env:=envOfC qual scope s.heap.objs.size f cd
 outer:=outer
 stack:=envOfC qual scope s.heap.objs.size f cd::outer
 ex:=[]
 calm:=true
 fn:=λ_=>true
 pn:=[]
 xe:=λe s'=>wD (model P w) (A.deeper (envOfC qual scope s.heap.objs.size f cd)) (leaving (envOfC qual scope s.heap.objs.size f cd) e) (λ_ s''=>CX outer H s E e s'') (λe' s''=>CX outer H s E e' s'') s'
theorem Bm{sc:Scope}{n:Nat}{x:Str}(h:sc.names.lookup x=some .cell):∃c,(cellsFrom n sc.names []).lookup x=some c:=by
 have q:=xB sc.names n [] (.inl h);exact Option.isSome_iff_exists.mp q
theorem zy9{CX:hZ}{P:wT}{w:wX}{K:wa}{mg:.M}{N ps:.U}{scope:Scope}{f:wf}{cd:wo}{A:vB}{outer:.bT}{s s1:wq}{H:Hp}{E:XK}{us:.Y}{vs:.x}
  (S:aO N ps scope) (hd:.cQ) (e0:Aq P w K mg base A outer s H) (hl:vs.length=ps.length) (r:aZ vs us)
  (x:InCallC s s.heap.objs.size (bindL (envOfC qual scope s.heap.objs.size f cd).kindOf (ps.zip us) λ_=>none) (cellsFrom .bB scope.names []) (bindC (envOfC qual scope s.heap.objs.size f cd).kindOf (ps.zip us) λ_=>none) s1) :
  Inv (kq CX P w K mg base N qual scope f cd A outer s H E) [] (start N vs) H s1:=by
 have hpl:ps.length<=N.length:=by have:=congrArg xC S.pre;rw[Wf]at this;lia
 obtain⟨h1,tk,rfl,hk⟩:=x.done;have noA:∀b:wf,b ∉ (kq CX P w K mg base N qual scope f cd A outer s H E).ex:=λb z=>absurd (show b∈([]:List wf)from z) .u
 refine⟨⟨e0.mod,S.kind,rfl,rfl,wu _,λy z c h1 h2=>?_,λy hy=>?_,λy c _ h=>?_,λ_=>hd,xW e0.frames,.inr ⟨rfl,rfl⟩,λb z=>absurd z (noA b),e0.bs,e0.kc,λb _ _=>noA b,λb z=>absurd z (noA b),e0.gA,e0.lQ⟩,
  rfl,e0.bare,Un.kept hk,⟨_,x.toInCall.ns,λi y v h1 h2 h3=>?_⟩,λy c h=>⟨_,x.cell y c h⟩,e0.aR.fresh .ax,λy c h=>?_,λp hp=>absurd (show p∈([]:List (wf × Obj))from hp) .u,e0.aR.kept hk,?_⟩
 ·exact name_of_addr x.apart (Vo h1) (Vo h2)
 ·have hy:scope.names.lookup y=some .cell\/scope.names.lookup y=some .free:=hy
  rcases hy with hy | hy
  ·exact Bm hy
  ·exact absurd rfl (S.aay _ (Vo hy))
 ·exact WM (x.above y c (Vo h))
 ·have hi:i<vs.length:=by
   unfold start at h2
   by_cases hi:i<vs.length
   ·exact hi
   ·rw[vC (by simpa using hi)]at h2
    rw[xm]at h2
    split at h2<;>cases h2
  have ha:vs[i]? = some v:=by
   unfold start at h2;rw[vO (by simpa using hi),wA]at h2;cases e:vs[i]? with
   | none=>rw[e]at h2;cases h2
   | some a=>rw[e]at h2;cases h2;rfl
  obtain⟨u,hu,rv⟩:=r.get ha
  have hp:ps[i]? = some y:=by
   rw[<- S.pre,List.getElem?_take_of_lt .c];exact h1
  have ndP:ps.Nodup:=by rw[<- S.pre];exact S.nd.sublist (XM _ _)
  refine⟨u,rv,?_⟩;rcases S.par y (List.mem_of_getElem? hp)with k | k
  ·exact .inl ⟨k,Pt ndP hp hu k⟩
  ·obtain⟨c,e⟩:=Bm (n:=s.heap.objs.size+1) k
   refine .inr ⟨.inl k,c,e,?_⟩;have q:=x.cell y c e;rw[RC ndP hp hu (by show scope.names.lookup y≠_;rw[k];decide)]at q;exact q
 ·exact e0.aR.fresh (WM (x.above y c (Vo h)))
 ·unfold start
  show _=N.length
  rw[wM,wn,WP]
  lia
theorem Zy{CX:hZ}{P:wT}{w:wX}{K:wa}{mg:.M}{k:Nat}{f:wf}{name:Str}{params:Arguments}{body:List vc}{scope:Scope}{dV kV doc pm cdv ct oc:wo}{an od:.cD}
  {osl:.bx} {N ps:.U} {sp:Sp} (lk:K.lookup f=some ⟨oc,od,.func (VY name qual params body scope dV kV doc pm an cdv ct),osl⟩) (hcd:QL K cdv qual=true) (S:aO N ps scope)
  (len:∀vs H Q E,sp vs H Q E->vs.length=ps.length)
  (hbody:∀(A:vB)(outer:.bT)(s:wq)(H:Hp)(vs:.x)(Q:VK)(E:XK),eY k (A.deeper (envOfC qual scope s.heap.objs.size f cdv))->sp vs H Q E ->
   ∃t,gW (kq CX P w K mg base N qual scope f cdv A outer s H E) body t/\t {nx:=λ_ H'=>Q .bX H',rt:=Q} (start N vs) H) :
  aI P w K mg base CX (k+1) f (VY name qual params body scope dV kV doc pm an cdv ct) ps sp:=by
 refine⟨len,λA outer s H args us vs Q E hr e0 hb r hsp=>?_⟩;have hl:=len _ _ _ _ hsp;have KX:K.In s.heap:=e0.mod.ya.keeps λb o e=>(e0.bs b o e).1
 have lim:s.heap.NoLimit:=e0.mod.nolimit.keeps λb o e=>(e0.bs b o e).1
 have hkind:∀y∈ps.zip us,scope.names.lookup y.1=some .local\/(scope.names.lookup y.1=some .cell/\((cellsFrom .bB scope.names []).lookup y.1).isSome=true):=λ⟨n,v⟩ hy=>by
  rcases S.par n (xt hy).1 with q | q
  ·exact .inl q
  ·exact .inr ⟨q,xB _ _ _ (.inl q)⟩
 refine codeAny_call_function hr.depth (KX _ _ lk) rfl S.co S.gen rfl (PySem.W.codeRec_of KX hcd) (hb _ _ _ _ ?_);refine wpAny_newFunctionEnv_cells S.kind hkind λenv he s1 x=>?_
 subst he;refine⟨lim.keeps x.toInCall.keep,codeAny_func ?_⟩;obtain⟨t,ht,hq⟩:=hbody A outer s H vs Q E (hr.deeper ⟨S.gen,S.co,rfl,rfl⟩) hsp;have I:Inv (kq CX P w K mg base N qual scope f cdv A outer s H E) [] (start N vs) H s1:=zy9 S hr.hd e0 hl r x;refine WU (ht [] s1 (start N vs) H _ I hq) (λfl s' hs=>?_) λe s' hs=>hs
 have fin:∀{σ':St}{H':Hp}{v:V}{u:wo},Inv (kq CX P w K mg base N qual scope f cdv A outer s H E) [] σ' H' s'->bW v u->Q v H'->CE outer P w H s Q u s' :=
  λ{σ' H' v u} J rv q=>⟨v,H',J.os,J.bare,J.base,J.aR,rv,q⟩
 cases fl with
 | ret u =>
  obtain⟨v,σ',H',J,rv,q⟩:=hs;exact fin J rv q
 | next =>
  obtain⟨σ',H',J,q⟩:=hs;exact fin (v:=V.bX) (u:=Value.none) J rfl q
 | brk =>
  obtain⟨_,_,_,q⟩:=hs;exact W8 q
 | cont =>
  obtain⟨_,_,_,q⟩:=hs;exact W8 q
section
variable{X:Cx}{x:Str}{p pos:Pos}{e:Expr}{es:.aG}{t:TA}{id T:.am}{r:List V->Hp->VK->Prop}
def tX(r:List V->Hp->VK->Prop)(t:TA):TE:=λσ H Q=>t σ H λvs H1=>r vs H1 Q
theorem dE(hc:bN X (.builtin id) r)(hg:Gl X x)(hm:X.mg x=none)(hv:vX x=some (.builtin id))(ha:PA X (e::es) t)(hn:x≠"__name__":=by decide)(hdb:.ai=false:=by decide)
  (he:w9 (e::es) X.env=.bw::w9 es X.env:=by rfl) (hpl:(VR pos .ci).any (·.1)=false:=by rfl):PE X (.Call (.Name x p) (e::es) [] pos) (tX r t):=by
 intro pins s σ H Q I h;refine qV (jH I hg hm hv ?_ hn hdb);exact PyProof.Rows.callWith_builtin1 (aS .cN λus s1 ⟨vs,H1,I1,r1,q1⟩=>hc pins s1 σ H1 vs us Q I1 r1 q1) he hpl
theorem gu(hc:bN X (.type T) r)(hg:Gl X x)(hm:X.mg x=none)(hv:vX x=some (.type T))(ha:PA X (e::es) t)(hn:x≠"__name__":=by decide)(hdb:.ai=false:=by decide)
  (he:w9 (e::es) X.env=.bw::w9 es X.env:=by rfl) (hpl:(VR pos .ci).any (·.1)=false:=by rfl):PE X (.Call (.Name x p) (e::es) [] pos) (tX r t):=by
 intro pins s σ H Q I h;refine qV (jH I hg hm hv ?_ hn hdb);exact vQ (aS .cN λus s1 ⟨vs,H1,I1,r1,q1⟩=>hc pins s1 σ H1 vs us Q I1 r1 q1) he hpl
end
section
variable{κ : Type}[DecidableEq κ]
end
abbrev KT(H:Hp):List (List Key × V)->List (List Key × wf × wo)->Prop:=Paired λp q=>p.1=q.1/\H q.2.1=some (.tup (p.1.map kV))/\bW p.2 q.2.2
section
variable{P:wT}{w:wX}{H:Hp}{h:wS}{a:wf}
end
section
variable{X:Cx}{pins:.j}{σ : St}{H:Hp}{s:wq}{a:wf}{y v:V}{u r:wo}{o:.bD}{A:vB}{E:.n}
theorem Inv.big(I:.l):sysModules<s.heap.objs.size:=by
 have h:wV<s.heap.objs.size:=(I.mod.glob.keeps I.bk).lt;exact Nat.lt_trans .ab h
end
section
variable{X:Cx}{pins:.j}{σ : St}{H:Hp}{s:wq}{a:wf}{kvs:List (Key × V)}{k:Key}{u:wo}{A:vB}{E:.n}
end
def zF1(i:Expr):Prop:=∀ov iv,subscripted i false ov iv=operate [ov,iv] (getItem ov iv)
theorem zDv{prog:wT}{w:wX}{A:vB}{E:.n}{s:wq}{env:Env}{value slice:Expr}{pos:Pos}{T id:.am}{Q:.n}
  (hl:typeLookup (.type T) "__getitem__"=pure (some (.builtin id))) (hs:zF1 slice)
  (h:wD .q A (eval value env) (λo s₁=>wD .q A (eval slice env) (λi s₂=>s₂.TypeIs o T/\wD .q A (getItem o i) Q E s₂) E s₁) E s) :
  wD .q A (eval (.Subscript value slice pos) env) Q E s:=by
 refine Subscript_ (WU h (λo s₁ h₁=>WU h₁ (λi s₂ h₂=>?_) λ_ _ x=>x) λ_ _ x=>x);obtain⟨hT,h₂⟩:=h₂;unfold subscriptTail;refine wp ?_;rw[getitemInPython_of_ne hT.not_modules];refine wp (wpAny_specialOf hT hl ?_)
 have fin:wD .q A (subscripted slice false o i) (λr s₃=>wD .q A (letTemporaryGo value o r >>= λ_=>pure r) Q E s₃) E s₂:=by
  rw[hs o i];exact wpAny_operating (WU h₂ (λr s₃ h₃=>wp (wpAny_letTemporaryGo (wI h₃))) λ_ _ x=>x)
 first
  | exact wI (wp fin)
  | exact wp (wI (wp fin))
  | exact wp fin
section
variable{X:Cx}{o i e value:Expr}{pos pos' tpos:Pos}{td ty tv:TE}
end
section
variable{X:Cx}{pos:Pos}
end
abbrev VV:List (V × V)->List (wo × wo)->Prop:=Paired λp q=>bW p.1 q.1/\bW p.2 q.2
section
variable{X:Cx}{pins:.j}{σ : St}{H:Hp}{s:wq}{a:wf}{y d:V}{u r:wo}{o:.bD}{A:vB}{E:.n}
end
section
variable{X:Cx}{o e f:Expr}{apos cpos:Pos}{td ty tx:TE}
end
section
variable{X:Cx}{pins:.j}{σ : St}{H:Hp}{s:wq}{a:wf}{kvs:List (Key × V)}{A:vB}{E:.n}
end
section
variable{X:Cx}{pins:.j}{σ : St}{H:Hp}{s:wq}{a:wf}{y:V}{u:wo}{A:vB}{E:.n}
end
end L2
namespace HT
open PySem PyProof.Rows
section
open PySem.SeqAt
open PySem.AutoSeq1 (wpAny_loadPart')
open PySem.MeetsSeq PySem.MeetsSeq2 PySem.MeetsSeq3
end
section
variable{prog:wT}{w:wX}{A:vB}{E:.n}{s:wq}
theorem aau{t b:wf}{vs ws:.Y}{Q:.n}(ht:IsTup s.heap t vs.toArray)(hb:IsTup s.heap b ws.toArray)(hv:vs≠[])
  (h1:ws=[]->Q (.ref t) s) (h2:ws≠[]->Q .aX {s with heap:=s.heap.push {cls:=.type "tuple",data:=.seq (vs++ws).toArray}})
  (hsz:vs.length+ws.length<=vn):wD .q A (WE .Add (.ref t) (.ref b)) Q E s:=by
 obtain⟨⟨cls,dd,data,sl⟩,ho,hc,n,hd⟩:=id ht;obtain⟨⟨cls2,dd2,data2,sl2⟩,ho2,hc2,n2,hd2⟩:=id hb;simp only at hc hd hc2 hd2;subst hc hd hc2 hd2;have e:vs.toArray++ws.toArray=(vs++ws).toArray:=by simp
 by_cases hw:ws=[]
 ·exact concat_meets ⟨_,ho,rfl⟩ ⟨_,ho2,rfl⟩ noFill_tuple_add seq_tuple_add Qi qZ (qO _ _)
   (tuple_addW1 t b vs.toArray ws.toArray n n2 dd dd2 sl sl2 (by simpa using hv) (by simp[hw])) ⟨ho,ho2,h1 hw⟩
 ·refine concat_meets ⟨_,ho,rfl⟩ ⟨_,ho2,rfl⟩ noFill_tuple_add seq_tuple_add Qi qZ (qO _ _)
   (tuple_addW2 t b vs.toArray ws.toArray n n2 dd dd2 sl sl2 (by simpa using hv) (by simpa using hw) (by rw[wR,wR];exact hsz)) ⟨ho,ho2,?_⟩
  rw[e];exact h2 hw
def bK(n d:Nat):Option Int->Nat
 | none=>d
 | some v=>if v<0 then(v+(n:Int)).toNat else min v.toNat n
theorem sJ(n d:Nat):bK n d none=d:=rfl
theorem pF(n d k:Nat):bK n d (some (k:Int))=min k n:=by
 show(if(k:Int)<0 then((k:Int)+(n:Int)).toNat else min (k:Int).toNat n)=min k n
 rw[if_neg .c,wE]
theorem zEH(n d:Nat)(hd:d<=n)(o:.cv):bK n d o<=n:=by
 cases o with
 | none=>exact hd
 | some v =>
  show(if v<0 then(v+(n:Int)).toNat else min v.toNat n)<=n
  by_cases hv:v<0
  ·rw[if_pos hv];lia
  ·rw[if_neg hv];exact xc _ _
theorem zxJ(v:Int)(n d:Nat):(if v<0 then max (v+(n:Int)) 0 else min v (n:Int))=((bK n d (some v):Nat):Int):=by
 show(if v<0 then max (v+(n:Int)) 0 else min v (n:Int))=(((if v<0 then(v+(n:Int)).toNat else min v.toNat n):Nat):Int)
 by_cases hv:v<0
 ·simp only[if_pos hv];lia
 ·simp only[if_neg hv];lia
theorem zxb(lo hi:.cv)(n:Nat):qK lo hi 1 (n:Int)=(((bK n 0 lo:Nat):Int),((bK n n hi:Nat):Int)):=by
 have h1:¬ ((1:Int)<0):=by lia
 unfold qK;simp only[h1,if_false];refine qj ?_ ?_
 ·cases lo with
  | none=>rfl
  | some v=>exact zxJ v n 0
 ·cases hi with
  | none=>rfl
  | some v=>exact zxJ v n n
theorem zwE(i j:Nat):VT (i:Int) (j:Int) 1=j-i:=by
 unfold VT;have h1:(1:Int) > 0:=by lia
 simp only[h1,if_true,Int.ediv_one]
 split<;>lia
theorem SV{v:wo}{o:.cv}{Q:Option Int->wq->Prop}(p:IsPart v o)(h:Q o s):wD .q A (uP v) Q E s:=by
 cases p with
 | none=>exact slicePart_none h
 | int i t=>exact slicePart_int h
theorem zni{sl:wf}{vl vu:wo}{lo hi:.cv}{n:Nat}{Q:Int × Int × Nat->wq->Prop}(hs:s.heap.IsSliceOf sl vl vu .none)(pl:IsPart vl lo)(pu:IsPart vu hi)
  (h:Q (((bK n 0 lo:Nat):Int),1,bK n n hi-bK n 0 lo) s):wD .q A (QY (.ref sl) (pure (n:Int))) Q E s:=by
 obtain⟨os,hos,hcs,hds⟩:=id hs;unfold QY u3;refine wp (wp (vS hos hds (x:=vl) rfl (wp (vS hos hds (x:=vu) rfl (wp (vS hos hds (x:=.none) rfl (wI ?_)))))));refine wp (slicePart_none ?_)
 show wD _ _ (if((1:Int) == 0)=true then _ else _) _ _ s
 rw[if_neg .ab];refine wp (SV pl (wp (SV pu (wp (wI ?_)))))
 show wD _ _ (match qK lo hi 1 (n:Int)with | (lo,hi)=>pure (lo,(1:Int),VT lo hi 1)) _ _ s
 rw[zxb lo hi n]
 show wD _ _ (pure (((bK n 0 lo:Nat):Int),(1:Int),VT ((bK n 0 lo:Nat):Int) ((bK n n hi:Nat):Int) 1)) _ _ s
 rw[zwE];exact wI h
theorem zCa(xs:.aP)(i k:Nat):((wr k).filterMap λ(m:Nat)=>xs[((i:Int)+(m:Int)*1).toNat]?).toArray=((xs.toList.drop i).take k).toArray:=by
 have e:(λ(m:Nat)=>xs[((i:Int)+(m:Int)*1).toNat]?)=λm=>xs[i+m]?:=by
  funext m
  have:((i:Int)+(m:Int)*1).toNat=i+m:=by lia
  rw[this]
 rw[e];have:=pick_run xs i k;rw[List.filterMap_map]at this;have e2:((λx=>xs[x]?) ∘ λx=>i+x)=λm=>xs[i+m]?:=rfl
 rw[e2]at this;rw[this]
theorem aac{t sl:wf}{items:.aP}{vl vu:wo}{lo hi:.cv}{Q:.n}(ht:IsTup s.heap t items)(hs:s.heap.IsSliceOf sl vl vu .none)(pl:IsPart vl lo)(pu:IsPart vu hi)
  (hw:¬ (bK items.size 0 lo=0/\bK items.size items.size hi=items.size))
  (h:Q .aX {s with heap:=s.heap.push {cls:=.type "tuple",data:=.seq ((items.toList.drop (bK items.size 0 lo)).take (bK items.size items.size hi-bK items.size 0 lo)).toArray}})
  (hsz:items.size<=vn):wD .q A (getItem (.ref t) (.ref sl)) Q E s:=by
 have htake:sizeOk (.seq ((items.toList.drop (bK items.size 0 lo)).take (bK items.size items.size hi-bK items.size 0 lo)).toArray):=by
  show((items.toList.drop (bK items.size 0 lo)).take (bK items.size items.size hi-bK items.size 0 lo)).toArray.size<=vn
  rw[wR,Wf,Wg,Vn]
  lia
 have hj:bK items.size items.size hi<=items.size:=zEH _ _ .ax hi;obtain⟨os,hos,hcs,hds⟩:=id hs;have hTs:s.TypeIs (.ref sl) "slice":=⟨os,hos,hcs⟩;unfold getItem
 try with_reducible refine Va ?_
 first | refine wp (wI ?_) | skip
 refine wp (wpAny_sequenceKey ht.typeIs .ab ?_)
 refine wp (wpAny_callSpecial?_slot (name:=Wn "__getitem__") ht.typeIs V7
  (Wx V7 ht.typeIs entry_tuple_getitem ?_ (args_tuple_getitem _ _)))
 show wD _ _ (QZ (.ref t) >>= _) _ _ s
 refine wp (tupleItemsOf_ ht ?_);refine wp (wpAny_typeOf hTs ?_);rw[if_pos .ab];refine wp (zni hs pl pu ?_)
 have hno:¬ ((((bK items.size 0 lo:Nat):Int) == 0&&(1:Int) == 1&&(bK items.size items.size hi-bK items.size 0 lo) == items.size)=true):=by
  intro q;rw[vf,vf]at q;have q1:((bK items.size 0 lo:Nat):Int)=0:=eq_of_beq q.1.1;have q2:bK items.size items.size hi-bK items.size 0 lo=items.size:=eq_of_beq q.2;exact hw ⟨by lia,by lia⟩
 show wD _ _ (if(((bK items.size 0 lo:Nat):Int) == 0&&(1:Int) == 1&&(bK items.size items.size hi-bK items.size 0 lo) == items.size)=true then _ else _) _ _ s
 rw[if_neg hno,zCa]
 first
  | exact wp (m:=VZ _) (WZ (wI ⟨_,rfl,wI h⟩) htake)
  | exact wp (m:=VZ _) (WZ (wp (wI (wI ⟨_,rfl,wI h⟩))) htake)
  | exact wp (wp (m:=VZ _) (WZ (wI (wI ⟨_,rfl,wI h⟩)) htake))
  | exact wp (wp (m:=VZ _) (WZ (wI ⟨_,rfl,wI h⟩) htake))
end
end HT
namespace L2
open PySem PySem.Spec PyProof.Rows
abbrev TO:=St->Hp->(Option Int->Hp->Prop)->Prop
def PO(X:Cx)(e:Option Expr)(t:TO):Prop :=
 ∀(pins:.j)(s:wq)(σ : St)(H:Hp)(Q:Option Int->Hp->Prop),Inv X pins σ H s->t σ H Q ->
  wD .m X.A (evalPart e X.env) (λu s'=>∃o H',Inv X pins σ H' s'/\IsPart u o/\Q o H') X.xe s
def zxO:TO:=λ_ H Q=>Q none H
def zEh(t:TE):TO:=λσ H Q=>t σ H λx H1=>∃i,x=.int i/\Q (some i) H1
theorem BP{ns:.p} : ∀{us:.Y},aZ .aC us->IntsAre us ns:=by
 induction ns with
 | nil=>intro us r;rw[Qt]at r;cases r;exact .nil
 | cons n ns ih =>
  intro us r;rw[vi]at r;cases r with
  | cons r1 r2 =>
   obtain⟨t,e⟩:=r1;subst e;exact .cons n t (ih r2)
section
variable{X:Cx}{e:Expr}{te:TE}{lo hi:Option Expr}{tl th:TO}{pos p2:Pos}
theorem fW:PO X none zxO:=by
 intro pins s σ H Q I h;rw[evalPart_none];exact wI ⟨none,H,I,.none,h⟩
theorem fE(h:PE X e te):PO X (some e) (zEh te):=by
 intro pins s σ H Q I hw;rw[evalPart_some];refine aS (h pins s σ H _ I hw) λu s1 ⟨x,H1,I1,r1,q1⟩=>?_
 obtain⟨i,rfl,q⟩:=q1;obtain⟨t,rfl⟩:=r1;exact⟨some i,H1,I1,.int i t,q⟩
def nV(X:Cx)(r:V->Option Int->Option Int->Hp->VK->Prop):Prop :=
 ∀(pins:.j)(s:wq)(σ : St)(H:Hp)(x:V)(v vl vu:wo)(lo hi:.cv)(sl:wf)(Q:VK),Inv X pins σ H s->bW x v->s.heap.IsSliceOf sl vl vu .none->IsPart vl lo->IsPart vu hi->r x lo hi H Q ->
  ∃T id,typeLookup (.type T) "__getitem__"=pure (some (.builtin id))/\s.TypeIs v T/\wD .m X.A (getItem v (.ref sl)) .cw X.xe s
theorem nV.or{r r':V->Option Int->Option Int->Hp->VK->Prop}(h:nV X r)(h':nV X r'):nV X (λx lo hi H Q=>r x lo hi H Q\/r' x lo hi H Q):=by
 intro pins s σ H x v vl vu lo hi sl Q I rx hs pl pu q;rcases q with q | q
 ·exact h pins s σ H x v vl vu lo hi sl Q I rx hs pl pu q
 ·exact h' pins s σ H x v vl vu lo hi sl Q I rx hs pl pu q
def PZ(r:V->Option Int->Option Int->Hp->VK->Prop)(te:TE)(tl th:TO):TE:=λσ H Q=>te σ H λx H1=>tl σ H1 λl H2=>th σ H2 λu H3=>r x l u H3 Q
theorem fN{r:V->Option Int->Option Int->Hp->VK->Prop}(hr:nV X r)(he:PE X e te)(hl:PO X lo tl)(hu:PO X hi th):PE X (.Subscript e (.Slice lo hi none p2) pos) (PZ r te tl th):=by
 intro pins s σ H Q I h;refine Subscript_ (aS (he pins s σ H _ I h) λv s1 ⟨x,H1,I1,r1,q1⟩=>?_);refine wpAny_Slice (aS (hl pins s1 σ H1 _ I1 q1) λvl s2 ⟨l,H2,I2,pl,q2⟩=>aS (hu pins s2 σ H2 _ I2 q2) λvu s3 ⟨u,H3,I3,pu,q3⟩=>?_);rw[evalPart_none];refine wI ?_;have I4:Inv X pins σ H3 {s3 with heap:=s3.heap.push {cls:=.type "slice",data:=.fields #[vl,vu,.none]}}:=I3.kept (t':=s3.toks) λb ob q=>wt _ q
 obtain⟨T,id,hT,ht,hg⟩:=hr pins {s3 with heap:=s3.heap.push {cls:=.type "slice",data:=.fields #[vl,vu,.none]}} σ H3 x v vl vu l u s3.heap.objs.size Q I4 r1 (Ub ..) pl pu q3
 show wD .m X.A (subscriptTail e (.Slice lo hi none p2) v (.ref s3.heap.objs.size)) .cw X.xe {s3 with heap:=s3.heap.push {cls:=.type "slice",data:=.fields #[vl,vu,.none]}}
 exact tail_any (ops:=[.ref s3.heap.objs.size,v]) ht hT hg .af
def mE(xs:.x)(lo hi:.cv):List V:=(xs.drop (HT.bK xs.length 0 lo)).take (HT.bK xs.length xs.length hi-HT.bK xs.length 0 lo)
theorem zoB(xs:.x)(lo hi:.cv):(mE xs lo hi).length<=xs.length:=by
 unfold mE;rw[Wf,Wg]
 lia
def Sm(K:wa):V->Option Int->Option Int->Hp->VK->Prop:=λx lo hi H Q=>∃a xs,x=.ref a/\a_ K H a xs /\
 ¬ (HT.bK xs.length 0 lo=0/\HT.bK xs.length xs.length hi=xs.length) /\ ∀p,H p=none->Q .ay (upd H p (.tup (mE xs lo hi)))
theorem zFO:nV X (Sm X.K):=by
 intro pins s σ H x v vl vu lo hi sl Q I rx hs pl pu h;obtain⟨a,xs,rfl,hx,hw,q⟩:=h;cases rx;obtain⟨its,r,ht,hz⟩:=I.tuple hx;have hlen:its.toArray.size=xs.length:=by rw[wR];exact r.length.symm
 refine⟨"tuple",_,V7.lookup,ht.typeIs,?_⟩;refine HT.aac ht hs pl pu (by rw[hlen];exact hw) ?_ (by rw[hlen];exact hz);rw[hlen];refine⟨.ref s.heap.objs.size,_,I.laid (t':=s.toks) (o:=.tup (mE xs lo hi)) (λb ob q=>wt _ q) .ax ?_,rfl,q _ (I.aR.fresh .ax)⟩;exact⟨Wt (zoB xs lo hi) hz,_,(r.drop (HT.bK xs.length 0 lo)).take (HT.bK xs.length xs.length hi-HT.bK xs.length 0 lo),Qr _ _⟩
def RW(K:wa):R2:=λx y H Q=>∃a b xs ys,x=.ref a/\y=.ref b/\a_ K H a xs/\a_ K H b ys/\xs≠[]/\xs.length+ys.length<=vn /\
 (ys=[]->Q .bu H)/\(ys≠[]->∀p,H p=none->Q .ay (upd H p (.tup (xs++ys))))
theorem aZ.DK{xs:.x}{us:.Y}(r:aZ xs us):us=[] ↔ xs=[]:=by
 cases r with
 | nil=>simp
 | cons _ _=>simp
theorem zCn:bV X (WE .Add) (RW X.K):=by
 intro pins s σ H x y v u Q I rx ry h;obtain⟨a,b,xs,ys,rfl,rfl,ha,hb,hx,hz,q1,q2⟩:=h;cases rx;cases ry;obtain⟨its,r1,p1,_⟩:=I.tuple ha;obtain⟨its2,r2,p2,_⟩:=I.tuple hb;refine HT.aau p1 p2 (λz=>hx (r1.DK.mp z)) (λz=>⟨.ref a,H,I,rfl,q1 (r2.DK.mp z)⟩) (λz=>?_) (by rw[<- r1.length,<- r2.length];exact hz);refine⟨.ref s.heap.objs.size,_,I.laid (t':=s.toks) (o:=.tup (xs++ys)) (λb ob q=>wt _ q) .ax ?_,rfl,q2 (λw=>z (r2.DK.mpr w)) _ (I.aR.fresh .ax)⟩;exact⟨by rw[wM];exact hz,_,r1.append r2,Qr _ _⟩
end
def fZ(n:Nat)(i:Int):Option Nat:=if 0<=i then(if i<n then some i.toNat else none)else if -(n:Int)<=i then some (i+n).toNat else none
def jA{α : Type}(xs:.cc)(i:Int):Option α:=(fZ xs.length i).bind λj=>xs[j]?
theorem Tp{n:Nat}{i:Int}{j:Nat}(h:fZ n i=some j):seqIndex? i n=some j/\j<n /\ -(n:Int)<=i/\i<n:=by
 unfold fZ at h
 by_cases h0:0<=i
 ·rw[if_pos h0]at h
  by_cases h1:i<n
  ·rw[if_pos h1]at h
   have e:i.toNat=j:=w6 h;exact⟨by rw[seqIndex_of h0 h1,e],by lia,by lia,h1⟩
  ·rw[if_neg h1]at h;cases h
 ·rw[if_neg h0]at h
  by_cases h1 : -(n:Int)<=i
  ·rw[if_pos h1]at h
   have e:(i+n).toNat=j:=w6 h;exact⟨by rw[seqIndex_neg .c h1,e],by lia,h1,by lia⟩
  ·rw[if_neg h1]at h;cases h
theorem HS{α : Type}{xs:.cc}{i:Int}{v : α}(h:jA xs i=some v):∃j,seqIndex? i xs.length=some j/\xs[j]? = some v/\j<xs.length /\ -.cE<=i/\i<xs.length:=by
 unfold jA at h;cases e:fZ xs.length i with
 | none=>rw[e]at h;cases h
 | some j =>
  rw[e]at h;obtain⟨h1,h2,h3,h4⟩:=Tp e;exact⟨j,h1,h,h2,h3,h4⟩
theorem m4{α : Type}{xs:.cc}{j:Nat}{v : α}(h:xs[j]? = some v):jA xs (j:Int)=some v:=by
 have hj:j<xs.length:=(Vg.mp h).1
 have e:fZ xs.length (j:Int)=some j:=by
  unfold fZ;rw[if_pos .c,if_pos .c];simp
 unfold jA;rw[e];exact h
def zCN(b:Expr):Prop:=∀o i,subscripted b false o i=operate [o,i] (getItem o i)
def gP(X:Cx)(r:R2):Prop :=
 ∀(value slice:Expr)(pins:.j)(s:wq)(σ : St)(H:Hp)(x y:V)(v u:wo)(Q:VK),Inv X pins σ H s->bW x v->bW y u->r x y H Q ->
  subscripted slice false v u=operate [v,u] (getItem v u)->wD .m X.A (subscriptTail value slice v u) .cw X.xe s
def MtR(X:Cx)(id:.am)(r:V->List V->Hp->VK->Prop):Prop :=
 ∀(pins:.j)(s:wq)(σ : St)(H:Hp)(x:V)(xs:.x)(v:wo)(us:.Y)(Q:VK),Inv X pins σ H s->bW x v->aZ xs us->r x xs H Q ->
  wD .m X.A (call (.builtin id) (v::us)) .cw X.xe s
section
variable{X:Cx}{a b:Expr}{ta tb:TE}{pos:Pos}
variable{σ:St}{H:Hp}{s:wq}{x:V}
theorem gP.or{r r':R2}(h:gP X r)(h':gP X r'):gP X (λx y H Q=>r x y H Q\/r' x y H Q):=by
 intro value slice pins s σ H x y v u Q I rx ry q hs;rcases q with q | q
 ·exact h value slice pins s σ H x y v u Q I rx ry q hs
 ·exact h' value slice pins s σ H x y v u Q I rx ry q hs
theorem cB{r:R2}(hr:gP X r)(ha:PE X a ta)(hb:PE X b tb)(hs:zCN b):PE X (.Subscript a b pos) (kg r ta tb):=by
 intro pins s σ H Q I h;exact Subscript_ (KJ ha hb I h λv u s2 x y H2 I2 rx ry q=>hr a b pins s2 σ H2 x y v u Q I2 rx ry q (hs _ _))
def R0(K:wa):R2:=λx y H Q=>∃p xs i v,x=.ref p/\y=.int i/\aF K H p xs/\jA xs i=some v/\Q v H
def Uw(K:wa):R2:=λx y H Q=>∃p xs i v,x=.ref p/\y=.int i/\a_ K H p xs/\jA xs i=some v/\Q v H
def P7:R2:=λx y H Q=>∃z i c,x=.str z/\y=.int i/\z.length<=vn/\jA z.cps.toList i=some c/\Q (.str ⟨#[c]⟩) H
theorem zCe :gP X (R0 X.K):=by
 intro value slice pins s σ H x y v u Q I rx ry h hs;obtain⟨p,xs,i,z,rfl,rfl,hq,he,q⟩:=h;cases rx;obtain⟨t,rfl⟩:=ry;obtain⟨its,r,pl,hz⟩:=I.list hq;obtain⟨j,h1,h2,h3,h4,h5⟩:=HS he;obtain⟨w,ew,rw'⟩:=r.get h2;have hl:=r.length;have hn:=r_;have fin:EP X pins σ Q w s:=⟨z,H,I,rw',q⟩
 by_cases h0:0<=i
 ·have hj:i.toNat=j:=by
   rw[seqIndex_of h0 h5]at h1;exact w6 h1
  exact item_listR pl.isList h0 .c (by rw[hj];simpa using ew) fin hs
 ·have hj:(i+(its.toArray.size:Int)).toNat=j:=by
   rw[seqIndex_neg .c h4]at h1;rw[wR,<- hl];exact w6 h1
  exact subscriptTail_builtinR (x:=w) pl.isList.typeIs slot_list_getitem.lookup
   (wpAny_getItem_list_neg (Q:=λr s'=>r=w/\EP X pins σ Q r s') pl.isList .c (by rw[wR]<;>lia) .c (by rw[hj];simpa using ew) ⟨rfl,fin⟩) hs
theorem zE3 :gP X (Uw X.K):=by
 intro value slice pins s σ H x y v u Q I rx ry h hs;obtain⟨p,xs,i,z,rfl,rfl,hq,he,q⟩:=h;cases rx;obtain⟨t,rfl⟩:=ry;obtain⟨its,r,pl,hz⟩:=I.tuple hq;obtain⟨j,h1,h2,h3,h4,h5⟩:=HS he;obtain⟨w,ew,rw'⟩:=r.get h2;have hl:=r.length;have hn:=r_;have fin:EP X pins σ Q w s:=⟨z,H,I,rw',q⟩
 exact subscriptTail_builtinR (x:=w) pl.typeIs slot_tuple_getitem.lookup
  (getItem_tuple (j:=j) (Q:=λr s'=>r=w/\EP X pins σ Q r s') pl .c .c (by rw[wR,<- hl];exact h1) (by simpa using ew) ⟨rfl,fin⟩) hs
theorem zEz :gP X P7:=by
 intro value slice pins s σ H x y v u Q I rx ry h hs;obtain⟨z,i,c,rfl,rfl,hz,he,q⟩:=h;obtain⟨t,rfl⟩:=rx;obtain⟨t',rfl⟩:=ry;obtain⟨j,h1,h2,h3,h4,h5⟩:=HS he;have hl:z.cps.toList.length=z.length:=by simp[Str.length]
 rw[hl]at h1 h4 h5;have hn:=r_
 exact tail_any (typeIs_str s z t) slot_str_getitem.lookup (getItem_str (c:=c) (by
  have e1:decide (i < -(2^63:Int))=false:=decide_eq_false .c;have e2:decide (i ≥ 2^63)=false:=decide_eq_false .c;rw[e1,e2,uX]) (by rw[h1];simpa using h2) ⟨.str ⟨#[c]⟩,H,I.tok _,⟨_,rfl⟩,q⟩) hs
def dM(K:wa):R2:=λx y H Q=>R0 K x y H Q\/Uw K x y H Q\/P7 x y H Q
theorem ck :gP X (dM X.K):=zCe.or (zE3.or zEz)
theorem zw3(its:.Y)(n j:Nat)(u:wo):Q9 (·.setIfInBounds j u) {cls:=.type "list",data:=.seq its.toArray n} = {cls:=.type "list",data:=.seq (its.set j u).toArray n}:=by
 simp[Q9]
theorem Inv.lst{pins:.j}{p:wf}{xs:.x}(I:.l)(h:H p=some .b7) :
  ∃(its:.Y)(n:Nat),aZ xs its/\s.heap.get? p=some {cls:=.type "list",data:=.seq its.toArray n}/\xs.length<=vn:=by
 obtain⟨z,its,n,r,e⟩:=I.aR p _ h;exact⟨its,n,r,e,z⟩
theorem Inv.aaw{pins:.j}{p:wf}{xs ys:.x}{its its':.Y}{n n':Nat}{f:Obj->Obj}(I:.l)(h:H p=some .b7)
  (ho:s.heap.get? p=some {cls:=.type "list",data:=.seq its.toArray n}) (hf:f {cls:=.type "list",data:=.seq its.toArray n} = {cls:=.type "list",data:=.seq its'.toArray n'}) (r:aZ ys its') (hz:ys.length<=vn) (t:Nat) :
  Inv X pins σ (upd H p .cj) {s with heap:=s.heap.update p f,toks:=t}:=by
 have e:(s.heap.update p f).get? p=some {cls:=.type "list",data:=.seq its'.toArray n'}:=by
  rw[qo f ho (by rw[hf]<;>rfl),hf]
 refine I.write (x:=p) (e:=p) (by rw[h];trivial) .aI (λb u hb q=>(Qj _ _ (WN hb)).trans q) ⟨_,e⟩ ?_;exact⟨hz,its',n',r,e⟩
def zY:V->V->V->Hp->(Hp->Prop)->Prop:=λo i v H Q=>∃p xs k j,o=.ref p/\i=.int k/\H p=some .b7/\fZ xs.length k=some j/\Q (upd H p (.lst (xs.set j v)))
theorem jL :zGJ X zY:=by
 intro pins s σ H o i v ov iv u Q I ro ri rv h;obtain⟨p,xs,k,j,rfl,rfl,hp,hj,q⟩:=h;cases ro;obtain⟨t,rfl⟩:=ri;obtain⟨its,n,r,ho,hz⟩:=I.lst hp;obtain⟨h1,h2,h3,h4⟩:=Tp hj;have hl:=r.length;have hn:=r_
 have I':Inv X pins σ (upd H p (.lst (xs.set j v))) {s with heap:=s.heap.update p (Q9 (·.setIfInBounds j u))} :=
  I.aaw hp ho (zw3 its n j u) (r.set rv j) (by rw[Wv];exact hz) s.toks
 by_cases h0:0<=k
 ·have hk:k.toNat=j:=by
   rw[seqIndex_of h0 h4]at h1;exact w6 h1
  exact PySem.W.ki_setAt ho h0 .c (by rw[wR,<- hl];exact h4) (by rw[hk];exact⟨_,I',q⟩)
 ·have hk:(k+(its.toArray.size:Int)).toNat=j:=by
   rw[seqIndex_neg .c h3]at h1;rw[wR,<- hl];exact w6 h1
  exact PySem.W.ki_setBack ho .c (by rw[wR,<- hl];exact h3) .c (by rw[hk];exact⟨_,I',q⟩)
theorem ztD(lo hi:.cv)(n:Nat):(qI lo hi none n).1=((HT.bK n 0 lo:Nat):Int)/\(qI lo hi none n).2.1=((HT.bK n n hi:Nat):Int)/\(qI lo hi none n).2.2=1:=by
 refine⟨?_,?_,rfl⟩
 ·cases lo with
  | none=>simp[qI,HT.bK]
  | some i =>
   simp only[qI,HT.bK,ua,show(1:Int) > 0 by decide,if_true]
   by_cases h:i<0
   ·simp only[h,if_true]<;>lia
   ·simp only[h,if_false]<;>lia
 ·cases hi with
  | none=>simp[qI,HT.bK]
  | some i =>
   simp only[qI,HT.bK,ua,show(1:Int) > 0 by decide,if_true]
   by_cases h:i<0
   ·simp only[h,if_true]<;>lia
   ·simp only[h,if_false]<;>lia
theorem zqX(its:.Y)(lo hi:.cv):slicePick its.toArray lo hi none=((its.drop (HT.bK its.length 0 lo)).take (HT.bK its.length its.length hi-HT.bK its.length 0 lo)).toArray:=by
 obtain⟨h1,h2,h3⟩:=ztD lo hi its.toArray.size;unfold slicePick;rw[h1,h2,h3];simp only[sliceRange_one,pick_run,wR]<;>rfl
def Y4(K:wa):V->Option Int->Option Int->Hp->VK->Prop:=λx lo hi H Q=>∃a xs,x=.ref a/\aF K H a xs /\ ∀p,H p=none->Q .ay (upd H p (.lst (mE xs lo hi)))
theorem zCF :nV X (Y4 X.K):=by
 intro pins s σ H x v vl vu lo hi sl Q I rx hs pl pu h;obtain⟨a,xs,rfl,hx,q⟩:=h;cases rx;obtain⟨its,r,ht,hz⟩:=I.list hx;have hlen:=r.length;refine⟨"list",_,slot_list_getitem.lookup,ht.isList.typeIs,?_⟩;refine wpAny_getItem_list_slice ht.isList hs pl pu .none .u ?_ (by rw[wR]<;>lia);rw[zqX,<- hlen];refine⟨.ref s.heap.objs.size,_,I.laid (t':=s.toks) (o:=.lst (mE xs lo hi)) (λb ob q=>wt _ q) .ax ?_,rfl,q _ (I.aR.fresh .ax)⟩;exact⟨Wt (zoB xs lo hi) hz,_,0,(r.drop (HT.bK xs.length 0 lo)).take (HT.bK xs.length xs.length hi-HT.bK xs.length 0 lo),wY _ rfl⟩
def kR:V->Bool
 | .bX=>true
 | .bl _=>true
 | .int _=>true
 | .str _=>true
 | _=>false
def nk:V->V->Bool
 | .bX,.bX=>true
 | .bl a,.bl b=>a == b
 | .bl a,.int b=>(if a then 1 else 0) == b
 | .int a,.bl b=>a == (if b then 1 else 0)
 | .int a,.int b=>a == b
 | .str a,.str b=>a == b
 | _,_=>false
theorem zFR{A:vB}{y:V}{u v:wo}(ry:bW y u)(rx:bW x v)(fy:kR y=true)(fx:kR x=true):SeqAt.EqAt A s u v (nk y x):=by
 cases y with
 | bX =>
  cases ry;cases x with
  | bX=>cases rx;exact SeqAt.EqAt.same _
  | bl b=>cases rx;exact SeqAt.EqAt.none_bool b
  | int b=>obtain⟨t,rfl⟩:=rx;exact SeqAt.EqAt.none_int b t
  | str b=>obtain⟨t,rfl⟩:=rx;exact SeqAt.EqAt.none_str b t
  | _=>exact absurd (show false=true from fx) vU
 | bl a =>
  cases ry;cases x with
  | bX=>cases rx;exact SeqAt.EqAt.bool_none a
  | bl b=>cases rx;exact SeqAt.EqAt.bool_bool a b
  | int b=>obtain⟨t,rfl⟩:=rx;exact SeqAt.EqAt.bool_int a b t
  | str b=>obtain⟨t,rfl⟩:=rx;exact SeqAt.EqAt.bool_str a b t
  | _=>exact absurd (show false=true from fx) vU
 | int a =>
  obtain⟨t',rfl⟩:=ry;cases x with
  | bX=>cases rx;exact SeqAt.EqAt.int_none a t'
  | bl b=>cases rx;exact SeqAt.EqAt.int_bool a t' b
  | int b=>obtain⟨t,rfl⟩:=rx;exact SeqAt.EqAt.int_int a t' b t
  | str b=>obtain⟨t,rfl⟩:=rx;exact Xq a t' b t
  | _=>exact absurd (show false=true from fx) vU
 | str a =>
  obtain⟨t',rfl⟩:=ry;cases x with
  | bX=>cases rx;exact SeqAt.EqAt.str_none a t'
  | bl b=>cases rx;exact SeqAt.EqAt.str_bool a t' b
  | int b=>obtain⟨t,rfl⟩:=rx;exact Xr a t' b t
  | str b=>obtain⟨t,rfl⟩:=rx;exact SeqAt.EqAt.str_str a t' b t
  | _=>exact absurd (show false=true from fx) vU
 | _=>exact absurd (show false=true from fy) vU
def ik(x:V)(u:wo):Bool:=match u with
 | .none=>nk .bX x
 | .bool b=>nk (.bl b) x
 | .int i _=>nk (.int i) x
 | .str z _=>nk (.str z) x
 | _=>false
theorem Y1{y:V}{u:wo}(r:bW y u)(f:kR y=true):ik x u=nk y x:=by
 cases y with
 | bX=>cases r;rfl
 | bl b=>cases r;rfl
 | int i=>obtain⟨t,rfl⟩:=r;rfl
 | str z=>obtain⟨t,rfl⟩:=r;rfl
 | _=>exact absurd (show false=true from f) vU
theorem tI{x:V} : ∀{xs:.x}{us:.Y},aZ xs us->xs.all kR=true->us.any (ik x)=xs.any λy=>nk y x
 | _,_,.nil,_=>rfl
 | y::xs,u::us,.cons r t,f=>by
  rw[Xe,vf]at f;rw[Qn,Qn,Y1 r f.1,tI t f.2]
theorem sW{A:vB}{s:wq}{x:V}{v:wo}(rx:bW x v)(fx:kR x=true):∀{xs:.x}{us:.Y},aZ xs us->xs.all kR=true->∀u∈us,SeqAt.EqAt A s u v (ik x u)
 | _,_,.nil,_=>λu hu=>by cases hu
 | y::xs,u::us,.cons r t,f=>λu' hu=>by
  rw[Xe,vf]at f;rcases wO.mp hu with rfl | hu
  ·rw[Y1 r f.1];exact zFR r rx f.1 fx
  ·exact sW rx fx t f.2 u' hu
def sC(x:V)(xs:.x):Bool:=xs.any λy=>nk y x
def iM(K:wa)(neg:Bool):R2:=λx y H Q=>∃p xs,y=.ref p/\(aF K H p xs\/a_ K H p xs)/\kR x=true/\xs.all kR=true/\Q (.bl (if neg then !sC x xs else sC x xs)) H
theorem zzy :bV X (vR .In) (iM X.K false):=by
 intro pins s σ H x y v u Q I rx ry h;obtain⟨p,xs,rfl,hq,fx,fs,q⟩:=h;cases ry;rcases hq with hq | hq
 ·obtain⟨its,r,pl,hz⟩:=I.list hq
  refine SeqAt.in_listAt (ik x) pl.isList (λw hw=>sW rx fx r fs w (by simpa using hw)) ⟨.bl _,H,I,rfl,?_⟩;rw[show its.toArray.any (ik x)=its.any (ik x) by simp,tI r fs];exact q
 ·obtain⟨its,r,pl,hz⟩:=I.tuple hq
  refine SeqAt.in_tupleAt (ik x) pl (λw hw=>sW rx fx r fs w (by simpa using hw)) ⟨.bl _,H,I,rfl,?_⟩;rw[show its.toArray.any (ik x)=its.any (ik x) by simp,tI r fs];exact q
theorem ztS :bV X (vR .NotIn) (iM X.K true):=by
 intro pins s σ H x y v u Q I rx ry h;obtain⟨p,xs,rfl,hq,fx,fs,q⟩:=h;cases ry;rcases hq with hq | hq
 ·obtain⟨its,r,pl,hz⟩:=I.list hq
  refine SeqAt.notIn_listAt (ik x) pl.isList (λw hw=>sW rx fx r fs w (by simpa using hw)) ⟨.bl _,H,I,rfl,?_⟩;rw[show its.toArray.any (ik x)=its.any (ik x) by simp,tI r fs];exact q
 ·obtain⟨its,r,pl,hz⟩:=I.tuple hq
  refine SeqAt.notIn_tupleAt (ik x) pl (λw hw=>sW rx fx r fs w (by simpa using hw)) ⟨.bl _,H,I,rfl,?_⟩;rw[show its.toArray.any (ik x)=its.any (ik x) by simp,tI r fs];exact q
theorem ztB :bN X (.builtin "len") (λxs H Q=>∃p ys,xs=[.ref p]/\(aF X.K H p ys\/a_ X.K H p ys)/\Q (.int ys.length) H):=by
 intro pins s σ H xs us Q I r h;obtain⟨p,ys,rfl,hq,q⟩:=h;obtain⟨u,rfl,rx⟩:=jE r;cases rx;have hn:=r_;rcases hq with hq | hq
 ·obtain⟨its,r',pl,hz⟩:=I.list hq
  have hlen:=r'.length;exact Calls.call_len_list pl.isList (by simp only[wR]<;>lia) ⟨.int ys.length,H,I.tok _,⟨s.toks+1,by rw[wR,hlen]⟩,q⟩
 ·obtain⟨its,r',pl,hz⟩:=I.tuple hq
  have hlen:=r'.length;exact len_tuple pl (by simp only[wR]<;>lia) ⟨.int ys.length,H,I.tok _,⟨s.toks+1,by rw[wR,hlen]⟩,q⟩
theorem zte :bN X (.type "list") (λxs H Q=>∃p ys,xs=[.ref p]/\(aF X.K H p ys\/a_ X.K H p ys) /\ ∀l,H l=none->Q .az (upd H l .cj)):=by
 intro pins s σ H xs us Q I r h;obtain⟨p,ys,rfl,hq,q⟩:=h;obtain⟨u,rfl,rx⟩:=jE r;cases rx
 have fin:∀(its:.Y),aZ ys its->ys.length<=vn->∀(h':wS)(c':Nat),(∀b o',s.heap.get? b=some o'->h'.get? b=some o') ->
     h'.get? s.heap.objs.size=some {cls:=.type "list",dict:=none,data:=.seq its.toArray c',slots:=#[]}->EP X pins σ Q .aX {s with heap:=h'}:=λits r' hz h' c' kp e =>
   ⟨.ref s.heap.objs.size,_,I.laid (t':=s.toks) kp .ax (show eZ X.prog X.w _ h' _ (.lst ys)from⟨hz,its,c',r',e⟩),rfl,q _ (I.aR.fresh .ax)⟩
 rcases hq with hq | hq
 . obtain⟨its,r',pl,hz⟩:=I.list hq
   have hlen:=r'.length;obtain⟨o,ho,hc,n,hd⟩:=pl.isList;exact call_list_seq p .aI ho hc hd (λh' c' kp e=>fin its r' hz h' c' kp e) (by simp only[wR]<;>lia)
 . obtain⟨its,r',pl,hz⟩:=I.tuple hq
   have hlen:=r'.length;obtain⟨o,ho,hc,n,hd⟩:=pl;exact call_list_seq p (.inr rfl) ho hc hd (λh' c' kp e=>fin its r' hz h' c' kp e) (by simp only[wR]<;>lia)
theorem zqY :bN X (.type "tuple") (λxs H Q=>∃p ys,xs=[.ref p]/\((aF X.K H p ys /\ ∀l,H l=none->Q .az (upd H l (.tup ys)))\/(a_ X.K H p ys/\Q .ay H))):=by
 intro pins s σ H xs us Q I r h;obtain⟨p,ys,rfl,h⟩:=h;obtain⟨u,rfl,rx⟩:=jE r;cases rx;rcases h with⟨hq,q⟩ | ⟨hq,q⟩
 ·obtain⟨its,r',pl,hz⟩:=I.list hq
  have hlen:=r'.length;refine call_tuple_list pl.isList (λh' kp=>?_) (by simp only[wR]<;>lia);have I1:Inv X pins σ H {s with heap:=h'}:=I.kept (t':=s.toks) kp
  have I2:Inv X pins σ (upd H h'.objs.size (.tup ys)) {s with heap:=h'.push {cls:=.type "tuple",data:=.seq its.toArray}} :=
   I1.laid (t':=s.toks) (λb o e=>wt _ e) .ax (show eZ X.prog X.w _ _ _ (.tup ys)from⟨hz,its,r',Qr _ _⟩)
  exact⟨.ref h'.objs.size,_,I2,rfl,q _ (I1.aR.fresh .ax)⟩
 ·obtain⟨its,r',pl,hz⟩:=I.tuple hq
  exact call_tuple_same pl ⟨.ref p,H,I,rfl,q⟩
def Ak(K:wa)(T:.am)(x:V)(H:Hp):Prop:=match x with
 | .str _=>T="str"
 | .int _=>T="int"
 | .ref p=>(T="list" /\ ∃xs,aF K H p xs)\/(T="tuple" /\ ∃o,K.lookup p=some o/\o.cls=.type "tuple"/\o.dict=none) \/
     (T="dict"/\((∃kvs,H p=some (.dK kvs)) \/ ∃kvs,H p=some (.dT kvs)))\/(T="set" /\ ∃S n,H p=some (.set S n))
 | _=>False
theorem zEM{pins:.j}{T:.am}{v:wo}(I:.l)(r:bW x v)(ty:Ak X.K T x H) :
  s.TypeIs v T /\ ∀a,v=.ref a->∃ob,s.heap.get? a=some ob/\ob.dict=none:=by
 cases x with
 | str z =>
  obtain⟨t,rfl⟩:=r;cases (show T="str" from ty);exact⟨typeIs_str s z t,λ_ e=>nomatch e⟩
 | int i =>
  obtain⟨t,rfl⟩:=r;cases (show T="int" from ty);exact⟨typeIs_int s i t,λ_ e=>nomatch e⟩
 | ref p =>
  cases r;rcases ty with⟨rfl,xs,hq⟩ | ⟨rfl,o,hk,hc,hd⟩ | ⟨rfl,hk⟩ | ⟨rfl,S,n,hk⟩
  ·obtain⟨its,_,pl,_⟩:=I.list hq
   refine⟨pl.isList.typeIs,λa e=>?_⟩;cases e;obtain⟨o,n,e,c,hd,_⟩:=pl;exact⟨o,e,hd⟩
  ·refine⟨⟨o,I.eU p o hk,hc⟩,λa e=>?_⟩
   cases e;exact⟨o,I.eU _ o hk,hd⟩
  ·have z:∃o,s.heap.get? p=some o/\o.ExactDict:=by
    rcases hk with⟨kvs,hk⟩ | ⟨kvs,hk⟩
    ·obtain⟨_,_,_,_,o,_,_,e,ex,_⟩:=I.aR p _ hk
     exact⟨o,e,ex⟩
    ·obtain⟨_,_,_,_,o,_,_,e,ex,_⟩:=I.aR p _ hk
     exact⟨o,e,ex⟩
   obtain⟨o,e,ex⟩:=z;refine⟨⟨o,e,ex.1⟩,λa e2=>?_⟩;cases e2;exact⟨o,e,ex.2.1⟩
  ·obtain⟨o,_,_,_,e,ex,_⟩:=I.aR p _ hk
   refine⟨⟨o,e,ex.1⟩,λa e2=>?_⟩;cases e2;exact⟨o,e,ex.2.1⟩
 | _=>exact W8 ty
def O9(K:wa)(T:.am)(r:V->List V->Hp->VK->Prop)(to:TE)(t:TA):TE:=λσ H Q=>to σ H λx H1=>Ak K T x H1/\t σ H1 λxs H2=>r x xs H2 Q
variable{o e:Expr}{es:.aG}{to:TE}{t:TA}{name:Str}{apos cpos:Pos}{T id:.am}{r:V->List V->Hp->VK->Prop}
theorem jD(pa:PlainAttrs T)(slot:Slot T name id)(hty:typeOf (.builtin id)=pure (.type "method_descriptor"))(hm:MtR X id r)(ho:PE X o to)(ha:PA X (e::es) t)
  (hbase:attributeBase o name X.env (eval o X.env)=eval o X.env:=by rfl)
  (hfew:((VR cpos (w9 (e::es) X.env)).all (λx=>!x.1)&&(backToKw cpos (keywordEach [] X.env)).all (λx=>x.1.isSome)
   && decide ((e::es).length+([]:List Keyword).length+(if([]:List Keyword).isEmpty then 0 else 1)<30))=true:=by rfl)
  (hline:(apos.endLine == cpos.line)=true:=by rfl) (hs:w9 (e::es) X.env=.bw::w9 es X.env:=by rfl) (hplain:(VR cpos .ci).any (·.1)=false:=by rfl) :
  PE X (.Call (.Attribute o name apos) (e::es) [] cpos) (O9 X.K T r to t):=by
 intro pins s σ H Q I h;refine wpAny_Call_method_late hbase hfew hline rfl (aS (ho pins s σ H _ I h) λv s1 ⟨x,H1,I1,r1,ty,q1⟩=>?_);obtain⟨h1,h2⟩:=zEM I1 r1 ty;refine⟨T,id,pa,slot,hty,h1,h2,?_⟩;have hA:=ha cpos pins s1 σ H1 _ I1 q1;rw[hs]at hA ⊢;refine Calls.callWith_builtin (by show(false || (VR cpos .ci).any (·.1))=false;rw[hplain]<;>rfl) (xX ?_);exact aS hA λus s2 ⟨vs,H2,I2,r2,q2⟩=>hm pins s2 σ H2 x vs v us Q I2 r1 r2 q2
end
def Ih(X:Cx)(id:.am)(r:V->List V->Hp->VK->Prop):Prop :=
 ∀(pins:.j)(s:wq)(σ : St)(H:Hp)(x:V)(xs:.x)(v:wo)(us:.Y)(Q:VK),Inv X pins σ H s->bW x v->aZ xs us->r x xs H Q ->
  wD .m X.A (call (.builtin id) (v::us)) .cw X.xe s
theorem aZ.one:∀{x:V}{us:.Y},aZ [x] us->∃u,us=[u]/\bW x u
 | _,_,.cons r .nil=>⟨_,rfl,r⟩
theorem aZ.rep{xs:.x}{us:.Y}(h:aZ xs us):∀k:Nat,aZ (vy k xs).flatten (vy k us).flatten
 | 0=>.nil
 | k+1=>by
  rw[V6,V6,VO,VO];exact aZ.append h (aZ.rep h k)
theorem zrJ(its:.Y):∀(k:Nat)(acc:.Y),
  uw (λx1 x2=>x1++x2) acc.toArray (vy k its.toArray)=(acc++(vy k its).flatten).toArray
 | 0,acc=>by simp
 | k+1,acc=>by
  have e:acc.toArray++its.toArray=(acc++its).toArray:=by simp
  have e2:(acc++its)++(vy k its).flatten=acc++(vy (k+1) its).flatten:=by
   rw[V6,VO,Wr]
  rw[<- e2,<- zrJ its k (acc++its),<- e,V6,List.foldl_cons]
section
variable{X:Cx}{pins:.j}{σ : St}{H:Hp}{s:wq}{l b:wf}{xs ys zs:.x}
theorem Inv.aaM{its its':.Y}{n:Nat}{f:Array wo->Array wo}{t':Nat}(I:.l)(hH:H l=some .b7)
  (e:s.heap.get? l=some {cls:=.type "list",data:=.seq its.toArray n}) (hf:f its.toArray=its'.toArray) (hv:aZ ys its') (hz:ys.length<=vn) :
  Inv X pins σ (upd H l .cj) {s with heap:=s.heap.update l (Q9 f),toks:=t'}:=by
 have q:=PySem.IsL.update e f;rw[hf]at q;refine I.write (x:=l) (e:=l) (by rw[hH];exact trivial) .aI (λb' u hb hu=>(Qj s.heap (Q9 f) (WN hb)).trans hu) ⟨_,q⟩ ?_;exact⟨hz,its',_,hv,q⟩
theorem Inv.DO{its:.Y}{t':Nat}(I:.l)(hv:aZ ys its)(hz:ys.length<=vn) :
  Inv X pins σ (upd H s.heap.objs.size .cj) {s with heap:=s.heap.push {cls:=.type "list",data:=.seq its.toArray},toks:=t'} :=
 I.laid (λ_ _ q=>wt _ q) .ax ⟨hz,its,0,hv,wY _ rfl⟩
theorem Inv.fresh(I:.l):H s.heap.objs.size=none:=I.aR.fresh .ax
theorem Inv.sQ(I:.l)(hH:H l=some .b7):xs.length<=vn /\ ∃(its:.Y)(n:Nat),aZ xs its/\xs.length=its.length/\s.heap.get? l=some {cls:=.type "list",data:=.seq its.toArray n}:=by
 obtain⟨z,its,n,r,e⟩:=I.aR l _ hH;exact⟨z,its,n,r,r.length,e⟩
theorem zCb{n:Nat}(h:n<=vn):qP n=false:=by
 unfold qP;exact decide_eq_false .c
end
section
variable{X:Cx}
def UN:V->List V->Hp->VK->Prop:=λx vs H Q=>∃l xs y,x=.ref l/\vs=[y]/\H l=some .b7/\xs.length<vn/\Q .bX (upd H l (.lst (xs++[y])))
theorem jk:Ih X "list.append" UN:=by
 intro pins s σ H x vs v us Q I rx rv h;obtain⟨l,xs,y,rfl,rfl,hH,hz,q⟩:=h;cases rx;obtain⟨u,rfl,ru⟩:=rv.one;obtain⟨z,its,n,r,hl,e⟩:=I.sQ hH;refine call_meets F.slot_list_append ⟨_,e,rfl⟩ F.entry_list_append (F.args_list_append_2 _ _) (PySem.list_append l its.toArray n u (by rw[wR];lia)) ⟨e,?_⟩;refine⟨.bX,_,I.aaM (its':=its++[u]) hH e .u (r.append (.cons ru .nil)) ?_,rfl,q⟩;rw[wM,vL]
 lia
def KW:R2:=λx y H Q=>∃l b xs zs,x=.ref l/\y=.ref b/\H l=some .b7/\H b=some (.lst zs)/\xs.length+zs.length<=vn /\ ∀p,H p=none->Q .ay (upd H p (.lst (xs++zs)))
theorem zEw:bV X (WE .Add) KW:=by
 intro pins s σ H x y v u Q I rx ry h;obtain⟨l,b,xs,zs,rfl,rfl,hH,hB,hz,q⟩:=h;cases rx;cases ry;obtain⟨z,its,n,r,hl,e⟩:=I.sQ hH;obtain⟨z2,its2,n2,r2,hl2,e2⟩:=I.sQ hB;refine PySem.P.add_list e e2 ?_ (by rw[wR,wR];lia);have ea:its.toArray++its2.toArray=(its++its2).toArray:=by simp
 rw[ea];exact⟨.ref _,_,I.DO (t':=s.toks) (r.append r2) (by rw[wM];lia),rfl,q _ I.fresh⟩
def oH:R2:=λx y H Q=>∃l k xs,x=.ref l/\y=.int k/\H l=some .b7 /\ -(2^63)<=k/\k<2^63/\xs.length*k.toNat<=vn /\
 ∀p,H p=none->Q .ay (upd H p (.lst (vy k.toNat xs).flatten))
theorem zDD{α : Type}(xs:.cc)(k:Nat):(vy k xs).flatten.length=k*xs.length:=by
 induction k with
 | zero=>simp
 | succ k ih=>rw[V6,VO,wM,ih,Vi,Xw]
theorem Ao:bV X (WE .Mult) oH:=by
 intro pins s σ H x y v u Q I rx ry h;obtain⟨l,k,xs,rfl,rfl,hH,h1,h2,hz,q⟩:=h;cases rx;obtain⟨t,rfl⟩:=ry;obtain⟨z,its,n,r,hl,e⟩:=I.sQ hH;have hlen:its.toArray.size*k.toNat<=vn:=by rw[wR,<- hl];exact hz
 have hcap:¬ its.toArray.size*k.toNat > (2^63-1) / 8:=by
  have:(vn:Nat)<=(2^63-1) / 8:=by decide
  lia
 have hfit:¬ (!Builtin.List.listFitsIndex k)=true:=by
  rw[fitsIndex_both h1 h2];exact vU
 have hlong:¬ qP (its.toArray.size*k.toNat)=true:=by
  rw[zCb hlen];exact vU
 have hnew:uw (λx1 x2=>x1++x2) #[] (vy (if its.toArray.isEmpty=true then 0 else k.toNat) its.toArray)=(vy k.toNat its).flatten.toArray:=by
  have f0:∀m:Nat,uw (λx1 x2=>x1++x2) #[] (vy m its.toArray)=(vy m its).flatten.toArray:=λm=>by
   have:=zrJ its m [];rw[qb]at this;exact this
  rw[f0];cases its with
  | nil=>simp
  | cons a r'=>rw[if_neg .u]
 refine wpAny_binaryOp_repeat_ref (T:="list") (U:="int") .ab ⟨_,e,rfl⟩ (λs'=>typeIs_int s' k t) noFill_list_mul F.fills_int_mul uz repeat_list F.slot_int_index.lookup
  (call_meets uz (typeIs_int s k t) F.entry_int_rmul (F.args_int_rmul_2 _ _) (int___rmul___int_list k t l its.toArray n)
   ⟨e,rfl,⟨_,e,rfl⟩,call_meets F.slot_list_mul ⟨_,e,rfl⟩ F.entry_list_mul (F.args_list_mul_2 _ _) (AutoListH.list___mul___list_int_3 l its.toArray n k t hfit hcap hlong) ⟨e,?_⟩⟩)
 rw[hnew];exact⟨.ref _,_,I.DO (t':=s.toks) (r.rep k.toNat) (by rw[zDD,xf];exact hz),rfl,q _ I.fresh⟩
end
section
variable{prog:wT}{w:wX}{A:vB}{E:.n}{s:wq}
end
section
variable{X:Cx}
end
end L2
namespace Att
open PySem PySem.W PySem.Calls PyProof.Rows
theorem zoN{P:Params}{h:wS} : ∀(ns:.p)(vs:.Y),WellAll P h vs (ns.map WData.int)->IntsAre vs ns:=by
 intro ns
 induction ns with
 | nil =>
  intro vs w;rw[Qt]at w;cases w;exact .nil
 | cons n ns ih =>
  intro vs w;rw[vi]at w;cases w with
  | cons a b =>
   cases a;exact .cons _ _ (ih _ b)
theorem zyJ{l:OpenLaw}{n:Nat}(hn:l.most=some n){P:Params}{h:wS}{args:List WData}{vals:.Y}
  (hpre:l.row.toRowW.claim.pre args=true) (hwl:WellAll P h vals args) :
  ∃a vs ns,vals=[Value.ref a]/\args=[WData.list (ns.map WData.int)]/\h.get? a=some {cls:=.type "list",data:=.seq vs.toArray}/\IntsAre vs ns/\ns.length<=n:=by
 have hsh:WShape.hasAll [] args [.list .int]=true:=(pre_splitW hpre).1;have hc:l.pre.holds [] {args:=args}=true:=(pre_splitW hpre).2;obtain⟨d,r,rfl,h1,h2⟩:=hasAllW_cons hsh;obtain rfl:=hasAllW_nil h2;obtain⟨xs,rfl,h3⟩:=hasW_list h1;obtain⟨ns,rfl⟩:=items_int h3
 have hlen:ns.length<=n:=by
  unfold OpenLaw.pre at hc
  have h4:(WTm.not (.lt (.lit (.int (n:Int))) (.len (.arg 0)))).holds [] {args:=[.list (ns.map .int)]}=true:=by
   have h4:=(holds_andW hc).1;rw[hn]at h4;exact h4
  have h5:=condW_of h4 (w_not (w_lt w_lit (w_len_list (w_arg rfl))));rw[wn]at h5;refine Nat.le_of_not_lt λq=>?_
  have q':(n:Int)<((ns.length:Nat):Int):=by lia
  first
   | (rw[decide_eq_true q']at h5;exact absurd h5 .ab)
   | (simp at h5;lia)
 cases hwl with
 | cons w1 w2 =>
  cases w2;cases w1 with
  | list ho hall=>exact⟨_,_,ns,rfl,rfl,ho,zoN ns _ hall,hlen⟩
theorem zyZ(l:OpenLaw)(args:List WData):l.row.toRowW.claim.post args (.bool true) args=true :=
 postW_of (r:=l.row.toRowW) (X:=(true == true))
  (show WShape.has [] (.bool true) .bool=true by first | rfl | decide | simp[WShape.has,WShape.arms,WShape.armsAll])
  (show(WTm.eq .res (.lit (.bool true))).value [] {args:=args,res:=some (.bool true),after:=args}=some (.bool (true == true))from w_eq_bool (w_res rfl) w_lit) rfl
theorem aaj{l:OpenLaw}{n:Nat}{q:wT}{loose:.U}{XP:(Str->Option wo)->wS->Prop}{YP:wX->wS->Prop}{d:DefRec}
  (hn:l.most=some n) (hdf:d.params.defaults=[])
  (call:∀(w:wX)(s₀ s₁ : wq)(mg mb:.M)(fa:wf)(o:Obj)(pm cd doc:wo)(a:wf)(vs:.Y)(ns:.p),
   Ground q loose [] XP w s₀ mg mb s₁.heap->YP w s₁.heap ->
   s₁.heap.get? fa=some o->o.data=.func (docDef d.name d.params d.body d.scope pm cd doc)->s₁.heap.CodeRec cd d.name->mg d.name=some (.ref fa) ->
   s₁.heap.get? a=some {cls:=.type "list",data:=.seq vs.toArray}->IntsAre vs ns->ns.length<=n->s₁.gens = #[] ->
   codeAny (model l.prog w) callerA (.call (.ref fa) ⟨[.ref a],[]⟩) (λr s'=>r=.ok (.ret (.bool true))/\OldK s₁.heap s'.heap/\s'.os=s₁.os/\AllBare s'.gens) s₁) :
  WalkO q loose XP YP l.row.toRowW d [] (λf vs=>uA f vs):=by
 intro w s₀ s₁ mg mb G Y fa o pm cd doc dV kV ho hd hcd hD hmg hg args vals as hpre hlay hrd hwl hlo;obtain rfl:dV=.none:=Dflts.none hD hdf;obtain rfl:kV=.none:=Dflts.noKw hD;obtain⟨a,vs,ns,rfl,rfl,hobj,hints,hlen⟩:=zyJ hn hpre hwl;refine enter_call (codeAny_mono (call w s₀ s₁ mg mb fa o pm cd doc a vs ns G Y ho (fd_plain hd) hcd hmg hobj hints hlen hg) λr s' hq=>?_);obtain⟨rfl,h2,h3,h4⟩:=hq;exact⟨.inl ⟨.bool true,.bool true,[],rfl,λ_=>rfl,.bool true,zyZ l _,λ_=>⟨Xf.nil,λ_ hm=>(nomatch hm)⟩⟩,h2,h3,h4⟩
section
variable{prog:wT}{w:wX}{A:vB}{E:.n}{s:wq}{K:Frag}
def zGT(h:wS)(L d:wf):List (wf × Obj):=(wr h.objs.size).filterMap λa=>if a=L\/a=d then none else(h.get? a).map λo=>(a,o)
end
end Att
namespace L2
open PySem PySem.Spec PyProof.Rows
theorem zr6:∀{vs:.Y}{ns:.p},IntsAre vs ns->aZ .aC vs
 | _,_,.nil=>.nil
 | _,_,.cons n t h=>.cons ⟨t,rfl⟩ (zr6 h)
def A8(H:Hp):Prop:=∀b,H b=none \/ ∃o xs,H b=some (.jb o .b7)
theorem zBy{P:wT}{w:wX}{K:wa}{mg mb:.M}{CX:hZ}{k:Nat}{fa a:wf}{fd:wG}{x:Str}{sp:Sp}{s₁ : wq}{vs:.Y}{ns:.p}
   (KX:K.In s₁.heap) (hns:s₁.heap.Ns wV mg) (hb:s₁.heap.Ns builtinsNs mb) (hbb:∀x:Str,x≠"__name__" -> mb x=vX x) (hlim:s₁.heap.NoLimit) (hseer:s₁.heap.NoSeer) (hg:s₁.gens = #[])
   (ha:s₁.heap.get? a=some {cls:=.type "list",data:=.seq vs.toArray}) (hi:IntsAre vs ns) (hl:ns.length<=vn) (hr:eY k callerA)
   (F:∀base:wS,K.In base->base.Ns wV mg->aI P w K mg base CX k fa fd [x] sp) (hbind:∀(s:wq)(u:wo),BindsTo s fd ⟨[u],[]⟩ [(x,u)])
   (hsp:∀H:Hp,A8 H->aF K H a .aC->sp [.ref a] H (λv _=>v=.bl true) λ_ _ _=>False)
   (hCX:∀H e s',CX [] H s₁ (λ_ _ _=>False) e s'->False) :
   codeAny (model P w) callerA (.call (.ref fa) ⟨[.ref a],[]⟩) (λr s'=>r=.ok (.ret (.bool true))/\OldK s₁.heap s'.heap/\s'.os=s₁.os/\AllBare s'.gens) s₁:=by
 have rv:=zr6 hi;have lenV:=hi.length
 have core:∀H:Hp,A8 H->aF K H a .aC->d7 P w H s₁.heap->(∀b,H b≠none->b=a)->(H a≠none->K.lookup a=none) ->
     codeAny (model P w) callerA (.call (.ref fa) ⟨[.ref a],[]⟩) (λr s'=>r=.ok (.ret (.bool true))/\OldK s₁.heap s'.heap/\s'.os=s₁.os/\AllBare s'.gens) s₁:=by
   intro H hO hS aR hA hK;have base_of:∀{b:wf}{o:Obj},s₁.heap.get? b=some o->H b=none->(ma s₁.heap H).get? b=some o:=λe n=>zBS e n
   have noA:∀{b:wf}{o:Obj}{es:Array DictEntry}{ep:Nat},s₁.heap.get? b=some o->o.data=.dict es ep->H b=none:=λ{b o es ep} e d=>by
     cases q:H b with
     | none=>rfl
     | some u =>
       have e':b=a:=hA b (by rw[q];simp);subst e';rw[ha]at e;cases e;have d':Data.seq vs.toArray _=Data.dict es ep:=d;cases d'
   have nsK:∀{b:wf}{m:.M},s₁.heap.Ns b m->(ma s₁.heap H).Ns b m:=λ{b m} ⟨o,es,ep,e,d,r⟩=>⟨o,es,ep,base_of e (noA e d),d,r⟩
   have hKb:K.In (ma s₁.heap H):=λb o e=>base_of (KX b o e) (by
     cases q:H b with
     | none=>rfl
     | some u =>
       have e':b=a:=hA b (by rw[q];simp);subst e';rw[hK (by rw[q];simp)]at e;cases e)
   have hM:Mod K mg (ma s₁.heap H):=⟨hKb,nsK hns,⟨mb,nsK hb,hbb⟩,let ⟨mc,h1,h2⟩:=hlim;⟨mc,nsK h1,h2⟩,let ⟨mc,a,b⟩:=hseer.statics;⟨mc,nsK a,b⟩,let ⟨mm,a,b⟩:=hseer.mods;⟨mm,nsK a,b⟩,let ⟨mb,a,b⟩:=hseer.imp;⟨mb,nsK a,b⟩,let ⟨mg,bm,ob,a,b,c,d,e⟩:=hseer.main;⟨mg,bm,ob,nsK a,b,base_of c (by
     cases q:H bm with
     | none=>rfl
     | some u =>
       obtain rfl:=hA bm (by rw[q];simp);rw[ha]at c;cases c;exact absurd (show(Value.type "list" : wo)=.type "module" from d) .ab),d,e⟩⟩
   have e0:Aq P w K mg (ma s₁.heap H) callerA [] s₁ H:=⟨rfl,hM,λb o e=>zCT e,Nat.le_of_eq (zzl _ _),trivial,λb hb=>absurd (show b∈([]:List wf)from hb) .u,aR,.of_eq hg⟩;refine codeAny_mono ((F _ hKb (nsK hns)).run callerA [] s₁ H ⟨[.ref a],[]⟩ [.ref a] [.ref a] _ _ hr e0 (hbind s₁ .bu) (.cons rfl .nil) (hsp H hO hS)) λr s' h=>?_
   cases r with
   | error e=>exact(hCX H e s' h).elim
   | ok fl =>
     cases fl with
     | next=>exact W8 h
     | brk=>exact W8 h
     | cont=>exact W8 h
     | ret u =>
       obtain⟨v,H',os,bare,un,hok',r',q⟩:=h;have q':v=.bl true:=q;subst q';obtain rfl:u=Value.bool true:=r';refine⟨rfl,OldK.of_keep λb o e=>?_,os,bare⟩;cases q:H b with
       | none=>exact un.keep b o e q (by intro z;exact absurd (show b∈([]:List wf)from z) .u) .u
       | some u =>
         rcases hO b with z | ⟨ob,xs,z⟩
         . rw[q]at z;cases z
         . have z2:=un.jK b ob _ z
           obtain⟨e1,_⟩:=aR b _ z;obtain⟨e2,_⟩:=hok' b _ z2;rw[e]at e1;cases e1;exact e2
 cases hk:K.lookup a with
 | some o =>
   have e:=KX a o hk;rw[ha]at e;cases e;refine core (λ_=>none) (λ_=>.inl rfl) (.inr ⟨_,vs.toArray,_,hk,rfl,rfl,rfl,by rw[wR,lenV];exact hl,by simpa using rv⟩) (λb u z=>by have z':(none:Option HO)=some u:=z;cases z') (λb z=>absurd rfl z) λz=>absurd rfl z
 | none =>
   refine core (λb=>if b=a then some (.jb {cls:=.type "list",data:=.seq vs.toArray} (.lst .aC))else none) (λb=>?_) (.inl (.inr ⟨{cls:=.type "list",data:=.seq vs.toArray},if_pos rfl⟩)) (λb u z=>?_) (λb z=>?_) λ_=>hk
   . by_cases hb:b=a
     . exact .inr ⟨_,_,if_pos hb⟩
     . exact .inl (if_neg hb)
   . by_cases hb:b=a
     . have z':=(if_pos hb).symm.trans z
       cases z';subst hb;exact⟨ha,by rw[wn];exact hl,vs,_,rv,ha⟩
     . have z':=(if_neg hb).symm.trans z
       cases z'
   . by_cases hb:b=a
     . exact hb
     . exact absurd (if_neg hb) z
abbrev KOf{K:wa}{h:wS}(_:K.In h):wa:=K
theorem aav{l:xu}{n k:Nat}{q:wT}{loose:.U}{XP:(Str->Option wo)->wS->Prop}{YP:wX->wS->Prop}{d:DefRec}{K:Params->wa}{CX:wX->hZ}{sp:wX->Sp}{x:Str}
  (hn:l.most=some n) (hn2:n<=vn) (himp:importsNone q=true) (hdf:d.params.defaults=[]) (hr:eY k callerA)
  (hY:∀(w:wX)(h:wS),YP w h->(K w.params).In h)
  (F:∀(w:wX)(mg:.M)(fa:wf)(h:wS),(K w.params).In h->h.Ns wV mg->mg d.name=some (.ref fa) ->
   ∃fd:wG,(∀(s:wq)(u:wo),BindsTo s fd ⟨[u],[]⟩ [(x,u)]) /\
    ∀base:wS,(K w.params).In base->base.Ns wV mg->aI l.prog w (K w.params) mg base (CX w) k fa fd [x] (sp w))
  (hsp:∀(w:wX)(H:Hp)(a:wf)(ns:.p),ns.length<=n->A8 H->aF (K w.params) H a .aC->sp w [.ref a] H (λv _=>v=.bl true) λ_ _ _=>False)
  (hCX:∀(w:wX)(H:Hp)(s:wq)(e:wo)(s':wq),CX w [] H s (λ_ _ _=>False) e s'->False) :
  uY q loose XP YP l.row.toRowW d [] (λf vs=>uA f vs):=by
 refine Att.aaj hn hdf λw s₀ s₁ mg mb fa o pm cd doc a vs ns G Y ho hd hcd hmg hobj hints hlen hg=>?_
 have KX:=hY w _ Y;obtain⟨fd,hb,hF⟩:=F w mg fa _ KX G.T.g hmg;exact zBy KX G.T.g G.T.b G.T.builtins G.T.nolimit (G.T.seer himp) hg hobj hints (Wt hlen hn2) hr hF hb (λH hO hS=>hsp w H a ns hlen hO hS) λH e s'=>hCX w H s₁ e s'
def rk(s:vc):Arguments:=match s with
 | .FunctionDef _ a _ _ _ _ _ _ _ _=>a
 | _=>{posonlyargs:=[],args:=[],vararg:=none,kwonlyargs:=[],kw_defaults:=[],kwarg:=none,defaults:=[]}
def nQ(s:vc):List vc:=match s with
 | .FunctionDef _ _ b _ _ _ _ _ _ _=>b
 | _=>[]
def aJ(s:vc):Scope:=match s with
 | .FunctionDef _ _ _ _ _ _ sc _ _ _=>sc
 | _=>{kind:=.function,names:=[],isGenerator:=false,isCoroutine:=false}
abbrev aP:hZ:=λ_ _ _ _ _ _=>False
abbrev E0:XK:=λ_ _ _=>False
theorem zGl{X:Cx} : rZ aP X E0:=λ_ _ _ _ _ _ _ h=>h.elim
structure nZ(K:wa)(x qual:Str)(st:vc)(f:wf)(fd:wG):Prop where
 ex:∃(oc:wo)(od:.cD)(kV doc pm:wo)(an:.cD)(cdv ct:wo)(osl:.bx),
   fd=VY x qual (rk st) (nQ st) (aJ st) .none kV doc pm an cdv ct/\K.lookup f=some ⟨oc,od,.func fd,osl⟩/\QL K cdv qual=true
 kp:qW K (.ref f)=true
section
variable{P:wT}{w:wX}{K:wa}{mg:.M}{base:wS}
variable{qual x:Str}{st:vc}{f:wf}
theorem nZ.ok{fd:wG}{N ps:.U}{k:Nat}{sp:Sp}(F:nZ K x qual st f fd)(S:aO N ps (aJ st))(len:∀vs H Q E,sp vs H Q E->vs.length=ps.length)
  (hbody:N.Nodup->∀(cdv:wo)(A:vB)(outer:.bT)(s:wq)(H:Hp)(vs:.x)(Q:VK)(E:XK),eY k .bq->sp vs H Q E ->
   ∃t,gW (kq aP P w K mg base N qual (aJ st) f cdv A outer s H E).C5 (nQ st) t/\t {nx:=λ_ H'=>Q .bX H',rt:=Q} (start N vs) H):aI P w K mg base aP (k+1) f fd ps sp:=by
 obtain⟨oc,od,kV,doc,pm,an,cdv,ct,osl,rfl,lk,hcd⟩:=F.ex;refine Zy lk hcd S len λA outer s H vs Q E hr hsp=>?_
 obtain⟨t,h,q⟩:=hbody S.nd cdv A outer s H vs Q E hr hsp;exact⟨t,h.C5,q⟩
def S1(g:V->Hp->VK->XK->Prop):Sp:=λvs H Q E=>match vs with|[u]=>g u H Q E|_=>False
theorem S1.i{g:V->Hp->VK->XK->Prop}{H:Hp}{Q:VK}{E:XK}{u:V}(h:g u H Q E):S1 g [u] H Q E:=h
theorem nZ.c1{fd:wG}{N ps:.U}{k:Nat}{g:V->Hp->VK->XK->Prop}(F:nZ K x qual st f fd)(S:aO N ps (aJ st))(hp:ps.length=1)(hbody:N.Nodup->∀(cdv:wo)(A:vB)(outer:.bT)(s:wq)(H:Hp)(u:V)(Q:VK)(E:XK),eY k .bq->g u H Q E ->
   ∃t,gW (kq aP P w K mg base N qual (aJ st) f cdv A outer s H E).C5 (nQ st) t/\t {nx:=λ_ H'=>Q .bX H',rt:=Q} (start N [u]) H):aI P w K mg base aP (k+1) f fd ps (S1 g):=F.ok S (λvs H Q E h=>by unfold S1 at h;split at h;exact hp.symm;cases h) λ_ cdv A o s H vs Q E hr h=>by unfold S1 at h;split at h;exact hbody S.nd cdv A o s H _ Q E hr h;cases h
def S2(g:V->V->Hp->VK->XK->Prop):Sp:=λvs H Q E=>match vs with|[u,v]=>g u v H Q E|_=>False
theorem S2.i{g:V->V->Hp->VK->XK->Prop}{H:Hp}{Q:VK}{E:XK}{u v:V}(h:g u v H Q E):S2 g [u,v] H Q E:=h
theorem nZ.c2{fd:wG}{N ps:.U}{k:Nat}{g:V->V->Hp->VK->XK->Prop}(F:nZ K x qual st f fd)(S:aO N ps (aJ st))(hp:ps.length=2)(hbody:N.Nodup->∀(cdv:wo)(A:vB)(outer:.bT)(s:wq)(H:Hp)(u v:V)(Q:VK)(E:XK),eY k .bq->g u v H Q E ->
   ∃t,gW (kq aP P w K mg base N qual (aJ st) f cdv A outer s H E).C5 (nQ st) t/\t {nx:=λ_ H'=>Q .bX H',rt:=Q} (start N [u,v]) H):aI P w K mg base aP (k+1) f fd ps (S2 g):=F.ok S (λvs H Q E h=>by unfold S2 at h;split at h;exact hp.symm;cases h) λ_ cdv A o s H vs Q E hr h=>by unfold S2 at h;split at h;exact hbody S.nd cdv A o s H _ _ Q E hr h;cases h
def S3(g:V->V->V->Hp->VK->XK->Prop):Sp:=λvs H Q E=>match vs with|[u,v,y]=>g u v y H Q E|_=>False
theorem S3.i{g:V->V->V->Hp->VK->XK->Prop}{H:Hp}{Q:VK}{E:XK}{u v y:V}(h:g u v y H Q E):S3 g [u,v,y] H Q E:=h
theorem nZ.c3{fd:wG}{N ps:.U}{k:Nat}{g:V->V->V->Hp->VK->XK->Prop}(F:nZ K x qual st f fd)(S:aO N ps (aJ st))(hp:ps.length=3)(hbody:N.Nodup->∀(cdv:wo)(A:vB)(outer:.bT)(s:wq)(H:Hp)(u v y:V)(Q:VK)(E:XK),eY k .bq->g u v y H Q E ->
   ∃t,gW (kq aP P w K mg base N qual (aJ st) f cdv A outer s H E).C5 (nQ st) t/\t {nx:=λ_ H'=>Q .bX H',rt:=Q} (start N [u,v,y]) H):aI P w K mg base aP (k+1) f fd ps (S3 g):=F.ok S (λvs H Q E h=>by unfold S3 at h;split at h;exact hp.symm;cases h) λ_ cdv A o s H vs Q E hr h=>by unfold S3 at h;split at h;exact hbody S.nd cdv A o s H _ _ _ Q E hr h;cases h
def S4(g:V->V->V->V->Hp->VK->XK->Prop):Sp:=λvs H Q E=>match vs with|[u,v,y,z]=>g u v y z H Q E|_=>False
theorem S4.i{g:V->V->V->V->Hp->VK->XK->Prop}{H:Hp}{Q:VK}{E:XK}{u v y z:V}(h:g u v y z H Q E):S4 g [u,v,y,z] H Q E:=h
theorem nZ.c4{fd:wG}{N ps:.U}{k:Nat}{g:V->V->V->V->Hp->VK->XK->Prop}(F:nZ K x qual st f fd)(S:aO N ps (aJ st))(hp:ps.length=4)(hbody:N.Nodup->∀(cdv:wo)(A:vB)(outer:.bT)(s:wq)(H:Hp)(u v y z:V)(Q:VK)(E:XK),eY k .bq->g u v y z H Q E ->
   ∃t,gW (kq aP P w K mg base N qual (aJ st) f cdv A outer s H E).C5 (nQ st) t/\t {nx:=λ_ H'=>Q .bX H',rt:=Q} (start N [u,v,y,z]) H):aI P w K mg base aP (k+1) f fd ps (S4 g):=F.ok S (λvs H Q E h=>by unfold S4 at h;split at h;exact hp.symm;cases h) λ_ cdv A o s H vs Q E hr h=>by unfold S4 at h;split at h;exact hbody S.nd cdv A o s H _ _ _ _ Q E hr h;cases h
def S5(g:V->V->V->V->V->Hp->VK->XK->Prop):Sp:=λvs H Q E=>match vs with|[u,v,y,z,j]=>g u v y z j H Q E|_=>False
theorem S5.i{g:V->V->V->V->V->Hp->VK->XK->Prop}{H:Hp}{Q:VK}{E:XK}{u v y z j:V}(h:g u v y z j H Q E):S5 g [u,v,y,z,j] H Q E:=h
theorem nZ.c5{fd:wG}{N ps:.U}{k:Nat}{g:V->V->V->V->V->Hp->VK->XK->Prop}(F:nZ K x qual st f fd)(S:aO N ps (aJ st))(hp:ps.length=5)(hbody:N.Nodup->∀(cdv:wo)(A:vB)(outer:.bT)(s:wq)(H:Hp)(u v y z j:V)(Q:VK)(E:XK),eY k .bq->g u v y z j H Q E ->
   ∃t,gW (kq aP P w K mg base N qual (aJ st) f cdv A outer s H E).C5 (nQ st) t/\t {nx:=λ_ H'=>Q .bX H',rt:=Q} (start N [u,v,y,z,j]) H):aI P w K mg base aP (k+1) f fd ps (S5 g):=F.ok S (λvs H Q E h=>by unfold S5 at h;split at h;exact hp.symm;cases h) λ_ cdv A o s H vs Q E hr h=>by unfold S5 at h;split at h;exact hbody S.nd cdv A o s H _ _ _ _ _ Q E hr h;cases h
theorem nZ.binds{fd:wG}{ps:.U}(F:nZ K x qual st f fd)
  (h:∀(kV doc pm:wo)(an:.cD)(cdv ct:wo)(us:.Y),us.length=ps.length->bindArgs (VY x qual (rk st) (nQ st) (aJ st) .none kV doc pm an cdv ct) ⟨us,[]⟩=pure (ps.zip us)):oZ K fd ps []:=by
 obtain⟨oc,od,kV,doc,pm,an,cdv,ct,osl,rfl,lk,hcd⟩:=F.ex;exact .all (h kV doc pm an cdv ct)
theorem zBr{oc:wo}{od an:.cD}{osl:.bx}{kV doc pm cdv ct:wo}(l:K.lookup f=some ⟨oc,od,.func (VY x qual (rk st) (nQ st) (aJ st) .none kV doc pm an cdv ct),osl⟩)
  (c:QL K cdv qual=true) (k:qW K (.ref f)=true):nZ K x qual st f (VY x qual (rk st) (nQ st) (aJ st) .none kV doc pm an cdv ct):=⟨⟨oc,od,kV,doc,pm,an,cdv,ct,osl,rfl,l,c⟩,k⟩
end
theorem iS{n:Nat}(h:n<=1000):n<vn:=Vc h .ab
section
variable{X:Cx}
theorem pv(i:Nat){x:Str}{pos:Pos}(hN:X.N[i]? = some x:=by rfl)(hv:tK X.env.scope x:=by first | exact Or.inl rfl | exact Or.inr .s | exact Or.inr (Or.inr rfl))(hd:.ai=false:=by decide)
  (hcd:(x == ("__classdict__" : Str))=false:=by decide):PE X (.Name x pos) (jM i):=zBU hN hv hd hcd
end
theorem rO{A B:Prop}(h:B):if false=true then A else B:=by
 rw[if_neg vU];exact h
theorem sy{A B:Prop}(h:A):if true=true then A else B:=by
 rw[if_pos rfl];exact h
def au(H H':Hp):Prop:=∀b o,H b=some o->H' b=some o
theorem au.refl(H:Hp):au H H:=λ_ _ h=>h
theorem au.trans{H H1 H2:Hp}(a:au H H1)(b:au H1 H2):au H H2:=λc o h=>b c o (a c o h)
theorem au.seq{K:wa}{H H':Hp}{a:wf}{xs:.x}(e:au H H')(h:aF K H a xs):aF K H' a xs:=by
 rcases h with(h | ⟨o,h⟩) | h
 ·exact .inl (.inl (e _ _ h))
 ·exact .inl (.inr ⟨o,e _ _ h⟩)
 ·exact .inr h
end L2
namespace GM
variable{B t u:Int}{a b h x y:Rat}{c i j k m n w:Nat}{l ps xs ys:.a}{ns:.p}{left:List Nat}{fl:Nat->Nat}
def dv(t b:Int):Int:=if b<0 then -((vT t b:Nat):Int)else((vT t b:Nat):Int)
theorem G_{b:Int}(hb:b≠0):0<vT t b:=qp t hb
theorem YU{b:Int}(hb:b≠0):dv t b≠0:=by
 have:=G_ (t:=t) hb;unfold dv
 split<;>lia
theorem gU{a d:Int}(h:d ∣ a)(hd:d≠0):a.fdiv d=a / d:=by
 obtain⟨k,rfl⟩:=h;rw[Int.mul_fdiv_cancel_left _ hd,V0 _ hd]
theorem zA2{b:Int}(hb:b≠0):t.fdiv (dv t b)=(wC t b).num:=by
 have hg:=G_ (t:=t) hb;have h1:((vT t b:Nat):Int) ∣ t:=qB ..;rw[Rat.num_divInt,Xx b t];unfold dv
 by_cases h:b<0
 ·rw[if_pos h,Q0 h,gU (X1.mpr h1) .c,Int.ediv_neg]
  obtain⟨k,hk⟩:=h1;have:(-1:Int)*t=((vT t b:Nat):Int)*(-k):=by rw[uB,X2,<- hk]
  rw[this,V0 _ .c];have e:t / ((vT t b:Nat):Int)=k:=QV .c hk;rw[e]
 ·rw[if_neg h,xD .c,QR,gU h1 .c]
theorem zE7{b:Int}(hb:b≠0):b.fdiv (dv t b)=((wC t b).den:Int):=by
 have hg:=G_ (t:=t) hb;have h1:((vT t b:Nat):Int) ∣ b:=Qc ..;rw[uQ,if_neg hb,Xx b t];unfold dv
 by_cases h:b<0
 ·rw[if_pos h,gU (X1.mpr h1) .c,Int.ediv_neg,V1]
  obtain⟨k,hk⟩:=h1;have:(b.natAbs:Int)=((vT t b:Nat):Int)*(-k):=by rw[X2,<- hk];lia
  rw[this,V0 _ .c];have e:b / ((vT t b:Nat):Int)=k:=QV .c hk;rw[e]
 ·rw[if_neg h,gU h1 .c,V1]
  have:(b.natAbs:Int)=b:=by lia
  rw[this]
def jq(p q:Int):Bool:=decide (1<=q)&&decide (vT p q=1)
theorem Si(r:Rat):jq r.num r.den=true:=by
 have h:=r.reduced;have hd:=r.den_pos;simp only[jq,vf,decide_eq_true_eq];refine⟨by lia,?_⟩;have:Nat.gcd r.num.natAbs r.den=1:=h
 simpa [vT] using this
theorem zsR{p q:Int}(h:jq p q=true):∃r:Rat,p=r.num/\q=(r.den:Int):=by
 simp only[jq,vf,decide_eq_true_eq]at h;obtain⟨h1,h2⟩:=h;refine⟨⟨p,q.toNat,by lia,?_⟩,rfl,by show q=((q.toNat:Nat):Int);lia⟩;have e:q.toNat=q.natAbs:=by lia
 rw[e];exact h2
theorem zt1{a b:Int}(hb:0<b)(ha:0<=a):vT b (a % b)=vT a b:=by
 rw[Xx a b];have e:a=a % b+b*(a / b):=(Int.emod_add_mul_ediv a b).symm
 conv=>rhs;rw[e]
 rw[Int.gcd_add_mul_left_right]
structure Bd(n:Nat)(x:Int):Prop where
 lt:x.natAbs<2^n
theorem Bd.mono{x:Int}(h:Bd m x)(e:m<=n):Bd n x:=⟨vd h.lt (Nat.pow_le_pow_right .ab e)⟩
theorem Bd.mul{x y:Int}(h:Bd m x)(k:Bd n y):Bd (m+n) (x*y):=by
 refine⟨?_⟩;rw[xL,X3];exact Nat.mul_lt_mul'' h.lt k.lt
theorem Bd.add{x y:Int}(h:Bd m x)(k:Bd n y):Bd (max m n+1) (x+y):=by
 have h1:=(h.mono (uC m n)).lt;have h2:=(k.mono (uc m n)).lt;refine⟨?_⟩;rw[Xy]
 lia
theorem Bd.sub{x y:Int}(h:Bd m x)(k:Bd n y):Bd (max m n+1) (x-y):=by
 have h1:=(h.mono (uC m n)).lt;have h2:=(k.mono (uc m n)).lt;refine⟨?_⟩;rw[Xy]
 lia
theorem Bd.neg{x:Int}(h:Bd n x):Bd n (-x):=⟨by rw[Int.natAbs_neg];exact h.lt⟩
theorem Bd.le{x y:Int}(h:Bd n x)(e:y.natAbs<=x.natAbs):Bd n y:=⟨Vc e h.lt⟩
theorem Bd.log{x:Int}(h:Bd n x)(hn:0<n):x.natAbs.log2<n:=by
 by_cases e:x.natAbs=0
 ·rw[e];exact hn
 ·exact(Nat.log2_lt e).mpr h.lt
theorem zEY(t b:Int)(hb:b≠0):(wC t b).num.natAbs<=t.natAbs:=by
 rw[<- zA2 hb]
 have h1:dv t b ∣ t:=by
  have:((vT t b:Nat):Int) ∣ t:=qB ..;unfold dv;split
  ·exact X1.mpr this
  ·exact this
 rw[gU h1 (YU hb)];exact xa t _
theorem Ja(t b:Int)(hb:b≠0):(wC t b).den<=b.natAbs:=by
 rw[uQ,if_neg hb];exact Nat.div_le_self _ _
structure af(n:Nat)(x:Rat):Prop where
 t:Bd n x.num
 b:Bd n .ac
theorem af.mono(h:af m x)(e:m<=n):af n x:=⟨h.t.mono e,h.b.mono e⟩
theorem af.divInt{b:Int}(hb:b≠0)(h1:Bd n t)(h2:Bd n b):af n (wC t b) :=
 ⟨h1.le (zEY t b hb),h2.le (by have:=Ja t b hb;simpa using this)⟩
theorem Bd.mR{m:Int}(h1 : -100000000000000000000000000000000000000<=m)(h2:m<=100000000000000000000000000000000000000):Bd 128 m:=⟨by
 have e:(2:Nat)^128=340282366920938463463374607431768211456:=by decide
 rw[e]
 lia⟩
theorem iL(x:Rat):.ac≠0:=by have:=x.den_pos;lia
theorem den_pos(x:Rat):(0:Int)<.ac:=by have:=x.den_pos;lia
theorem Fi(x y:Rat):.ac*.bF≠0:=Qu (iL x) (iL y)
theorem zFe(x y:Rat):wC (x.num*.bF+y.num*.ac) (.ac*.bF)=x+y:=by
 rw[<- VF,xg,Rat.add_def']
theorem Tg(x y:Rat):wC (x.num*.bF-y.num*.ac) (.ac*.bF)=x-y:=by
 rw[<- VF,xg,Rat.sub_def']
theorem zBT(x y:Rat):wC (x.num*y.num) (.ac*.bF)=x*y:=by
 rw[<- VF,xg,Rat.mul_def']
theorem Jr(x y:Rat):wC (x.num*.bF) (.ac*y.num)=x / y:=by
 rw[Qk,Rat.inv_def,<- xM,Vy]
theorem Zh(x y:Rat):decide (x.num*.bF<y.num*.ac)=decide (x<y):=by
 rw[vI,decide_eq_true_eq,decide_eq_true_eq,uD]
theorem ye(h:y≠0):y.num≠0:=λe=>h (Rat.num_eq_zero.mp e)
theorem af.add(h:af m x)(k:af n y):af (m+n+1) (x+y):=by
 rw[<- zFe];refine af.divInt (Fi x y) ?_ ((h.b.mul k.b).mono .c);exact((h.t.mul k.b).add (k.t.mul h.b)).mono .c
theorem af.sub(h:af m x)(k:af n y):af (m+n+1) (x-y):=by
 rw[<- Tg];refine af.divInt (Fi x y) ?_ ((h.b.mul k.b).mono .c);exact((h.t.mul k.b).sub (k.t.mul h.b)).mono .c
theorem af.mul(h:af m x)(k:af n y):af (m+n) (x*y):=by
 rw[<- zBT];exact af.divInt (Fi x y) (h.t.mul k.t) (h.b.mul k.b)
theorem af.div(h:af m x)(k:af n y)(hy:y≠0):af (m+n) (x / y):=by
 rw[<- Jr];exact af.divInt (Qu (iL x) (ye hy)) (h.t.mul k.b) (h.b.mul k.t)
theorem af.zero :af 1 0:=⟨⟨by decide⟩,⟨by decide⟩⟩
theorem af.one :af 1 1:=⟨⟨by decide⟩,⟨by decide⟩⟩
def aB(a b:Rat):Nat->Rat
 | 0=>0
 | n+1=>a*aB a b n+b
def push(a b:Rat):Nat->Rat->Rat
 | 0,x=>x
 | n+1,x=>a*push a b n x+b
theorem je(a b:Rat)(n:Nat)(x:Rat):push a b n x=a^n*x+aB a b n:=by
 induction n with
 | zero=>simp[push,aB,Rat.add_zero,Vz]
 | succ n ih=>rw[push,ih,aB,WV];grind
theorem zBo(a b:Rat)(m n:Nat)(x:Rat):push a b (m+n) x=push a b n (push a b m x):=by
 induction n with
 | zero=>rfl
 | succ n ih=>rw[<- VL,push,push,ih]
theorem af.pow(h:af k a)(n:Nat):af (k*n+1) (a^n):=by
 induction n with
 | zero=>rw[Vz];exact af.one.mono .c
 | succ n ih=>rw[WV];exact(ih.mul h).mono (by rw[qQ];lia)
theorem af.aB(h:af k a)(hb:af k b)(n:Nat):af ((2*k+1)*n+1) (aB a b n):=by
 induction n with
 | zero=>exact af.zero.mono .c
 | succ n ih=>exact((h.mul ih).add hb).mono (by rw[qQ];lia)
theorem dG(t:Int)(hu:u≠0):(wC t u)*(u:Rat)=(t:Rat):=by
 rw[Rat.divInt_eq_div];exact WG λz=>hu (Vm.mp z)
theorem ku(x:Rat):x*(.ac:Rat)=(x.num:Rat):=by
 have:=dG x.num (iL x)
 rwa[Vy]at this
theorem gr(hu:u≠0)(h:x*(u:Rat)=(t:Rat)):wC t u=x:=by
 have h1:=dG t hu;have h2:(wC t u-x)*(u:Rat)=0:=by grind
 have h3:(u:Rat)≠0:=by
  intro z;exact hu (Vm.mp z)
 have:=Qv.mp h2
 grind
theorem zzq(a b:Rat)(t u:Int)(hu:u≠0):wC (a.num*b.den*t+b.num*a.den*u) (u*a.den*b.den)=a*wC t u+b:=by
 refine gr (Qu (Qu hu (iL a)) (iL b)) ?_;have h1:=dG t hu;have h2:=ku a;have h3:=ku b;simp only[vY,VG]
 grind
theorem zrG(a b:Rat)(n:Nat)(x y:Rat):push a b n y-push a b n x=a^n*(y-x):=by
 rw[je,je];grind
theorem oG(h:0<a)(n:Nat):0<a^n:=Rat.pow_pos h
theorem zw5(h:1<a)(n:Nat):1<a^(n+1):=by
 induction n with
 | zero=>simpa using h
 | succ n ih =>
  rw[WV];have:=Vv (show 0<a^(n+1)-1 by grind) (show 0<a-1 by grind)
  grind
theorem RS(h0:0<a)(h:a<1)(n:Nat):a^(n+1)<1:=by
 induction n with
 | zero=>simpa using h
 | succ n ih =>
  rw[WV];have:=Vv (show 0<1-a^(n+1) by grind) h0
  grind
theorem one_pow'(n:Nat):(1:Rat)^n=1:=by
 induction n with
 | zero=>rfl
 | succ n ih=>rw[WV,ih,Ql]
theorem oo(h:0<u):(0:Rat)<(u:Rat):=uE.mpr h
theorem zvn(hu:0<u)(ht:0<t):0<wC t u:=by
 have e:=dG t (show u≠0 by lia);have:=oo ht;rw[<- e]at this;exact(Rat.mul_pos_iff_of_pos_right (oo hu)).mp this
theorem zpS{c:Int}(hu:0<u)(h:t<=c*u):wC t u<=(c:Rat):=by
 have e:=dG t (show u≠0 by lia);refine Rat.le_of_mul_le_mul_right (c:=(u:Rat)) ?_ (oo hu);rw[e,<- vY];exact Vw.mpr h
theorem zxh{c:Int}(hu:0<u)(h:t<c*u):wC t u<(c:Rat):=by
 have e:=dG t (show u≠0 by lia);refine Rat.lt_of_mul_lt_mul_right (c:=(u:Rat)) ?_ (Wk (oo hu));rw[e,<- vY];exact xE.mpr h
theorem zyk(hu:0<u):((wC t u).den:Int)<=u:=by
 have:=Ja t u .c
 lia
theorem zzz{c:Int}(h:x<=(c:Rat)):x.num<=c*x.den:=by
 have:=(xY x c).mp h
 simpa using this
theorem zEG(h:0<=x):0<=x.num:=qX.mpr h
theorem af.small{d:Nat}(h0:0<=x)(hc:x<=((c:Int):Rat))(hd:x.den<=d)(z:c*d<1024)(hd2:d<1024):af 10 x:=by
 have h1:=zzz hc;have h2:=zEG h0;have h3:(c:Int)*.ac<=(c:Int)*(d:Int):=Int.mul_le_mul_of_nonneg_left .c .c;have h4:(c:Int)*(d:Int)<1024:=by rw[<- VF];lia
 refine⟨⟨?_⟩,⟨?_⟩⟩
 ·show _<1024
  lia
 ·show _<1024
  lia
theorem Q_{z:Int}(e:x=wC z u)(h1:1<=u)(h2:u<=8)(h3:1<=z)(h4:z<=4*u):0<x/\x<=4/\x.den<=8:=by
 subst e;refine⟨zvn .c .c,zpS (c:=4) .c h4,?_⟩;have:=zyk (t:=z) (show 0<u by lia)
 lia
theorem Ff{r:Int}(e:y=wC r u)(h1:1<=u)(h2:u<=12)(h3:0<=r)(h4:r<=u):0<=y/\y<=1/\y.den<=12:=by
 subst e;refine⟨XN h3 .c,zpS (c:=1) .c .c,?_⟩;have:=zyk (t:=r) (show 0<u by lia)
 lia
theorem af.four :af 3 4:=⟨⟨by decide +kernel⟩,⟨by decide +kernel⟩⟩
theorem p9{f:Rat->Rat}(h:.cp):(xs.map f).getD i 0=f .an:=by
 rw[wb,wb,wA,we h]
 rfl
theorem zDI(ha:0<a)(n:Nat)(x y:Rat):push a b n x<push a b n y ↔ x<y:=by
 have e:=zrG a b n x y;have p:=oG ha n
 constructor
 ·intro h
  have:0<a^n*(y-x):=by rw[<- e];grind
  have h2:=(Rat.mul_pos_iff_of_pos_left p).mp this
  grind
 ·intro h
  have:0<a^n*(y-x):=Vv p .aF
  grind
def eS(a b:Rat)(n:Nat)(xs:.a)(i:Nat):List Rat:=(xs.map λx=>push a b n (x+(1-xs.getD i 0))).set i 0
def aQ(a b:Rat)(ns:.p)(xs:.a):Nat->List Rat
 | 0=>xs
 | k+1=>eS a b (ns.getD k 0).toNat (aQ a b ns xs k) k
theorem jT(a b:Rat)(n:Nat)(xs:.a)(i:Nat):(eS a b n xs i).length=xs.length:=by simp[eS]
theorem dP(a b:Rat)(ns:.p)(xs:.a):∀k,(aQ a b ns xs k).length=xs.length
 | 0=>rfl
 | k+1=>by rw[aQ,jT,dP a b ns xs k]
theorem ja(a b:Rat)(n:Nat)(xs:.a)(i j:Nat)(hj:j<xs.length):(eS a b n xs i).getD j 0=if j=i then 0 else push a b n (xs.getD j 0+(1-xs.getD i 0)):=by
 unfold eS;rw[wb,W5]
 by_cases h:i=j
 ·subst h
  simp[hj]
 ·rw[if_neg h,if_neg (WN h),wA,we hj]
  simp[wb,hj]
def Cm(m:Nat)(xs:.a):Prop:=∃B:Int,0<B/\Bd m B /\ ∀x∈xs,∃t:Int,x=wC t B/\Bd m t
theorem Cm.mono(h:.bM)(e:m<=n):Cm n xs:=by
 obtain⟨B,h0,h1,h2⟩:=h;exact⟨B,h0,h1.mono e,λx hx=>let ⟨t,e1,e2⟩:=h2 x hx;⟨t,e1,e2.mono e⟩⟩
theorem Cm.eH(h:.bM)(hx:x∈xs):af m x:=by
 obtain⟨B,h0,h1,h2⟩:=h;obtain⟨t,rfl,ht⟩:=h2 x hx;exact af.divInt .c ht h1
theorem Cm.pos(h:.bM):1<=m:=by
 obtain⟨B,h0,h1,_⟩:=h;cases m with
 | zero=>have:=h1.lt;simp at this;lia
 | succ m=>lia
theorem Cm.get(h:.bM)(i:Nat):af m .an:=by
 rcases wJ i xs.length with z | z
 ·rw[wb,we z]
  exact h.eH (vF z)
 ·rw[wb,wQ z]
  exact af.zero.mono h.pos
theorem yn{a b:Rat}(ba:af 10 a)(bb:af 10 b){m:Nat}{t u:Int}(hu:0<u)(bt:Bd m t)(bu:Bd m u):∀n:Nat,0<u*(.E*.bc)^n/\Bd (m+21*n) (u*(.E*.bc)^n) /\
  ∃T:Int,push a b n (wC t u)=wC T (u*(.E*.bc)^n)/\Bd (m+21*n) T
 | 0=>⟨by simpa using hu,by simpa using bu,t,by simp[push],by simpa using bt⟩
 | n+1=>by
  obtain⟨h1,h2,T,e,hT⟩:=yn ba bb hu bt bu n;have eb:u*(.E*.bc)^(n+1)=u*(.E*.bc)^n*.E*.bc:=by rw[V2,<- V8,V8 (u*_)]
  rw[eb];refine⟨Wj (Wj h1 (den_pos a)) (den_pos b),((h2.mul ba.b).mul bb.b).mono .c,a.num*.bc*T+b.num*.E*(u*(.E*.bc)^n),?_,(((ba.t.mul bb.b).mul hT).add ((bb.t.mul ba.b).mul h2)).mono .c⟩;rw[push,e];exact(zzq a b T _ .c).symm
theorem Cm.pH(h:.bM)(ba:af 10 a)(bb:af 10 b)(n i:Nat):Cm (m+2+21*n) (eS a b n xs i):=by
 obtain⟨B,h0,h1,h2⟩:=h
 have hz:∃z:Int,xs.getD i 0=wC z B/\Bd m z:=by
  rcases wJ i xs.length with q | q
  ·rw[wb,we q]
   exact h2 _ (vF q)
  ·rw[wb,wQ q]
   exact⟨0,by simp,⟨by simp;exact Wz m⟩⟩
 obtain⟨z,ez,hz⟩:=hz;have key:=λ(t:Int)(ht:Bd m t)=>yn ba bb h0 (show Bd (m+2) (t+B-z)from((ht.add h1).sub hz).mono .c) (h1.mono .c) n
 obtain⟨p1,p2,_⟩:=key 0 ⟨by simp;exact Wz m⟩;refine⟨_,p1,p2,λx hx=>?_⟩
 have hx':x=0 \/ ∃y∈xs,x=push a b n (y+(1-xs.getD i 0)):=by
  unfold eS at hx;rcases VU hx with q | q
  ·obtain⟨y,hy,rfl⟩:=wW.mp q
   exact .inr ⟨y,hy,rfl⟩
  ·exact .inl q
 rcases hx' with rfl | ⟨y,hy,rfl⟩
 ·exact⟨0,by simp,⟨by simp;exact Wz _⟩⟩
 ·obtain⟨t,rfl,ht⟩:=h2 y hy
  obtain⟨_,_,T,e,hT⟩:=key t ht
  have e2:wC t B+(1-xs.getD i 0)=wC (t+B-z) B:=by
   rw[ez]
   symm
   refine gr .c ?_;have q1:=dG t (show B≠0 by lia);have q2:=dG z (show B≠0 by lia);have q3:((t+B-z:Int):Rat)=(t:Rat)+(B:Rat)-(z:Rat):=by push_cast;rfl
   rw[q3,<- q1,<- q2]
   grind
  rw[e2];exact⟨T,e,hT⟩
theorem Cm.snoc(h:.bM):Cm m .aV:=by
 obtain⟨B,h0,h1,h2⟩:=h;refine⟨B,h0,h1,λx hx=>?_⟩;rcases vG.mp hx with q | q
 ·exact h2 x q
 ·rw[wZ.mp q]
  exact⟨0,by simp,⟨by simp;exact Wz m⟩⟩
def upTo(ns:.p)(k:Nat):Nat:=((ns.take k).map xv).sum
theorem pU(h:k<ns.length):upTo ns (k+1)=upTo ns k+(ns.getD k 0).toNat:=by
 unfold upTo;rw[Qd,we h,wb,we h,wU,List.sum_append]
 show _+([ns[k].toNat]:List Nat).sum=_
 rw[List.sum_singleton]
 rfl
theorem Cm.rows{m:Nat}{xs:.a}{a b:Rat}{ns:.p}(h:.bM)(ba:af 10 a)(bb:af 10 b):∀k,k<=ns.length->Cm (m+2*k+21*upTo ns k) (aQ a b ns xs k)
 | 0,_=>h.mono .c
 | k+1,hk=>by
  have:=(Cm.rows h ba bb (ns:=ns) k .c).pH ba bb (ns.getD k 0).toNat k;rw[aQ];refine this.mono ?_;rw[pU .c]
  lia
theorem UJ(a:Rat)(m:Nat):∀n:Nat,a^(m+n)=a^m*a^n
 | 0=>by rw[xh,Vz,Rat.mul_one]
 | n+1=>by rw[<- VL,WV,UJ a m n,WV,uZ]
theorem zy8(a b:Rat)(n:Nat)(xs ys:.a)(i j:Nat)(hx:.ag)(hj:j<xs.length) :
  (eS a b n xs i).getD j 0-(eS a b n ys i).getD j 0=a^n*((xs.getD j 0-ys.getD j 0)-(xs.getD i 0-ys.getD i 0)):=by
 rw[ja a b n xs i j hj,ja a b n ys i j .c]
 by_cases h:j=i
 ·subst h
  rw[if_pos rfl,if_pos rfl]
  grind
 ·rw[if_neg h,if_neg h,zrG]
  grind
theorem IY(a b:Rat)(ns:.p)(xs ys:.a)(hx:.ag)(hn:ns.length=xs.length)(l:Nat)(hl:l+1=xs.length)(h0:xs.getD l 0=ys.getD l 0) :
  ∀k,k<=ns.length->∀j,j<xs.length->(aQ a b ns xs k).getD j 0-(aQ a b ns ys k).getD j 0=a^upTo ns k*((xs.getD j 0-ys.getD j 0)-(if k=0 then 0 else xs.getD (k-1) 0-ys.getD (k-1) 0))
 | 0,_,j,hj=>by simp[aQ,upTo];grind
 | k+1,hk,j,hj=>by
  rw[aQ,aQ,zy8 _ _ _ _ _ _ _ (by rw[dP,dP,hx]) (by rw[dP];exact hj),IY a b ns xs ys hx hn l hl h0 k .c j hj,IY a b ns xs ys hx hn l hl h0 k .c k .c,pU .c,UJ];simp only[qR];rw[if_neg (show ¬ k+1=0 by lia)]
  grind
def oY(a b:Rat)(n:Nat)(xs:.a):List Rat:=(xs.tail.map λy=>push a b n (y+(1-xs.headD 0)))++[0]
def turned(a b:Rat)(ns:.p)(xs:.a):Nat->List Rat
 | 0=>xs
 | k+1=>oY a b (ns.getD k 0).toNat (turned a b ns xs k)
theorem rn(a b:Rat)(ns:.p)(xs:.a):∀k,k<=xs.length->turned a b ns xs k=(aQ a b ns xs k).drop k++(aQ a b ns xs k).take k
 | 0,_=>by simp[turned,aQ]
 | k+1,hk=>by
  have hl:(aQ a b ns xs k).length=xs.length:=dP a b ns xs k;have hk':k<(aQ a b ns xs k).length:=by lia
  rw[turned,rn a b ns xs k .c,aQ];generalize aQ a b ns xs k=r at *;generalize (ns.getD k 0).toNat=n;have e1:r.drop k=r[k]::r.drop (k+1):=WK hk';have e2:r.getD k 0=r[k]:=by rw[wb,we hk'];rfl
  unfold oY eS;rw[e1,e2,xi,uR,List.headD_cons,List.drop_set_of_lt .c,wU,Qo,Wr]
  congr 1
  have hm:k<(r.map λx=>push a b n (x+(1-r[k]))).length:=by rw[wn];exact hk'
  rw[Xg];generalize (r.map λx=>push a b n (x+(1-r[k])))=s at hm ⊢;rw[List.take_set,Qd,we hm]
  show _=(s.take k++[s[k]]).set k 0
  have hlk:(s.take k).length=k:=by rw[Wf];lia
  rw[xN _ _ .c,hlk,W6]
  rfl
theorem zxr(a b:Rat)(ns:.p)(xs:.a)(h:ns.length=xs.length):turned a b ns xs ns.length=aQ a b ns xs ns.length:=by
 rw[rn a b ns xs _ .c];have hl:(aQ a b ns xs ns.length).length=xs.length:=dP a b ns xs _;rw[Qm .c,WJ .c,qb]
def rJ(xs:.a):Nat->Int
 | 0=>1
 | k+1=>rJ xs k*((xs.getD k 0).den:Int)
theorem zr9(xs:.a):∀k,0<rJ xs k
 | 0=>by show(0:Int)<1;decide
 | k+1=>Wj (zr9 xs k) (den_pos _)
theorem zrI(xs:.a):∀k j,j<k->((xs.getD j 0).den:Int) ∣ rJ xs k
 | 0,j,h=>by lia
 | k+1,j,h=>by
  rcases wJ j k with z | z
  ·exact qG (zrI xs k j z) (VP ..)
  ·have:j=k:=by lia
   subst this;exact ud ..
theorem Pf{xs:.a}{m:Nat}(h:∀i,af m .an):∀k,Bd (m*k+1) (rJ xs k)
 | 0=>⟨by show(1:Int).natAbs<_;simp⟩
 | k+1=>by
  rw[rJ];refine((Pf h k).mul (h k).b).mono ?_;rw[Nat.mul_add];lia
theorem zxf(hB:0<B)(h:.ac ∣ B):wC (x.num*B.fdiv x.den) B=x:=by
 obtain⟨c,rfl⟩:=h;rw[gU (VP ..) (iL x),V0 _ (iL x)];refine gr .c ?_;have:=ku x;rw[vY,vY,<- this]
 grind
theorem zDw{d:Int}(hd:0<d)(hB:0<B)(h:Bd m B):Bd m (B.fdiv d):=by
 refine h.le ?_;rw[WF _ .c];have h1:0<=B / d:=Int.ediv_nonneg .c .c;have h2:B / d<=B:=ue _ .c
 lia
theorem Fw(a b:Rat)(ns:.p)(xs:.a)(hk:k<xs.length):(turned a b ns xs k).headD 0=(aQ a b ns xs k).getD k 0:=by
 have hl:=dP a b ns xs k;rw[rn a b ns xs k .c,WK .c,wb,we .c]
 rfl
theorem GA(a b:Rat)(ns:.p)(xs:.a)(hx:0<xs.length):∀k,(turned a b ns xs k).length=xs.length
 | 0=>rfl
 | k+1=>by
  have:=GA a b ns xs hx k;rw[turned,oY,wM,wn,V3,this];simp;lia
theorem zA4(x y:Rat):((x*y).num=x.num / (x.num.natAbs.gcd y.den:Nat)*(y.num / (y.num.natAbs.gcd x.den:Nat)))/\((x*y).den=x.den / (y.num.natAbs.gcd x.den)*(y.den / (x.num.natAbs.gcd y.den))):=by
 show(Rat.mul x y).num=_/\(Rat.mul x y).den=_
 unfold Rat.mul;simp only[Int.divExact_eq_ediv,Nat.divExact_eq_div]
 constructor<;>trivial
theorem zAc(x y:Rat):((x+y).num=(x.num*((y.den / x.den.gcd y.den:Nat):Int)+y.num*((x.den / x.den.gcd y.den:Nat):Int)) / (((x.num*((y.den / x.den.gcd y.den:Nat):Int)+y.num*((x.den / x.den.gcd y.den:Nat):Int)).natAbs.gcd (x.den.gcd y.den):Nat):Int))/\((x+y).den=x.den / (x.den.gcd y.den)*(y.den / ((x.num*((y.den / x.den.gcd y.den:Nat):Int)+y.num*((x.den / x.den.gcd y.den:Nat):Int)).natAbs.gcd (x.den.gcd y.den)))):=by
 show(Rat.add x y).num=_/\(Rat.add x y).den=_
 unfold Rat.add
 by_cases hg:x.den.gcd y.den=1
 ·simp[hg]
 ·simp only[hg,dite_false,Rat.maybeNormalize_eq]
  refine⟨by simp,?_⟩;simp;have:(x.num*((y.den / x.den.gcd y.den:Nat):Int)+y.num*((x.den / x.den.gcd y.den:Nat):Int)).natAbs.gcd (x.den.gcd y.den) ∣ y.den:=Nat.dvd_trans (XO _ _) (XO _ _);simp at this;rw[Nat.mul_div_assoc _ this]
def gJ(x y:Rat):Int:=((vT .ac .bF:Nat):Int)
def nv(x y:Rat):Int:=x.num*(y.den:Int).fdiv (gJ x y)+y.num*(x.den:Int).fdiv (gJ x y)
def lJ(x y:Rat):Int:=((vT (nv x y) (gJ x y):Nat):Int)
theorem Bh(x y:Rat):0<gJ x y:=by
 have:0<vT .ac .bF:=Int.gcd_pos_of_ne_zero_left _ (by have:=x.den_pos;lia);unfold gJ;lia
theorem Iu(x y:Rat):0<lJ x y:=by
 have:0<vT (nv x y) (gJ x y):=qp _ (by have:=Bh x y;lia);unfold lJ;lia
theorem Jf(x y:Rat):gJ x y=((x.den.gcd y.den:Nat):Int):=by simp[gJ,vT]
theorem yq(x y:Rat):gJ x y ∣ .ac:=qB ..
theorem BN(x y:Rat):gJ x y ∣ .bF:=Qc ..
theorem zFs(x y:Rat):lJ x y ∣ nv x y:=qB ..
theorem JE(x y:Rat):lJ x y ∣ gJ x y:=Qc ..
theorem zBB(x y:Rat):nv x y=x.num*((y.den / x.den.gcd y.den:Nat):Int)+y.num*((x.den / x.den.gcd y.den:Nat):Int):=by
 have h:=Bh x y;rw[nv,gU (BN x y) .c,gU (yq x y) .c,Jf,V1,V1]
theorem O6(x y:Rat):lJ x y=(((x.num*((y.den / x.den.gcd y.den:Nat):Int)+y.num*((x.den / x.den.gcd y.den:Nat):Int)).natAbs.gcd (x.den.gcd y.den):Nat):Int):=by
 rw[lJ,zBB,Jf];simp[vT]
theorem zDO(x y:Rat):(nv x y).fdiv (lJ x y)=(x+y).num:=by
 have h:=Iu x y;rw[gU (zFs x y) .c,(zAc x y).1,O6,zBB]
theorem zCh(x y:Rat):(x.den:Int).fdiv (gJ x y)*(y.den:Int).fdiv (lJ x y)=((x+y).den:Int):=by
 have h:=Iu x y;have h2:=Bh x y;rw[gU (qG (JE x y) (BN x y)) .c,gU (yq x y) .c,(zAc x y).2,O6,Jf];simp only[VF,V1]
def iX(x y:Rat):Int:=((vT x.num .bF:Nat):Int)
theorem pK(x y:Rat):0<iX x y:=by
 have:0<vT x.num .bF:=qp _ (by have:=y.den_pos;lia);unfold iX;lia
theorem z_(x y:Rat):iX x y ∣ x.num:=qB ..
theorem pZ(x y:Rat):iX x y ∣ .bF:=Qc ..
theorem CI(x y:Rat):iX x y=((x.num.natAbs.gcd y.den:Nat):Int):=by simp[iX,vT]
theorem zCg(x y:Rat):x.num.fdiv (iX x y)*y.num.fdiv (iX y x)=(x*y).num:=by
 have h:=pK x y;have h2:=pK y x;rw[gU (z_ x y) .c,gU (z_ y x) .c,(zA4 x y).1,CI,CI]
theorem zCr(x y:Rat):(x.den:Int).fdiv (iX y x)*(y.den:Int).fdiv (iX x y)=((x*y).den:Int):=by
 have h:=pK x y;have h2:=pK y x;rw[gU (pZ x y) .c,gU (pZ y x) .c,(zA4 x y).2,CI,CI];simp only[VF,V1]
theorem oB{a d:Int}(h:Bd n a)(hd:d ∣ a)(hp:0<d):Bd n (a.fdiv d):=by
 rw[gU hd .c];exact h.le (xa a d)
theorem yp{a d:Int}(h:Bd n a)(hd:d ∣ a)(ha:0<a):Bd n d :=
 h.le (u0 .c (Int.natAbs_dvd_natAbs.mpr hd))
theorem Co(t b:Int):vT (if t<0 then -t else t) b=vT t b:=by split<;>simp
theorem zDu(h:af n y):af n (-y):=⟨by simpa using h.t.neg,by simpa using h.b⟩
theorem zwh(x y:Rat):x + -y=x-y:=(Rat.sub_eq_add_neg x y).symm
theorem Bw(h:0<y.num):(y⁻¹).num=.bF/\((y⁻¹).den:Int)=y.num:=by
 have:¬ y.num<0:=by lia
 constructor
 ·rw[Rat.num_inv,xD h,QR]
 ·rw[Rat.den_inv];split<;>lia
theorem Bu(h:y.num<0):(y⁻¹).num = -.bF/\((y⁻¹).den:Int) = -y.num:=by
 constructor
 ·rw[Rat.num_inv,Q0 h,uB]
 ·rw[Rat.den_inv];split<;>lia
theorem ZN(h:af n y)(hy:y≠0):af n y⁻¹:=by
 have:=ye hy
 by_cases p:0<y.num
 ·exact⟨by rw[(Bw p).1];exact h.b,by rw[(Bw p).2];exact h.t⟩
 ·have p:y.num<0:=by lia
  exact⟨by rw[(Bu p).1];exact h.b.neg,by rw[(Bu p).2];exact h.t.neg⟩
theorem RY(x y:Rat):0<.ac*.bF:=Wj (den_pos x) (den_pos y)
theorem getD_mem{α : Type}{xs:.cc}{d : α}(h:.cp):xs.getD i d∈xs:=by
 rw[wb,we h];exact vF h
def mK(x:Rat):Bool:=(!decide (x<0))&&(decide (x<1)&&decide (.ac<=60))
structure f_(x:Rat):Prop where
 nn:0<=x
 lt:x<1
 den:x.den<=60
theorem f_.is(h:f_ x):mK x=true:=by
 have h1:=h.nn;have h2:=h.lt;have h3:=h.den;have h4:¬ x<0:=W4.mpr h1;have h5:.ac<=60:=by lia
 simp[mK,h4,h2,h5]
theorem f_.eH(h:f_ x):af 6 x:=by
 have h1:=h.nn;have h2:=h.lt;have h3:=h.den;have n0:0<=x.num:=qX.mpr h1
 have n1:x.num<x.den:=by
   have:=uD x 1 |>.mp h2
   simpa using this
 exact ⟨⟨by have : (2 : Nat) ^ 6 = 64 := by decide
            omega⟩, ⟨by have : (2 : Nat) ^ 6 = 64 := by decide
                        omega⟩⟩
def mx(m:Rat)(l:.a):Rat:=l.foldl (λm x=>if m<x then x else m) m
theorem Yc:∀(l:.a)(m:Rat),m<=mx m l /\ ∀y∈l,y<=mx m l
 | [],m=>⟨WX,λy h=>by cases h⟩
 | x::l,m=>by
  have h:=Yc l (if m<x then x else m);have e:mx m (x::l)=mx (if m<x then x else m) l:=rfl;rw[e]
  have h1:m<=(if m<x then x else m)/\x<=(if m<x then x else m):=by
   split
   ·rename_i z;exact⟨Wk z,WX⟩
   ·rename_i z;exact⟨WX,W4.mp z⟩
  refine⟨Qw h1.1 h.1,λy hy=>?_⟩;rcases wO.mp hy with rfl | hy
  ·exact Qw h1.2 h.1
  ·exact h.2 y hy
theorem EK:∀(l:.a)(m:Rat),mx m l=m\/mx m l∈l
 | [],m=>.inl rfl
 | x::l,m=>by
  have e:mx m (x::l)=mx (if m<x then x else m) l:=rfl;rw[e];rcases EK l (if m<x then x else m)with h | h
  ·rw[h]
   split
   ·exact .inr .bH
   ·exact .inl rfl
  ·exact .inr (wH _ h)
theorem nN(m x:Rat)(l:.a):mx m (l++[x])=if mx m l<x then x else mx m l:=by
 unfold mx;rw[XQ];rfl
def bQ(xs:.a):Rat:=mx (xs.getD 0 0) xs
theorem G4 : ∀y∈xs,y<=bQ xs:=(Yc xs _).2
theorem gY(h:.al):bQ xs∈xs:=by
 rcases EK xs (xs.getD 0 0)with e | e
 ·unfold bQ
  rw[e,wb,we .c];exact vF _
 ·exact e
theorem iJ(h:.cp):xs.take (i+1)=xs.take i++[xs.getD i 0]:=by
 rw[Qd,wb,we h];rfl
theorem B1(b:∀i,af n .an)(h1:.al)(i:Nat):af n (mx (xs.getD 0 0) (xs.take i)):=by
 rcases EK (xs.take i) (xs.getD 0 0)with e | e
 ·rw[e];exact b 0
 ·have e:=ug _ _ e
  obtain⟨j,hj,ej⟩:=vA e;rw[<- ej];have:=b j;rw[wb,we hj]at this;exact this
theorem Hn{r:Int}(h0:0<=r)(h1:r<u)(h2:u<=60):f_ (wC r u):=by
 refine⟨XN h0 .c,zxh (c:=1) .c .c,?_⟩;have:=Ja r u .c
 lia
def aC(ps:.a)(left:List Nat):List Nat:=left.filter λw=>!decide (ps.getD w 0<1)
def cg(left wave:List Nat):List Nat:=left.filter λw=>!decide (w∈wave)
def di(f g:Rat)(ps:.a)(l:.bi):List Rat:=l.foldl (λps w=>ps.set w (f*ps.getD w 0+g)) ps
def dA(a b:Rat):Nat->List Rat->List Nat->List (List Nat) × (List Nat × List Rat)
 | 0,ps,left=>([],left,ps)
 | n+1,ps,left=>match aC ps left with
  | []=>([],left,ps)
  | w::ws=>((w::ws)::(dA a b n (di (a^(w::ws).length) (aB a b (w::ws).length) ps (cg left (w::ws))) (cg left (w::ws))).1,(dA a b n (di (a^(w::ws).length) (aB a b (w::ws).length) ps (cg left (w::ws))) (cg left (w::ws))).2)
def jJ(left:List Nat)(ps:.a):List Rat:=(wr ps.length).map λi=>if i∈left then ps.getD i 0 else 0
def cb(xs:.a):List Rat:=xs.map (· + (1-bQ xs))
def ff(a b:Rat)(xs:.a):List (List Nat) × (List Nat × List Rat):=dA a b xs.length .cd .G
def cE(a b:Rat)(xs:.a):List (List Nat):=(ff a b xs).1
def dH(a b:Rat)(xs:.a):List Rat:=jJ (ff a b xs).2.1 (ff a b xs).2.2
theorem pg(h:aC ps left=[]):dA a b n ps left=([],left,ps):=by
 cases n with
 | zero=>rfl
 | succ n=>rw[dA,h]
theorem kx(h:aC ps left≠[]):dA a b (n+1) ps left=(aC ps left::(dA a b n (di (a^(aC ps left).length) (aB a b (aC ps left).length) ps (cg left .aL)) (cg left .aL)).1,(dA a b n (di (a^(aC ps left).length) (aB a b (aC ps left).length) ps (cg left .aL)) (cg left .aL)).2):=by
 rw[dA];cases e:aC ps left with
 | nil=>exact absurd e h
 | cons w ws=>rfl
theorem Zc(f g:Rat)(ps:.a)(l:.bi)(w:Nat):di f g ps (l++[w])=(di f g ps l).set w (f*(di f g ps l).getD w 0+g):=by
 unfold di;rw[XQ];rfl
theorem jx(f g:Rat):∀(l:.bi)(ps:.a),(di f g ps l).length=ps.length
 | [],ps=>rfl
 | w::l,ps=>by
  show(di f g (ps.set w _) l).length=_
  rw[jx f g l,Wv]
theorem yi(h:w≠j):(ps.set w y).getD j 0=ps.getD j 0:=by
 rw[wb,W5,if_neg h,wb]
theorem y7(h:w<ps.length):(ps.set w y).getD w 0=y:=by
 rw[wb,W5,if_pos rfl,if_pos h];rfl
theorem kb(f g:Rat):∀(l:.bi)(ps:.a),l.Nodup->(∀w∈l,w<ps.length)->∀j,(di f g ps l).getD j 0=if j∈l then f*ps.getD j 0+g else ps.getD j 0
 | [],ps,_,_,j=>by simp[di]
 | w::l,ps,nd,hl,j=>by
  have nd':=qa.mp nd
  show(di f g (ps.set w _) l).getD j 0=_
  rw[kb f g l _ nd'.2 (λv hv=>by rw[Wv];exact hl v (wH _ hv)) j]
  by_cases hj:j=w
  ·subst hj
   rw[if_neg nd'.1,if_pos .bH,y7 (hl j .bH)]
  ·rw[yi (WN hj)]
   by_cases hm:j∈l
   ·rw[if_pos hm,if_pos (wH _ hm)]
   ·rw[if_neg hm,if_neg (λz=>by rcases wO.mp z with z | z;(exact hj z);exact hm z)]
theorem zxt(ps:.a)(left:List Nat):cg left .aL=left.filter λw=>decide (ps.getD w 0<1):=by
 unfold cg;refine vJ λw hw=>?_
 have e:(w∈aC ps left)=(¬ ps.getD w 0<1):=by
  unfold aC;rw[ve];simp[hw]
 simp only[e];simp
theorem Ac(ps:.a)(left:List Nat):(aC ps left).length+(cg left .aL).length=left.length:=by
 rw[zxt];unfold aC
 induction left with
 | nil=>rfl
 | cons w l ih=>by_cases h:ps.getD w 0<1<;>simp only[WB,h,decide_true,decide_false,qH,xO,if_true,if_false,WH,Wi]<;>lia
theorem rF{wave:.bi}(h:left.Nodup):(cg left wave).Nodup:=h.filter _
theorem q_{wave:.bi}(h:∀w∈left,w<n):∀w∈cg left wave,w<n:=λw hw=>h w (ve.mp hw).1
theorem Jo(left:List Nat)(ps:.a):(jJ left ps).length=ps.length:=by simp[jJ]
theorem nE(h:j<ps.length):(jJ left ps).getD j 0=if j∈left then ps.getD j 0 else 0:=by
 unfold jJ;rw[wb,wA,vZ h]
 rfl
theorem fX(xs:.a):(cb xs).length=xs.length:=by simp[cb]
theorem yd{a b:Rat} : ∀(n:Nat)(ps:.a)(left:List Nat),(dA a b n ps left).2.2.length=ps.length
 | 0,ps,left=>rfl
 | n+1,ps,left=>by
  by_cases h:aC ps left=[]
  ·rw[pg h]
  ·rw[kx h]
   show(dA a b n _ _).2.2.length=_
   rw[yd n,jx]
theorem lO(a b:Rat)(xs:.a):(dH a b xs).length=xs.length:=by
 unfold dH ff;rw[Jo,yd,fX]
theorem Cm.OH(h0:0<B)(h1:Bd m B)(h:∀j,j<ps.length->∃t:Int,ps.getD j 0=wC t B/\Bd m t):∀x∈ps,∃t:Int,x=wC t B/\Bd m t:=λx hx=>by
 obtain⟨j,hj,e⟩:=vA hx;have:=h j hj;rw[wb,we hj]at this;rw[<- e];exact this
theorem AS{a b:Rat}(ba:af 10 a)(bb:af 10 b){m:Nat}{t:Int}(h:Bd m t):∀n:Nat,Bd (m+21*n) (t*(.E*.bc)^n)
 | 0=>by simpa using h
 | n+1=>by
  rw[V2,<- V8];exact((AS ba bb h n).mul (ba.b.mul bb.b)).mono .c
theorem sS{d:Int}(h0:0<B)(hd:0<d):wC t B=wC (t*d) (B*d):=by
 symm
 refine gr (by have:=Wj h0 hd;lia) ?_;have q1:=dG t (show B≠0 by lia);rw[vY,vY,<- uZ,q1]
theorem Cm.wave(c:Cm m (h::ps))(ba:af 10 a)(bb:af 10 b)(n:Nat){l:.bi}(nd:l.Nodup)(hl:∀w∈l,w<ps.length):Cm (m+21*n) (h::di (a^n) (aB a b n) ps l):=by
 obtain⟨B,h0,h1,h2⟩:=c;have hz:Bd m (0:Int):=⟨by simp;exact Wz m⟩;obtain⟨p1,p2,_⟩:=yn ba bb h0 hz h1 n;have hd:0<(.E*.bc)^n:=X4 (Wj (den_pos a) (den_pos b));refine⟨_,p1,p2,λx hx=>?_⟩;rcases wO.mp hx with rfl | hx
 ·obtain⟨t,rfl,ht⟩:=h2 x .bH
  exact⟨_,sS h0 hd,AS ba bb ht n⟩
 ·refine Cm.OH p1 p2 (λj hj=>?_) x hx
  rw[jx]at hj;obtain⟨t,e,ht⟩:=h2 (ps.getD j 0) (wH _ (getD_mem hj));rw[kb _ _ _ _ nd hl]
  split
  ·obtain⟨_,_,T,e2,hT⟩:=yn ba bb h0 ht h1 n
   exact⟨T,by rw[<- je,e,e2],hT⟩
  ·exact⟨_,by rw[e];exact sS h0 hd,AS ba bb ht n⟩
theorem Cm.rise{M:Rat}(c:Cm m (h::xs))(hM:M∈xs):Cm (m+2) ((h+(1-M))::xs.map (· + (1-M))):=by
 obtain⟨B,h0,h1,h2⟩:=c;obtain⟨z,ez,hz⟩:=h2 M (wH _ hM)
 have key:∀t:Int,Bd m t->wC t B+(1-M)=wC (t+B-z) B/\Bd (m+2) (t+B-z):=λt ht=>by
  refine⟨?_,((ht.add h1).sub hz).mono .c⟩;rw[ez]
  symm
  refine gr .c ?_;have q1:=dG t (show B≠0 by lia);have q2:=dG z (show B≠0 by lia);have q3:((t+B-z:Int):Rat)=(t:Rat)+(B:Rat)-(z:Rat):=by push_cast;rfl
  rw[q3,<- q1,<- q2]
  grind
 refine⟨B,h0,h1.mono .c,λx hx=>?_⟩;rcases wO.mp hx with rfl | hx
 ·obtain⟨t,e,ht⟩:=h2 h .bH
  rw[e];exact⟨_,(key t ht).1,(key t ht).2⟩
 ·obtain⟨y,hy,rfl⟩:=wW.mp hx
  obtain⟨t,e,ht⟩:=h2 y (wH _ hy)
  show ∃t:Int,y+(1-M)=_/\_
  rw[e];exact⟨_,(key t ht).1,(key t ht).2⟩
theorem Cm.hJ(c:.bM)(h:∀y∈ys,y∈xs\/y=0):Cm m ys:=by
 obtain⟨B,h0,h1,h2⟩:=c;refine⟨B,h0,h1,λy hy=>?_⟩;rcases h y hy with z | rfl
 ·exact h2 y z
 ·exact⟨0,by simp,⟨by simp;exact Wz m⟩⟩
theorem zBg : ∀y∈jJ left ps,y∈ps\/y=0:=λy hy=>by
 unfold jJ at hy;obtain⟨i,hi,e⟩:=wW.mp hy;rw[<- e]
 split
 ·exact .inl (getD_mem (wN.mp hi))
 ·exact .inr rfl
theorem Cm.aax(h:∀i,af k .an):Cm (k*xs.length+1+k) xs:=by
 have h0:=zr9 xs xs.length;have h1:=Pf h xs.length;refine⟨rJ xs xs.length,h0,h1.mono .c,Cm.OH h0 (h1.mono .c) λj hj=>?_⟩;exact⟨_,(zxf h0 (zrI xs _ j hj)).symm,((h j).t.mul (zDw (den_pos _) h0 h1)).mono .c⟩
def ai(a b:Rat)(xs:.a):Nat->List Rat
 | 0=>xs
 | k+1=>dH a b .bW
def aE(a b:Rat)(xs:.a):Nat->Rat
 | 0=>0
 | k+1=>aE a b xs k+(1-bQ .bW)
theorem bS(a b:Rat)(xs:.a):∀k,(ai a b xs k).length=xs.length
 | 0=>rfl
 | k+1=>by rw[ai,lO,bS a b xs k]
def Rg(n:Nat)(left:List Nat):Prop:=left=(wr n).filter λw=>decide (w∈left)
theorem Rg.range(n:Nat):Rg n (wr n):=by
 unfold Rg;rw[Xi.mpr];intro w hw;exact decide_eq_true hw
theorem Rg.filter(h:Rg n left)(p:Nat->Bool):Rg n (left.filter p):=by
 have e:((wr n).filter λw=>decide (w∈left.filter p))=((wr n).filter λw=>decide (w∈left)).filter p:=by
  rw[VA];refine vJ λw _=>?_
  by_cases h1:w∈left<;>cases h2:p w<;>simp[h1,h2]
 unfold Rg;rw[e];exact congrArg (List.filter p) h
theorem Rg.cg(h:Rg n left)(wave:.bi):Rg n (cg left wave):=h.filter _
theorem Rg.lt(h:Rg n left):∀w∈left,w<n:=λw hw=>by
 rw[h]at hw;exact wN.mp (ve.mp hw).1
theorem Rg.nodup(h:Rg n left):left.Nodup:=by
 rw[h];exact W1.filter _
theorem Rg.ends(h:Rg n left)(ps:.a):aC ps left=(wr n).filter λw=>decide (w∈left) && !decide (ps.getD w 0<1):=by
 have e:aC ps left=((wr n).filter λw=>decide (w∈left)).filter λw=>!decide (ps.getD w 0<1):=congrArg (List.filter λw=>!decide (ps.getD w 0<1)) h
 rw[e,VA];refine vJ λw _=>?_
 rw[Bool.and_comm]
theorem BY{f:Rat->Rat}(h:w<xs.length):(xs.map f).getD w 0=f (xs.getD w 0):=by
 rw[wb,wA,we h,wb,we h];rfl
def gO(d:Int)(m:Nat)(xs:.a):Prop:=∃B:Int,0<B/\d ∣ B/\Bd m B /\ ∀x∈xs,∃t:Int,x=wC t B/\Bd m t
theorem gO.of{d:Int}(h:.bM)(hd:0<d)(b:Bd 4 d):gO d (m+4) xs:=by
 obtain⟨B,h0,h1,h2⟩:=h;refine⟨B*d,Wj h0 hd,ud ..,(h1.mul b),λx hx=>?_⟩;obtain⟨t,e,ht⟩:=h2 x hx;exact⟨t*d,by rw[e];exact sS h0 hd,ht.mul b⟩
theorem zqj{a b:Rat}(ta:Bd 6 a.num)(da:Bd 4 .E)(tb:Bd 4 b.num){m:Nat}{t u:Int}(hu:0<u)(hd:.bc ∣ u)(bt:Bd m t)(bu:Bd m u):∀n:Nat,0<u*.E^n/\.bc ∣ u*.E^n/\Bd (m+9*n) (u*.E^n) /\
  ∃T:Int,push a b n (wC t u)=wC T (u*.E^n)/\Bd (m+9*n) T
 | 0=>⟨by simpa using hu,by simpa using hd,by simpa using bu,t,by simp[push],by simpa using bt⟩
 | n+1=>by
  obtain⟨h1,hdv,h2,T,e,hT⟩:=zqj ta da tb hu hd bt bu n;have eb:u*.E^(n+1)=u*.E^n*.E:=by rw[V2,<- V8]
  rw[eb];generalize u*.E^n=U at *;obtain⟨c,rfl⟩:=hdv
  have hc:0<c:=by
   have hb:=den_pos b;rcases Int.lt_or_le 0 c with z | z
   ·exact z
   ·have:=Int.mul_nonpos_of_nonneg_of_nonpos (Int.le_of_lt hb) z
    lia
  have bc:Bd (m+9*n) c:=h2.le (by
   rw[xL];exact Nat.le_mul_of_pos_left _ (by have:=den_pos b;lia))
  refine⟨Wj h1 (den_pos a),qG (VP ..) (VP ..),(h2.mul da).mono .c,a.num*T+b.num*.E*c,?_,((ta.mul hT).add ((tb.mul da).mul bc)).mono .c⟩;rw[push,e]
  symm
  have hU:(.bc*c)*.E≠0:=by have:=Wj h1 (den_pos a);lia
  refine gr hU ?_;have q1:=dG T (show(b.den:Int)*c≠0 by lia);have q2:=ku a;have q3:=ku b;have q4:((a.num*T+b.num*.E*c:Int):Rat)=(a.num:Rat)*(T:Rat)+(b.num:Rat)*(.E:Rat)*(c:Rat):=by push_cast;rfl
  have q5:((.bc*c*.E:Int):Rat)=(.bc:Rat)*(c:Rat)*(.E:Rat):=by push_cast;rfl
  have q6:((.bc*c:Int):Rat)=(.bc:Rat)*(c:Rat):=by push_cast;rfl
  rw[q6]at q1;rw[q4,q5,<- q1,<- q2,<- q3]
  grind
theorem dS(a b:Rat)(xs:.a)(m:Nat):∀k,ai a b (ai a b xs m) k=ai a b xs (m+k)
 | 0=>rfl
 | k+1=>by rw[ai,dS a b xs m k];rfl
theorem kf(a b:Rat)(xs:.a)(m:Nat):∀k,aE a b xs m+aE a b (ai a b xs m) k=aE a b xs (m+k)
 | 0=>by show aE a b xs m+0=aE a b xs m;grind
 | k+1=>by
  have:=kf a b xs m k
  show aE a b xs m+(aE a b (ai a b xs m) k+(1-bQ (ai a b (ai a b xs m) k)))=aE a b xs (m+k)+(1-bQ (ai a b xs (m+k)))
  rw[dS,<- this]
  grind
theorem zvB{a b:Rat}(a0:0<a)(b0:0<=b){x:Rat}(h:0<x):∀n:Nat,0<push a b n x
 | 0=>h
 | n+1=>by
  have h1:=zvB a0 b0 h n;have h2:=Vv a0 h1
  show 0<a*push a b n x+b
  grind
structure jS(l:.a):Prop where
 pw:l.Pairwise (· > ·)
 nn:∀y∈l,0<=y
theorem jS.step(a0:0<a)(b0:0<=b)(h:jS (x::l))(x1:x<1):jS (oY a b n (x::l)):=by
 have hp:=Vd.mp h.pw;have pos:∀y∈l,0<push a b n (y+(1-x)):=λy hy=>zvB a0 b0 (by have:=h.nn y (wH _ hy);grind) n
 unfold oY;refine⟨qC.mpr ⟨?_,xn _ _,?_⟩,λy hy=>?_⟩
 ·show(l.map λy=>push a b n (y+(1-x))).Pairwise (· > ·)
  rw[Q5];refine hp.2.imp λ{y z} hyz=>?_
  show push a b n (z+(1-x))<push a b n (y+(1-x))
  have hyz:z<y:=hyz;exact(zDI a0 n _ _).mpr .aF
 ·intro y hy z hz
  obtain⟨w,hw,rfl⟩:=wW.mp hy;rw[wZ.mp hz];exact pos w hw
 ·rcases vG.mp hy with hy | hy
  ·obtain⟨w,hw,rfl⟩:=wW.mp hy
   exact Wk (pos w hw)
  ·rw[wZ.mp hy];exact WX
structure iQ(xs row:.a)(fl:Nat->Nat):Prop where
 at':∀w,w<xs.length->xs.getD w 0=row.getD (fl w) 0
 lt:∀w,w<xs.length->fl w<row.length
def bZ(n:Nat)(fl:Nat->Nat)(c:Nat):List Nat:=(wr n).filter λw=>decide (fl w=c)
theorem tJ{row:.a}(h:iQ xs row fl)(some:∃w,w<xs.length/\fl w=c)(top:∀j,j<row.length->j≠c->row.getD j 0<row.getD c 0):bQ xs=row.getD c 0:=by
 obtain⟨w,hw,rfl⟩:=some;have h1:1<=xs.length:=by lia
 refine Rat.le_antisymm ?_ ?_
 ·obtain⟨j,hj,e⟩:=vA (gY h1)
  have ea:=h.at' j hj;rw[wb,we hj]at ea;have ea:xs[j]=row.getD (fl j) 0:=ea;rw[<- e,ea]
  by_cases z:fl j=fl w
  ·rw[z];exact WX
  ·exact Wk (top _ (h.lt j hj) z)
 ·rw[<- h.at' w hw]
  exact G4 _ (getD_mem hw)
theorem DV{row:.a}(h:iQ xs row fl)(some:∃w,w<xs.length/\fl w=c)(top:∀j,j<row.length->j≠c->row.getD j 0<row.getD c 0):aC .cd .G=bZ xs.length fl c:=by
 unfold aC bZ;refine vJ λw hw=>?_
 have hw:=wN.mp hw;have hm:=tJ h some top
 have e:(cb xs).getD w 0=row.getD (fl w) 0+(1-row.getD c 0):=by
  unfold cb;rw[wb,wA,we hw,hm];have ea:=h.at' w hw;rw[wb,we hw]at ea;have ea:xs[w]=row.getD (fl w) 0:=ea
  show xs[w]+(1-row.getD c 0)=_
  rw[ea]
 rw[e]
 by_cases z:fl w=c
 ·rw[z,decide_eq_true rfl,decide_eq_false .aF];rfl
 ·have:=top _ (h.lt w hw) z
  rw[decide_eq_false z,decide_eq_true .aF];rfl
theorem Rp{row:.a}(h:iQ xs row fl)(hm:bQ xs=row.getD c 0)(hw:w<xs.length):(cb xs).getD w 0=row.getD (fl w) 0+(1-row.getD c 0):=by
 unfold cb;rw[wb,wA,we hw,hm];have ea:=h.at' w hw;rw[wb,we hw]at ea;have ea:xs[w]=row.getD (fl w) 0:=ea
 show xs[w]+(1-row.getD c 0)=_
 rw[ea]
theorem zvH{row:.a}(h:iQ xs row fl)(some:∃w,w<xs.length/\fl w=c)(top:∀j,j<row.length->j≠c->row.getD j 0<row.getD c 0)
  (low:∀j,j<row.length->j≠c->(∃w,w<xs.length/\fl w=j)->push a b (bZ xs.length fl c).length (row.getD j 0+(1-row.getD c 0))<1) :
  cE a b xs=[bZ xs.length fl c]/\iQ (dH a b xs) (eS a b (bZ xs.length fl c).length row c) fl:=by
 have hm:=tJ h some top;have he:=DV h some top;obtain⟨w0,hw0,hf0⟩:=some
 have hne:bZ xs.length fl c≠[]:=λe=>by
  have:w0∈bZ xs.length fl c:=ve.mpr ⟨wN.mpr hw0,decide_eq_true hf0⟩;rw[e]at this;cases this
 have hlen:xs.length=(xs.length-1)+1:=by lia
 have hcl:c<row.length:=by rw[<- hf0];exact h.lt w0 hw0
 have nd:=W1 (n:=xs.length)
 have hmemL:∀w,w∈cg .G .bN ↔ w<xs.length/\fl w≠c:=λw=>by
  unfold cg bZ;rw[ve,wN]
  constructor
  ·rintro ⟨h1,h2⟩
   refine⟨h1,λz=>?_⟩;have:w∈(wr xs.length).filter λw=>decide (fl w=c):=ve.mpr ⟨wN.mpr h1,decide_eq_true z⟩
   simp[this]at h2
  ·rintro ⟨h1,h2⟩
   exact⟨h1,by simp[h2]⟩
 have hps:∀w,w<xs.length->fl w≠c->(di (a^(bZ xs.length fl c).length) (aB a b (bZ xs.length fl c).length) .cd (cg .G .bN)).getD w 0=push a b (bZ xs.length fl c).length (row.getD (fl w) 0+(1-row.getD c 0)):=λw hw hf=>by
  rw[kb _ _ _ _ (rF nd) (λv hv=>by rw[fX];exact((hmemL v).mp hv).1),if_pos ((hmemL w).mpr ⟨hw,hf⟩),Rp h hm hw,je]
 have hend:aC (di (a^(bZ xs.length fl c).length) (aB a b (bZ xs.length fl c).length) .cd (cg .G .bN)) (cg .G .bN)=[]:=by
  unfold aC;rw[xF];intro w hw;have hw':=(hmemL w).mp hw;rw[hps w hw'.1 hw'.2];have:=low (fl w) (h.lt w hw'.1) hw'.2 ⟨w,hw'.1,rfl⟩;rw[decide_eq_true this]
  decide
 have hR:ff a b xs=([bZ xs.length fl c],cg .G .bN,di (a^(bZ xs.length fl c).length) (aB a b (bZ xs.length fl c).length) .cd (cg .G .bN)):=by
  unfold ff;generalize hN:dA a b xs.length .cd .G=r;rw[show dA a b xs.length .cd .G=dA a b ((xs.length-1)+1) .cd .G by rw[<- hlen],kx (by rw[he];exact hne),he,pg hend]at hN;exact hN.symm
 refine⟨by unfold cE;rw[hR],λw hw=>?_,λw hw=>by rw[jT];exact h.lt w (by rw[lO]at hw;exact hw)⟩;rw[lO]at hw;have hfw:=h.lt w hw;unfold dH;rw[hR,nE (by rw[jx,fX];exact hw),ja _ _ _ _ _ _ hfw]
 by_cases z:fl w=c
 ·rw[if_neg (λy=>((hmemL w).mp y).2 z),if_pos z]
 ·rw[if_pos ((hmemL w).mpr ⟨hw,z⟩),if_neg z,hps w hw z]
theorem zvu{row:.a}(h:iQ xs row fl)(some:∃w,w<xs.length/\fl w=c)(top:∀j,j<row.length->j≠c->row.getD j 0<row.getD c 0)
  {w1:Nat} (hw1:w1<xs.length) (hf1:fl w1≠c) (up:¬ push a b (bZ xs.length fl c).length (row.getD (fl w1) 0+(1-row.getD c 0))<1):1<(cE a b xs).length:=by
 have hm:=tJ h some top;have he:=DV h some top;obtain⟨w0,hw0,hf0⟩:=some
 have hne:bZ xs.length fl c≠[]:=λe=>by
  have:w0∈bZ xs.length fl c:=ve.mpr ⟨wN.mpr hw0,decide_eq_true hf0⟩;rw[e]at this;cases this
 have hw01:w0≠w1:=λe=>hf1 (by rw[<- e];exact hf0)
 have hlen:xs.length=(xs.length-2)+1+1:=by lia
 have nd:=W1 (n:=xs.length)
 have hmem:w1∈cg .G .bN:=by
  unfold cg bZ;rw[ve,wN];exact⟨hw1,by simp[hf1]⟩
 have hend:aC (di (a^(bZ xs.length fl c).length) (aB a b (bZ xs.length fl c).length) .cd (cg .G .bN)) (cg .G .bN)≠[]:=λe=>by
  have:w1∈aC (di (a^(bZ xs.length fl c).length) (aB a b (bZ xs.length fl c).length) .cd (cg .G .bN)) (cg .G .bN):=by
   unfold aC;refine ve.mpr ⟨hmem,?_⟩;rw[kb _ _ _ _ (rF nd) (λv hv=>by rw[fX];exact wN.mp (ve.mp hv).1),if_pos hmem,Rp h hm hw1,<- je,decide_eq_false up]
   rfl
  rw[e]at this;cases this
 unfold cE ff;rw[show dA a b xs.length .cd .G=dA a b ((xs.length-2)+1+1) .cd .G by rw[<- hlen],kx (by rw[he];exact hne),he,kx hend]
 show 1<(_::_::_:List (List Nat)).length
 simp
theorem zpp{row:.a}(hi:i<=row.length)(hj:j<row.length):(aQ a b ns row i).getD j 0∈turned a b ns row i:=by
 have hl:=dP a b ns row i;rw[rn a b ns row i hi];have hm:(aQ a b ns row i).getD j 0∈aQ a b ns row i:=getD_mem .c;generalize (aQ a b ns row i).getD j 0=y at hm;have hm2:y∈(aQ a b ns row i).take i++(aQ a b ns row i).drop i:=by rw[List.take_append_drop];exact hm
 rcases vG.mp hm2 with z | z
 ·exact vG.mpr (.inr z)
 ·exact vG.mpr (.inl z)
theorem E_{row:.a}(h:jS (turned a b ns row i))(hi:i<row.length)(hj:j<row.length)(hne:j≠i):(aQ a b ns row i).getD j 0<(aQ a b ns row i).getD i 0:=by
 have hl:=dP a b ns row i;have hpw:=h.pw;rw[rn a b ns row i .c,WK .c,xi]at hpw;have hp:=(Vd.mp hpw).1;have e:(aQ a b ns row i).getD i 0=(aQ a b ns row i)[i]'(by lia):=by rw[wb,we .c];rfl
 rw[e];refine hp _ ?_;rw[vG];have ej:(aQ a b ns row i).getD j 0=(aQ a b ns row i)[j]'(by lia):=by rw[wb,we .c];rfl
 rw[ej];rcases wJ j i with z | z
 ·refine .inr (xZ.mpr ⟨j,by rw[Wf];lia,?_⟩)
  rw[XR]
 ·refine .inl (xZ.mpr ⟨j-(i+1),by rw[Wg];lia,?_⟩)
  rw[XS]
  congr 1
  lia
def fJ(a b:Rat)(ns:.p)(row:.a)(i:Nat):Rat:=(aQ a b ns row (i+1)).getD ((i+1) % row.length) 0
structure gX(xs row:.a)(fl:Nat->Nat)(ns:.p):Prop where
 pl:iQ xs row fl
 mU:jS row
 one:row.getD 0 0<1
 len:ns.length=row.length
 some:∀c,c<row.length->∃w,w<xs.length/\fl w=c
 size:∀c,c<row.length->(ns.getD c 0).toNat=(bZ xs.length fl c).length
theorem B3{a b:Rat}(a0:0<a)(b0:0<=b){xs row:.a}{fl:Nat->Nat}{ns:.p}(h:gX xs row fl ns):∀i,i<=row.length->(∀t,t<i->fJ a b ns row t<1)->iQ .B (aQ a b ns row i) fl/\jS (turned a b ns row i)/\(i<row.length->(aQ a b ns row i).getD i 0<1) /\ ∀t,t<i->cE a b (ai a b xs t)=[bZ xs.length fl t]
 | 0,_,_=>⟨h.pl,h.mU,λ_=>h.one,λt ht=>by lia⟩
 | i+1,hi,ht=>by
  obtain⟨P,F,o,W⟩:=B3 a0 b0 h i .c (λt ht'=>ht t .c);have hl:=dP a b ns row i;have hpl:=bS a b xs i;have hi':i<row.length:=by lia
  have oi:=o hi';have ti:=ht i .c
  have hne:turned a b ns row i≠[]:=λe=>by
   have:=GA a b ns row .c i;rw[e]at this;simp at this;lia
  obtain⟨x,l,ex⟩:∃x l,turned a b ns row i=x::l:=by
   cases e:turned a b ns row i with
   | nil=>exact absurd e hne
   | cons x l=>exact⟨x,l,rfl⟩
  have hx:x=(aQ a b ns row i).getD i 0:=by
   have:=Fw a b ns row hi';rw[ex]at this;exact this
  have F1:jS (turned a b ns row (i+1)):=by
   show jS (oY a b (ns.getD i 0).toNat (turned a b ns row i))
   rw[ex]at F ⊢;exact F.step a0 b0 (by rw[hx];exact oi)
  have hsz:(ns.getD i 0).toNat=(bZ (ai a b xs i).length fl i).length:=by rw[hpl];exact h.size i hi'
  have hrow:aQ a b ns row (i+1)=eS a b (bZ (ai a b xs i).length fl i).length (aQ a b ns row i) i:=by rw[<- hsz];rfl
  have headTop:(turned a b ns row (i+1)).headD 0=fJ a b ns row i:=by
   unfold fJ;rcases wJ (i+1) row.length with z | z
   ·rw[Fw a b ns row z,uh z]
   ·have e:i+1=row.length:=by lia
    rw[e,Nat.mod_self,rn a b ns row _ .ax];have hl1:=dP a b ns row row.length;rw[Qm .c,WJ .c,qb];cases e2:aQ a b ns row row.length with
    | nil=>rw[e2]at hl1;simp at hl1;lia
    | cons y m=>rfl
  have below:∀y∈turned a b ns row (i+1),y<1:=λy hy=>by
   have hpw:=F1.pw;cases e2:turned a b ns row (i+1)with
   | nil=>rw[e2]at hy;cases hy
   | cons z m =>
    rw[e2]at hy hpw headTop
    have hz:z<1:=by
     have:z=fJ a b ns row i:=headTop;rw[this];exact ti
    rcases wO.mp hy with rfl | hy
    ·exact hz
    ·have:=(Vd.mp hpw).1 y hy
     have:y<z:=this
     grind
  have G:=zvH (a:=a) (b:=b) (c:=i) P (by obtain⟨w,h1,h2⟩:=h.some i hi';exact⟨w,by lia,h2⟩) (λj hj hji=>E_ F hi' .c hji) (λj hj hji _=>by
   have hm:=zpp (a:=a) (b:=b) (ns:=ns) (row:=row) (i:=i+1) (j:=j) hi .c;have:=below _ hm;rw[hrow,ja _ _ _ _ _ _ hj,if_neg hji]at this;exact this)
  refine⟨by rw[hrow];exact G.2,F1,λhlt=>?_,λt ht'=>?_⟩
  ·have:=below _ (zpp (a:=a) (b:=b) (ns:=ns) (row:=row) (i:=i+1) (j:=i+1) hi hlt)
   exact this
  ·rcases wJ t i with z | z
   ·exact W t z
   ·have:t=i:=by lia
    subst this;have:=G.1;rw[hpl]at this;exact this
def fm(xs:.a)(v:Rat):List Nat:=(wr xs.length).filter λw=>decide (xs.getD w 0=v)
def ig:Nat->List Rat->List Rat
 | 0,_=>[]
 | _+1,[]=>[]
 | n+1,x::l=>bQ (x::l)::ig n ((x::l).filter λy=>!decide (y=bQ (x::l)))
def aj(xs:.a):List Rat:=ig xs.length xs
theorem zc(n:Nat):ig n []=[]:=by cases n<;>rfl
theorem mZ(h:l≠[]):ig (n+1) l=bQ l::ig n (l.filter λy=>!decide (y=bQ l)):=by
 cases l with
 | nil=>exact absurd rfl h
 | cons x l=>rfl
theorem CL(h:l≠[]):(l.filter λy=>!decide (y=bQ l)).length<l.length:=by
 have hm:bQ l∈l:=gY (WL.mpr h);rcases wJ (l.filter λy=>!decide (y=bQ l)).length l.length with z | z
 ·exact z
 ·have:=List.length_filter_eq_length_iff.mp (Nat.le_antisymm (Wl _ _) z) (bQ l) hm
  simp at this
theorem JM:∀(n:Nat)(l:.a),∀y∈ig n l,y∈l
 | 0,l,y,h=>by cases h
 | n+1,[],y,h=>by cases h
 | n+1,x::l,y,h=>by
  rw[mZ .u]at h;rcases wO.mp h with rfl | h
  ·exact gY .u
  ·exact(ve.mp (JM n _ y h)).1
theorem kW:∀(n:Nat)(l:.a),(ig n l).Pairwise (· > ·)
 | 0,l=>Xf.nil
 | n+1,[]=>Xf.nil
 | n+1,x::l=>by
  rw[mZ .u];refine Vd.mpr ⟨λy hy=>?_,kW n _⟩;have hf:=ve.mp (JM n _ y hy);have h1:=G4 y hf.1;have h2:¬ y=bQ (x::l):=by simpa using hf.2
  show y<bQ (x::l)
  exact qc h1 h2
theorem zlP:∀(n:Nat)(l:.a),l.length<=n->∀y∈l,y∈ig n l
 | 0,l,h,y,hy=>by
  have:l=[]:=Qa.mp .c;rw[this]at hy;cases hy
 | n+1,[],h,y,hy=>by cases hy
 | n+1,x::l,h,y,hy=>by
  rw[mZ .u]
  by_cases z:y=bQ (x::l)
  ·rw[z];exact wL ..
  ·have hl:=CL (l:=x::l) .u
   refine wH _ (zlP n _ .c y (ve.mpr ⟨hy,by simp[z]⟩))
def aM(xs:.a)(w:Nat):Nat:=(aj xs).idxOf (xs.getD w 0)
theorem CF(h:y∈xs):y∈aj xs:=zlP _ _ .ax y h
theorem n_(h:y∈aj xs):y∈xs:=JM _ _ y h
theorem mz(xs:.a):iQ xs (aj xs) .b8:=by
 have key:∀w,w<xs.length->aM xs w<(aj xs).length:=λw hw=>List.idxOf_lt_length_of_mem (CF (getD_mem hw))
 refine⟨λw hw=>?_,key⟩;rw[wb (l:=aj xs),we (key w hw)];exact(List.getElem_idxOf (key w hw)).symm
theorem Ct(hw:w<xs.length)(hc:c<(aj xs).length):aM xs w=c ↔ xs.getD w 0=(aj xs).getD c 0:=by
 have P:=mz xs;have e:=P.at' w hw;have hl:=P.lt w hw
 constructor
 ·rintro rfl;exact e
 ·intro h
  rw[e]at h;rcases ql (aM xs w) c with z | z | z
  ·have:=(Wo.mp (kW xs.length xs)) (aM xs w) c hl hc z
   rw[wb,we hl,wb,we hc]at h;have h:(aj xs)[aM xs w]=(aj xs)[c]:=h;have this:(aj xs)[c]<(aj xs)[aM xs w]:=this;rw[h]at this;exact absurd this .aF
  ·exact z
  ·have:=(Wo.mp (kW xs.length xs)) c (aM xs w) hc hl z
   rw[wb,we hl,wb,we hc]at h;have h:(aj xs)[aM xs w]=(aj xs)[c]:=h;have this:(aj xs)[aM xs w]<(aj xs)[c]:=this;rw[h]at this;exact absurd this .aF
theorem zyV(hc:c<(aj xs).length):bZ xs.length .b8 c=fm xs ((aj xs).getD c 0):=by
 unfold bZ fm;refine vJ λw hw=>?_
 exact decide_eq_decide.mpr (Ct (wN.mp hw) hc)
def aG(xs:.a):List Int:=(aj xs).map λv=>((fm xs v).length:Int)
theorem PX(nn:∀x∈xs,0<=x)(lt:∀x∈xs,x<1):gX xs (aj xs) .b8 .aq where
 pl:=mz xs
 mU:=⟨kW _ _,λy hy=>nn y (n_ hy)⟩
 one:=by
  rcases wJ 0 (aj xs).length with z | z
  ·exact lt _ (n_ (getD_mem z))
  ·rw[wb,wQ z];decide
 len:=by unfold aG;rw[wn]
 some:=λc hc=>by
  obtain⟨w,hw,e⟩:=vA (n_ (getD_mem (d:=0) hc));refine⟨w,hw,(Ct hw hc).mpr ?_⟩;rw[wb,we hw];exact e
 size:=λc hc=>by
  rw[zyV hc];unfold aG;rw[wb,wA,we hc,wb,we hc]
  rfl
theorem Yt:∀{l m:.a},l.Pairwise (· > ·)->m.Pairwise (· > ·)->(∀y,y∈l ↔ y∈m)->l=m
 | [],[],_,_,_=>rfl
 | [],y::m,_,_,h=>by have:=(h y).mpr .bH;cases this
 | x::l,[],_,_,h=>by have:=(h x).mp .bH;cases this
 | x::l,y::m,hl,hm,h=>by
  have pl:=Vd.mp hl;have pm:=Vd.mp hm
  have e:x=y:=by
   rcases wO.mp ((h x).mp .bH)with z | z
   ·exact z
   ·rcases wO.mp ((h y).mpr .bH)with z2 | z2
    ·exact z2.symm
    ·have a1:x<y:=pm.1 x z
     have a2:y<x:=pl.1 y z2
     grind
  subst e;rw[Yt pl.2 pm.2 λz=>⟨λhz=>?_,λhz=>?_⟩]
  ·rcases wO.mp ((h z).mp (wH _ hz))with e | e
   ·have:z<x:=pl.1 z hz
    rw[e]at this;exact absurd this .aF
   ·exact e
  ·rcases wO.mp ((h z).mpr (wH _ hz))with e | e
   ·have:z<x:=pm.1 z hz
    rw[e]at this;exact absurd this .aF
   ·exact e
theorem pW{row:.a}(P:iQ ys row fl)(F:row.Pairwise (· > ·))(some:∀c,c<row.length->∃w,w<ys.length/\fl w=c):aj ys=row:=by
 refine Yt (kW _ _) F λy=>⟨λh=>?_,λh=>?_⟩
 ·obtain⟨w,hw,e⟩:=vA (n_ h)
  have ea:=P.at' w hw;rw[wb,we hw]at ea;have ea:ys[w]=row.getD (fl w) 0:=ea;rw[<- e,ea];exact getD_mem (P.lt w hw)
 ·obtain⟨c,hc,e⟩:=vA h
  obtain⟨w,hw,hf⟩:=some c hc;have ea:=P.at' w hw;rw[hf,wb (l:=row),we hc]at ea;have ea:ys.getD w 0=row[c]:=ea;rw[<- e,<- ea];exact CF (getD_mem hw)
theorem zsu{row:.a}(P:iQ ys row fl)(F:row.Pairwise (· > ·))(some:∀c,c<row.length->∃w,w<ys.length/\fl w=c)(hn:ns.length=row.length)(pos:∀n∈ns,0<=n)(size:∀c,c<row.length->(ns.getD c 0).toNat=(bZ ys.length fl c).length):aG ys=ns:=by
 have hv:=pW P F some;unfold aG;rw[hv];refine WS (by rw[wn,hn]) λc h1 h2=>?_
 rw[wn]at h1;rw[W2]
 have e:fm ys row[c]=bZ ys.length fl c:=by
  unfold fm bZ;refine vJ λw hw=>?_
  have hw:=wN.mp hw;refine decide_eq_decide.mpr ⟨λh=>?_,λh=>?_⟩
  ·have ea:=P.at' w hw
   rw[h]at ea;have hl:=P.lt w hw;rw[wb,we hl]at ea;have ea:row[c]=row[fl w]:=ea;rcases ql (fl w) c with z | z | z
   ·have:=(Wo.mp F) (fl w) c hl h1 z
    have this:row[c]<row[fl w]:=this;rw[ea]at this;exact absurd this .aF
   ·exact z
   ·have:=(Wo.mp F) c (fl w) h1 hl z
    have this:row[fl w]<row[c]:=this;rw[ea]at this;exact absurd this .aF
  ·have ea:=P.at' w hw
   rw[h,wb (l:=row),we h1]at ea;exact ea
 have hs:=size c h1;rw[wb,we h2]at hs;have hs:ns[c].toNat=(bZ ys.length fl c).length:=hs;have:=pos ns[c] (vF h2);rw[e]
 lia
def d5(a b:Rat)(ns:.p)(row:.a):Nat->Rat
 | 0=>0
 | k+1=>d5 a b ns row k+(1-(aQ a b ns row k).getD k 0)
theorem ZG{a b:Rat}(a0:0<a)(b0:0<=b){xs row:.a}{fl:Nat->Nat}{ns:.p}(h:gX xs row fl ns):∀i,i<=row.length->(∀t,t<i->fJ a b ns row t<1)->aE a b xs i=d5 a b ns row i
 | 0,_,_=>rfl
 | i+1,hi,ht=>by
  have ht':∀t,t<i->fJ a b ns row t<1:=λt z=>ht t .c
  obtain⟨P,F,_,_⟩:=B3 a0 b0 h i .c ht';have hpl:=bS a b xs i;have hl:=dP a b ns row i;have hm:=tJ (c:=i) P (by obtain⟨w,h1,h2⟩:=h.some i .c;exact⟨w,by lia,h2⟩) (λj hj hji=>E_ F .c .c hji);rw[aE,d5,ZG a0 b0 h i .c ht',hm]
theorem zzH(a0:0<a)(b0:0<=b){row:.a}(h:gX xs row fl ns){t:Nat}(ht:t<row.length)(free:∀s,s<t->fJ a b ns row s<1)(up:¬ fJ a b ns row t<1):1<(cE a b (ai a b xs t)).length:=by
 obtain⟨P,F,o,_⟩:=B3 a0 b0 h t .c free;have hpl:=bS a b xs t;have hl:=dP a b ns row t;have hsz:(ns.getD t 0).toNat=(bZ (ai a b xs t).length fl t).length:=by rw[hpl];exact h.size t ht
 have hrow:aQ a b ns row (t+1)=eS a b (bZ (ai a b xs t).length fl t).length (aQ a b ns row t) t:=by rw[<- hsz];rfl
 have hj:(t+1) % row.length<row.length:=Qx _ .c
 have hne:(t+1) % row.length≠t:=λe=>by
  apply up
  unfold fJ;rw[hrow,e,ja _ _ _ _ _ _ .c,if_pos rfl]
  decide
 obtain⟨w1,hw1,hf1⟩:=h.some _ hj;refine zvu (c:=t) P (by obtain⟨w,h1,h2⟩:=h.some t ht;exact⟨w,by lia,h2⟩) (λj hj hji=>E_ F ht .c hji) (w1:=w1) .c (by rw[hf1];exact hne) ?_;intro z
 apply up
 unfold fJ;rw[hrow,ja _ _ _ _ _ _ .c,if_neg hne,<- hf1];exact z
theorem oX{a b:Rat}(a0:0<a)(b0:0<=b):∀n:Nat,0<=aB a b n
 | 0=>WX
 | n+1=>by
  have h1:=oX a0 b0 n;have h2:=qq (Wk a0) h1
  show 0<=a*aB a b n+b
  grind
theorem Ju{a b:Rat}(a0:0<a)(b0:0<=b):∀(n:Nat)(ps:.a)(left:List Nat),left.length<=n->left.Nodup->(∀w∈left,w<ps.length)->(∀w∈left,0<=ps.getD w 0) ->
  ∀w∈(dA a b n ps left).2.1,w∈left/\0<=(dA a b n ps left).2.2.getD w 0/\(dA a b n ps left).2.2.getD w 0<1
 | 0,ps,left,hn,_,_,_=>by
  have:left=[]:=Qa.mp .c;subst this;intro w hw;cases (show w∈([]:List Nat)from hw)
 | n+1,ps,left,hn,nd,hlt,nn=>by
  by_cases e:aC ps left=[]
  ·rw[pg e]
   intro w hw;have hw:w∈left:=hw;refine⟨hw,nn w hw,?_⟩;have:¬ w∈aC ps left:=by rw[e];simp
   unfold aC at this;rw[ve]at this
   show ps.getD w 0<1
   by_cases z:ps.getD w 0<1
   ·exact z
   ·exact absurd ⟨hw,by simp only[z,decide_false,xO]⟩ this
  ·rw[kx e]
   have hl:=Ac ps left;have hp:=WL.mpr e;have nd':(cg left .aL).Nodup:=rF nd;have lt':∀w∈cg left .aL,w<(di (a^(aC ps left).length) (aB a b (aC ps left).length) ps (cg left .aL)).length:=λw hw=>by rw[jx];exact q_ hlt w hw
   have ih:=Ju a0 b0 n (di (a^(aC ps left).length) (aB a b (aC ps left).length) ps (cg left .aL)) (cg left .aL) .c nd' lt' (λw hw=>by
    rw[kb _ _ _ _ nd' (q_ hlt),if_pos hw];have h1:=nn w (ve.mp hw).1;have h2:=qq (Wk (oG a0 (aC ps left).length)) h1;have h3:=oX a0 b0 (aC ps left).length
    grind)
   intro w hw;have:=ih w hw;exact⟨(ve.mp this.1).1,this.2⟩
theorem ZE(nn:∀x∈xs,0<=x)(lt:∀x∈xs,x<1)(hw:w<xs.length):0<=(cb xs).getD w 0:=by
 have h1:=gY (xs:=xs) .c;have h2:=lt _ h1;have h3:=nn _ (getD_mem (d:=0) hw);unfold cb;rw[BY hw]
 grind
theorem Z3(a0:0<a)(b0:0<=b)(nn:∀x∈xs,0<=x)(lt:∀x∈xs,x<1):∀y∈dH a b xs,0<=y/\y<1:=λy hy=>by
 obtain⟨j,hj,e⟩:=vA hy;have hlen:=lO a b xs;have hjx:j<xs.length:=by lia
 have hpl:(ff a b xs).2.2.length=xs.length:=by
  unfold ff;rw[yd,fX]
 have e2:(dH a b xs).getD j 0=y:=by rw[wb,we hj];exact e
 unfold dH at e2;rw[nE .c]at e2
 split at e2
 ·rename_i hm
  have:=Ju a0 b0 xs.length .cd .G .u W1 (λw hw=>by rw[fX];exact wN.mp hw) (λw hw=>ZE nn lt (wN.mp hw)) j hm;rw[<- e2];exact this.2
 ·rw[<- e2];exact⟨WX,by decide⟩
theorem zvk(a0:0<a)(b0:0<=b)(h1:.al)(nn:∀x∈xs,0<=x)(lt:∀x∈xs,x<1):0∈dH a b xs:=by
 obtain⟨j,hj,e⟩:=vA (gY h1)
 have hr:(cb xs).getD j 0=1:=by
  unfold cb;rw[BY hj,wb,we hj]
  show xs[j]+(1-bQ xs)=1
  rw[e];grind
 have hend:j∈aC .cd .G:=by
  unfold aC;rw[ve];refine⟨wN.mpr hj,?_⟩;rw[hr];decide
 have hne:aC .cd .G≠[]:=λz=>by rw[z]at hend;cases hend
 have hpl:(ff a b xs).2.2.length=xs.length:=by
  unfold ff;rw[yd,fX]
 have hnot:¬ j∈(ff a b xs).2.1:=λz=>by
  unfold ff at z;obtain⟨n,hn⟩:∃n,xs.length=n+1:=⟨xs.length-1,by lia⟩;have hl:=Ac .cd .G;rw[vv]at hl;have hp:=WL.mpr hne;have z':j∈(dA a b (n+1) .cd .G).2.1:=by rw[<- hn];exact z
  rw[kx hne]at z';have nd':(cg .G (aC .cd .G)).Nodup:=rF W1;have ltr:∀w∈wr xs.length,w<(cb xs).length:=λw hw=>by rw[fX];exact wN.mp hw
  have:=Ju a0 b0 n _ _ .c nd' (λw hw=>by rw[jx];exact q_ ltr w hw) (λw hw=>by
   rw[kb _ _ _ _ nd' (q_ ltr),if_pos hw];have h1:=ZE nn lt (wN.mp (ve.mp hw).1);have h2:=qq (Wk (oG a0 (aC .cd .G).length)) h1;have h3:=oX a0 b0 (aC .cd .G).length
   grind) j z'
  have:=(ve.mp this.1).2;simp only[hend,decide_true,qH]at this;cases this
 have hlen:=lO a b xs
 have hg:(dH a b xs).getD j 0=0:=by
  unfold dH;rw[nE .c,if_neg hnot]
 rw[<- hg];exact getD_mem .c
structure cq(xs:.a):Prop where
 nn:∀x∈xs,0<=x
 lt:∀x∈xs,x<1
theorem cq.pH(a0:0<a)(b0:0<=b)(h:cq xs):cq (dH a b xs):=⟨λy hy=>(Z3 a0 b0 h.nn h.lt y hy).1,λy hy=>(Z3 a0 b0 h.nn h.lt y hy).2⟩
theorem cq.at{a b:Rat}(a0:0<a)(b0:0<=b){xs:.a}(h:cq xs):∀k,cq .bW
 | 0=>h
 | k+1=>(cq.at a0 b0 h k).pH a0 b0
theorem cq.zero(a0:0<a)(b0:0<=b)(h:cq xs)(h1:.al)(hk:1<=k):0∈ai a b xs k:=by
 obtain⟨j,rfl⟩:∃j,k=j+1:=⟨k-1,by lia⟩;have:=h.at a0 b0 j;exact zvk a0 b0 (by rw[bS];exact h1) this.nn this.lt
theorem GW(h:cq xs)(h0:0∈xs):(aj xs).dropLast++[0]=aj xs:=by
 have hm:=CF h0;have hne:aj xs≠[]:=λe=>by rw[e]at hm;cases hm
 have hpw:(aj xs).Pairwise (· > ·):=kW _ _
 have hl:(aj xs).getLast hne=0:=by
  have h1:=h.nn _ (n_ (List.getLast_mem hne))
  have h2:(aj xs).getLast hne<=0:=by
   have e:=QM hne;rw[<- e]at hm hpw;rcases vG.mp hm with z | z
   ·have:=(qC.mp hpw).2.2 0 z _ (wZ.mpr rfl)
    exact Wk this
   ·rw[<- wZ.mp z];exact WX
  grind
 have:=QM hne;rw[hl]at this;exact this
theorem lu(h1:.al):1<=(aj xs).length:=by
 have:=CF (getD_mem (d:=0) (show 0<xs.length by lia));exact xG this
theorem oA(xs:.a):(aG xs).length=(aj xs).length:=by unfold aG;rw[wn]
theorem iB(xs:.a):∀n∈aG xs,0<=n:=λn hn=>by
 obtain⟨v,_,rfl⟩:=wW.mp hn
 lia
theorem UP{α : Type}(g h : α -> Nat):∀l:List α,(l.map λv=>g v+h v).sum=(l.map g).sum+(l.map h).sum
 | []=>rfl
 | x::l=>by
  simp only[vi,Vk,UP g h l]
  lia
theorem zAW(x:Rat):∀vs:List Rat,vs.Nodup->(vs.map λv=>if x=v then 1 else 0).sum<=1
 | [],_=>by simp
 | v::vs,nd=>by
  have⟨h1,h2⟩:=qa.mp nd;rw[vi,Vk]
  by_cases e:x=v
  ·have z:(vs.map λv=>if x=v then 1 else 0).sum=0:=by
    have:∀ws:List Rat,(∀y∈ws,x≠y)->(ws.map λv=>if x=v then 1 else 0).sum=0:=by
     intro ws
     induction ws with
     | nil=>intro _;rfl
     | cons y ws ih =>
      intro hy;rw[vi,Vk,if_neg (hy y .bH),ih λz hz=>hy z (wH _ hz)]
    exact this vs λy hy z=>h1 (by rw[<- e,z];exact hy)
   rw[z,if_pos e]
   lia
  ·have:=zAW x vs h2
   rw[if_neg e];lia
theorem So(f:Nat->Rat)(vs:.a)(nd:vs.Nodup):∀l:List Nat,(vs.map λv=>(l.filter λw=>decide (f w=v)).length).sum<=l.length
 | []=>by
  have:∀ws:List Rat,(ws.map λv=>(([]:List Nat).filter λw=>decide (f w=v)).length).sum=0:=by
   intro ws
   induction ws with
   | nil=>rfl
   | cons y ws ih=>rw[vi,Vk,ih];rfl
  rw[this];exact wu _
 | w::l=>by
  have ih:=So f vs nd l
  have e:(vs.map λv=>((w::l).filter λw=>decide (f w=v)).length)=vs.map λv=>(if f w=v then 1 else 0)+(l.filter λw=>decide (f w=v)).length:=by
   refine Vp λv _=>?_
   rw[WB]
   by_cases z:f w=v
   ·rw[if_pos (by simp[z]),if_pos z,Wi];lia
   ·rw[if_neg (by simp[z]),if_neg z];lia
  rw[e,UP,Wi];have:=zAW (f w) vs nd
  lia
theorem zpu(xs:.a):(aj xs).Nodup:=(kW xs.length xs).imp λ{x y} h=>by
 have h:y<x:=h;intro e;rw[e]at h;exact absurd h .aF
theorem GV(xs:.a):((aG xs).map xv).sum<=xs.length:=by
 have:=So (λw=>xs.getD w 0) (aj xs) (zpu xs) .G;rw[vv]at this
 have e:(aG xs).map xv=(aj xs).map λv=>((wr xs.length).filter λw=>decide (xs.getD w 0=v)).length:=by
  unfold aG;rw[VB];refine Vp λv _=>?_
  show((fm xs v).length:Int).toNat=_
  rw[wE];rfl
 rw[e];exact this
theorem Zm(xs:.a):upTo .aq (aG xs).length<=xs.length:=by
 unfold upTo;rw[Wm];exact GV xs
theorem zwY(xs:.a):∀n∈aG xs,0<=n/\n<=xs.length:=λn hn=>by
 obtain⟨v,_,rfl⟩:=wW.mp hn
 have:(fm xs v).length<=xs.length:=by
  have:=Wl (λw=>decide (xs.getD w 0=v)) .G;rw[vv]at this;exact this
 lia
theorem jn(xs:.a):(aj xs).length<=xs.length:=by
 have h:∀(n:Nat)(l:.a),(ig n l).length<=n:=by
  intro n
  induction n with
  | zero=>intro l;exact wu _
  | succ n ih =>
   intro l
   by_cases e:l=[]
   ·rw[e,zc];simp
   ·rw[mZ e,Wi]
    have:=ih (l.filter λy=>!decide (y=bQ l))
    lia
 exact h _ _
theorem lP(c:.bM)(h:∀y∈ys,y∈xs):Cm m ys:=c.hJ λy hy=>.inl (h y hy)
theorem kn(c:.bM):Cm m (aj xs).dropLast:=lP c λy hy=>n_ (by rw[xP]at hy;exact qD hy)
theorem zzx(xs:.a):(wr xs.length).map (λw=>xs.getD w 0)=xs:=by
 refine WS .u λi h1 h2=>?_
 rw[W2,List.getElem_range,wb,we h2]
 rfl
theorem Uz(xs:.a)(v:Rat):(fm xs v).length=xs.countP λy=>decide (y=v):=by
 unfold fm;rw[<- QN]
 conv=>rhs;rw[<- zzx xs,uF]
 rfl
def seg(n:Nat)(fl:Nat->Nat)(s t:Nat):List Nat:=(wr n).filter λw=>decide (s<=fl w)&&decide (fl w<t)
theorem jU{s t:Nat} : w∈seg n fl s t ↔ w<n/\s<=fl w/\fl w<t:=by
 unfold seg;rw[ve,wN,vf,decide_eq_true_eq,decide_eq_true_eq]
theorem SX(n:Nat)(fl:Nat->Nat)(s t:Nat):(seg n fl s t).Nodup:=W1.filter _
theorem zyR{s t u:Nat}(h1:s<=t)(h2:t<=u):(seg n fl s t++seg n fl t u).Perm (seg n fl s u):=by
 have e1:(seg n fl s u).filter (λw=>decide (fl w<t))=seg n fl s t:=by
  unfold seg;rw[VA];refine vJ λw _=>?_
  rw[vI];simp only[vf,decide_eq_true_eq]
  lia
 have e2:(seg n fl s u).filter (λw=>!decide (fl w<t))=seg n fl t u:=by
  unfold seg;rw[VA];refine vJ λw _=>?_
  rw[vI];simp only[vf,WY,decide_eq_true_eq,decide_eq_false_iff_not]
  lia
 have:=List.filter_append_perm (λw=>decide (fl w<t)) (seg n fl s u);rw[e1,e2]at this;exact this
theorem Z6(n:Nat)(fl:Nat->Nat)(s:Nat):seg n fl s s=[]:=by
 unfold seg;rw[xF];intro w _;simp only[vf,decide_eq_true_eq]
 lia
inductive kT(n:Nat)(fl:Nat->Nat):Nat->List (List Nat)->Nat->Prop
 | nil (t:Nat):kT n fl t [] t
 | cons {t u v:Nat} {ws:.be} : t<u->kT n fl u ws v->kT n fl t (seg n fl t u::ws) v
theorem kT.le{t v:Nat}{ws:.be}(h:kT n fl t ws v):t<=v:=by
 induction h with
 | nil t=>exact wu t
 | cons h _ ih=>lia
theorem kT.perm{t v:Nat}{ws:.be}(h:kT n fl t ws v):ws.flatten.Perm (seg n fl t v):=by
 induction h with
 | nil t=>rw[Z6];exact List.Perm.refl _
 | cons h k ih =>
  rw[VO];exact(List.Perm.append_left _ ih).trans (zyR .c k.le)
theorem U3(p:Nat->Prop)[DecidablePred p](t:Nat):∀m:Nat,t<=m->(∀c d,t<=c->c<=d->d<m->p d->p c)->∃u,t<=u/\u<=m /\ ∀c,t<=c->c<m->(p c ↔ c<u)
 | 0,h,_=>⟨0,h,wu 0,λc _ hc=>absurd hc .c⟩
 | m+1,h,mono=>by
  rcases wJ m t with z | z
  ·exact⟨m+1,h,wu _,λc h1 h2=>absurd h2 .c⟩
  ·by_cases q:p m
   ·exact⟨m+1,h,wu _,λc h1 h2=>⟨λ_=>h2,λ_=>mono c m h1 .c .c q⟩⟩
   ·obtain⟨u,u1,u2,hu⟩:=U3 p t m z (λc d h1 h2 h3=>mono c d h1 h2 .c)
    refine⟨u,u1,by lia,λc h1 h2=>?_⟩;rcases wJ c m with y | y
    ·exact hu c h1 y
    ·have:c=m:=by lia
     subst this;exact⟨λk=>absurd k q,λk=>absurd k .c⟩
theorem AV{row:.a}(F:row.Pairwise (· > ·)){d:Nat}(h:c<d)(hd:d<row.length):row.getD d 0<row.getD c 0:=by
 have:=Wo.mp F c d .c hd h;rw[wb,we hd,wb,we .c];exact this
theorem zDx{row:.a}(F:row.Pairwise (· > ·)){d:Nat}(h:c<=d)(hd:d<row.length):row.getD d 0<=row.getD c 0:=by
 rcases wJ c d with z | z
 ·exact Wk (AV F z hd)
 ·rw[show c=d by lia];exact WX
theorem PJ{a b:Rat}(a0:0<a)(b0:0<=b){row:.a}{fl:Nat->Nat}{N:Nat}(F:row.Pairwise (· > ·)):∀(n:Nat)(ps:.a)(t:Nat)(A B:Rat),t<=row.length->ps.length=N->0<A->(∀w∈seg N fl t row.length,ps.getD w 0=A*row.getD (fl w) 0+B/\0<ps.getD w 0) ->
  ∃(v:Nat)(A' B':Rat),v<=row.length/\0<A'/\kT N fl t (dA a b n ps (seg N fl t row.length)).1 v/\(dA a b n ps (seg N fl t row.length)).2.1=seg N fl v row.length /\
   ∀w∈seg N fl v row.length,(dA a b n ps (seg N fl t row.length)).2.2.getD w 0=A'*row.getD (fl w) 0+B'/\0<A'*row.getD (fl w) 0+B'
 | 0,ps,t,A,B,ht,hl,hA,hw=>⟨t,A,B,ht,hA,.nil t,rfl,λw h=>⟨(hw w h).1,by rw[<- (hw w h).1];exact(hw w h).2⟩⟩
 | n+1,ps,t,A,B,ht,hl,hA,hw=>by
  by_cases e:aC ps (seg N fl t row.length)=[]
  ·rw[pg e]
   exact⟨t,A,B,ht,hA,.nil t,rfl,λw h=>⟨(hw w h).1,by rw[<- (hw w h).1];exact(hw w h).2⟩⟩
  ·obtain⟨u,u1,u2,hu⟩:=U3 (λc=>¬ A*row.getD c 0+B<1) t row.length ht (λc d h1 h2 h3 hp=>by
    have:=Rat.mul_le_mul_of_nonneg_left (zDx F h2 h3) (Wk hA);have hp:¬ A*row.getD d 0+B<1:=hp
    show ¬ A*row.getD c 0+B<1
    grind)
   have eE:aC ps (seg N fl t row.length)=seg N fl t u:=by
    unfold aC
    have:(seg N fl t row.length).filter (λw=>!decide (ps.getD w 0<1))=(seg N fl t row.length).filter (λw=>decide (fl w<u)):=by
     refine vJ λw h=>?_
     have h1:=hw w h;have h2:=jU.mp h;rw[vI,WY,decide_eq_false_iff_not,decide_eq_true_eq,h1.1];exact hu (fl w) h2.2.1 h2.2.2
    rw[this];unfold seg;rw[VA];refine vJ λw _=>?_
    rw[vI];simp only[vf,decide_eq_true_eq]
    lia
   have eL:cg (seg N fl t row.length) (seg N fl t u)=seg N fl u row.length:=by
    unfold cg
    have:(seg N fl t row.length).filter (λw=>!decide (w∈seg N fl t u))=(seg N fl t row.length).filter (λw=>!decide (fl w<u)):=by
     refine vJ λw h=>?_
     have h2:=jU.mp h;rw[vI,WY,WY,decide_eq_false_iff_not,decide_eq_false_iff_not,jU]
     constructor
     ·intro k y;exact k ⟨h2.1,h2.2.1,y⟩
     ·intro k y;exact k y.2.2
    rw[this];unfold seg;rw[VA];refine vJ λw _=>?_
    rw[vI];simp only[vf,WY,decide_eq_true_eq,decide_eq_false_iff_not]
    lia
   have htu:t<u:=by
    rcases wJ t u with z | z
    ·exact z
    ·have:u=t:=by lia
     rw[eE,this,Z6]at e;exact absurd rfl e
   rw[kx e,eE,eL];have hf:=oG a0 (seg N fl t u).length;have hg:=oX a0 b0 (seg N fl t u).length;generalize a^(seg N fl t u).length=f at *;generalize aB a b (seg N fl t u).length=g at *;have hA':0<f*A:=Vv hf hA
   obtain⟨v,A',B',hv,hA2,hs,hl2,hw2⟩:=PJ (fl:=fl) (N:=N) a0 b0 F n (di f g ps (seg N fl u row.length)) u (f*A) (f*B+g) u2 (by rw[jx];exact hl) hA' (λw h=>by
    have hm:=jU.mp h;have h1:=hw w (jU.mpr ⟨hm.1,by lia,hm.2.2⟩);have h3:=Vv hf h1.2;rw[kb _ _ _ _ (SX ..) (λw h=>by rw[hl];exact(jU.mp h).1),if_pos h];refine⟨by rw[h1.1];grind,by grind⟩)
   exact⟨v,A',B',hv,hA2,.cons htu hs,hl2,hw2⟩
structure pe(xs ys:.a)(waves:.be)(v:Nat):Prop where
 v1:1<=v
 vm:v<=(aj xs).length
 first:∃ws,waves=seg xs.length .b8 0 1::ws/\kT xs.length .b8 1 ws v
 vals:∃(A B:Rat),0<A/\aj ys=((aj xs).drop v).map (λx=>A*x+B)++[0]/\(∀x∈(aj xs).drop v,0<A*x+B)
 at':iQ ys (aj ys) (λw=>if aM xs w<v then(aj xs).length-v else aM xs w-v)
 len:ys.length=xs.length
theorem O7{v:Nat} : (l.drop v).getD c 0=l.getD (v+c) 0:=by
 rw[wb,Xz,wb]
theorem rE(hc:c<(aj xs).length):∃w,w<xs.length/\aM xs w=c:=by
 have hm:(aj xs).getD c 0∈xs:=n_ (getD_mem hc);obtain⟨w,hw,e⟩:=vA hm;refine⟨w,hw,(Ct hw hc).mpr ?_⟩;rw[wb,we hw];exact e
theorem yF(a0:0<a)(b0:0<=b)(h1:.al)(nn:∀x∈xs,0<=x)(lt:∀x∈xs,x<1):∃v,pe xs (dH a b xs) (cE a b xs) v:=by
 have P:=mz xs;have F:(aj xs).Pairwise (· > ·):=kW xs.length xs;have m1:=lu h1;have top:∀j,j<(aj xs).length->j≠0->(aj xs).getD j 0<(aj xs).getD 0 0:=λj hj h0=>AV F .c hj
 have he:=DV P (rE m1) top;have hmax:=tJ P (rE m1) top;have hmx1:bQ xs<1:=lt _ (gY h1)
 have e01:bZ xs.length .b8 0=seg xs.length .b8 0 1:=by
  unfold bZ seg;refine vJ λw _=>?_
  rw[vI];simp only[vf,decide_eq_true_eq]
  lia
 rw[e01]at he
 have hr:wr xs.length=seg xs.length .b8 0 (aj xs).length:=by
  unfold seg
  symm
  rw[Xi];intro w hw;have:=P.lt w (wN.mp hw);simp only[vf,decide_eq_true_eq]
  lia
 have hne:aC .cd .G≠[]:=λe=>by
  obtain⟨w,hw,hf⟩:=rE m1;rw[he]at e;have:w∈seg xs.length .b8 0 1:=jU.mpr ⟨hw,by lia,by lia⟩;rw[e]at this;cases this
 obtain⟨n,hn⟩:∃n,xs.length=n+1:=⟨xs.length-1,by lia⟩
 have eL:cg .G (seg xs.length .b8 0 1)=seg xs.length .b8 1 (aj xs).length:=by
  unfold cg seg;refine vJ λw hw=>?_
  have h2:=P.lt w (wN.mp hw);rw[vI,WY,decide_eq_false_iff_not]
  have:w∈(wr xs.length).filter (λw=>decide (0<=aM xs w)&&decide (aM xs w<1)) ↔ aM xs w<1:=by
   rw[ve,vf,decide_eq_true_eq,decide_eq_true_eq];exact⟨λh=>h.2.2,λh=>⟨hw,by lia,h⟩⟩
  rw[this];simp only[vf,decide_eq_true_eq]
  lia
 have hf:=oG a0 (seg xs.length .b8 0 1).length;have hg:=oX a0 b0 (seg xs.length .b8 0 1).length
 have eR:ff a b xs=(seg xs.length .b8 0 1::(dA a b n (di (a^(seg xs.length .b8 0 1).length) (aB a b (seg xs.length .b8 0 1).length) .cd (seg xs.length .b8 1 (aj xs).length)) (seg xs.length .b8 1 (aj xs).length)).1,(dA a b n (di (a^(seg xs.length .b8 0 1).length) (aB a b (seg xs.length .b8 0 1).length) .cd (seg xs.length .b8 1 (aj xs).length)) (seg xs.length .b8 1 (aj xs).length)).2):=by
  unfold ff;have e:dA a b xs.length .cd .G=dA a b (n+1) .cd .G:=by rw[<- hn]
  rw[e,kx hne,he,eL]
 generalize a^(seg xs.length .b8 0 1).length=f at *;generalize aB a b (seg xs.length .b8 0 1).length=g at *
 obtain⟨v,A,B,hv,hA,hs,hl2,hw2⟩:=PJ (fl:=aM xs) (N:=xs.length) a0 b0 F n (di f g .cd (seg xs.length .b8 1 (aj xs).length)) 1 f (f*(1-bQ xs)+g) m1 (by rw[jx,fX]) hf (λw h=>by
  have hm:=jU.mp h;rw[kb _ _ _ _ (SX ..) (λw h=>by rw[fX];exact(jU.mp h).1),if_pos h]
  have e:(cb xs).getD w 0=(aj xs).getD (aM xs w) 0+(1-bQ xs):=by
   unfold cb;rw[BY hm.1,P.at' w hm.1]
  have hx:=nn _ (getD_mem (d:=0) hm.1);rw[P.at' w hm.1]at hx;have h3:=Vv hf (show 0<(aj xs).getD (aM xs w) 0+(1-bQ xs) by grind);rw[e];exact⟨by grind,by grind⟩)
 have v1:=hs.le
 have ePh:∀w,w<xs.length->(dH a b xs).getD w 0=if aM xs w<v then 0 else A*(aj xs).getD (aM xs w) 0+B:=λw hw=>by
  have hpl:(ff a b xs).2.2.length=xs.length:=by unfold ff;rw[yd,fX]
  unfold dH;rw[nE .c,eR]
  show(if w∈(dA a b n _ _).2.1 then _ else _)=_
  rw[hl2]
  by_cases z:aM xs w<v
  ·rw[if_neg (λh=>by have:=(jU.mp h).2.1;lia),if_pos z]
  ·have hmem:w∈seg xs.length .b8 v (aj xs).length:=jU.mpr ⟨hw,by lia,P.lt w hw⟩
   rw[if_pos hmem,if_neg z];exact(hw2 w hmem).1
 have posd:∀x∈(aj xs).drop v,0<A*x+B:=λx hx=>by
  obtain⟨c,hc,e⟩:=vA hx;rw[Wg]at hc;obtain⟨w,hw,hfw⟩:=rE (xs:=xs) (c:=v+c) .c;have:=(hw2 w (jU.mpr ⟨hw,by lia,P.lt w hw⟩)).2;rw[hfw,<- O7,wb,we (by rw[Wg];lia)]at this;rw[<- e];exact this
 have rlen:(((aj xs).drop v).map (λx=>A*x+B)++[0]).length=(aj xs).length-v+1:=by simp
 have rget:∀c,c<(aj xs).length-v->(((aj xs).drop v).map (λx=>A*x+B)++[0]).getD c 0=A*(aj xs).getD (v+c) 0+B:=λc hc=>by
  rw[wb,vO .aw,<- wb,BY (by rw[Wg];lia),O7]
 have rlast:(((aj xs).drop v).map (λx=>A*x+B)++[0]).getD ((aj xs).length-v) 0=0:=by
  rw[wb,vC .u];simp
 have P2:iQ (dH a b xs) (((aj xs).drop v).map (λx=>A*x+B)++[0]) (λw=>if aM xs w<v then(aj xs).length-v else aM xs w-v):=by
  refine⟨λw hw=>?_,λw hw=>?_⟩
  ·rw[lO]at hw
   rw[ePh w hw];have:=P.lt w hw
   by_cases z:aM xs w<v
   ·simp only[z,if_true]
    exact rlast.symm
   ·simp only[z,if_false]
    rw[rget _ .c,show v+(aM xs w-v)=aM xs w by lia]
  ·rw[lO]at hw
   have:=P.lt w hw;rw[rlen]
   show(if aM xs w<v then _ else _)<_
   split<;>lia
 have F2:(((aj xs).drop v).map (λx=>A*x+B)++[0]).Pairwise (· > ·):=by
  rw[qC];refine⟨?_,xn _ _,λx hx y hy=>?_⟩
  ·rw[Q5]
   refine(Uc F).imp λ{x y} h=>?_
   have:=Q1 (show y<x from h) hA
   show A*y+B<A*x+B
   grind
  ·obtain⟨z,hz,rfl⟩:=wW.mp hx
   rw[wZ.mp hy];exact posd z hz
 have eV:aj (dH a b xs)=((aj xs).drop v).map (λx=>A*x+B)++[0]:=pW P2 F2 λc hc=>by
  rw[rlen]at hc;rcases wJ c ((aj xs).length-v)with z | z
  ·obtain⟨w,hw,hfw⟩:=rE (xs:=xs) (c:=v+c) .c
   refine⟨w,by rw[lO];exact hw,?_⟩
   show(if aM xs w<v then _ else _)=_
   rw[hfw,if_neg .c]
   lia
  ·obtain⟨w,hw,hfw⟩:=rE m1
   refine⟨w,by rw[lO];exact hw,?_⟩
   show(if aM xs w<v then _ else _)=_
   rw[hfw,if_pos .c]
   lia
 refine⟨v,v1,hv,⟨_,by unfold cE;rw[eR],hs⟩,⟨A,B,hA,eV,posd⟩,by rw[eV];exact P2,lO ..⟩
def nz(xs:.a):List (List Nat):=(aj xs).map (fm xs)
theorem jY(xs:.a):(nz xs).length=(aj xs).length:=wn ..
theorem ZS{row:.a}(P:iQ ys row fl)(F:row.Pairwise (· > ·))(hc:c<row.length):fm ys (row.getD c 0)=bZ ys.length fl c:=by
 unfold fm bZ;refine vJ λw hw=>?_
 have hw:=wN.mp hw;rw[vI,decide_eq_true_eq,decide_eq_true_eq,P.at' w hw]
 constructor
 ·intro h
  rcases ql (fl w) c with z | z | z
  ·have:=AV F z hc;rw[h]at this;exact absurd this .aF
  ·exact z
  ·have:=AV F z (P.lt w hw);rw[h]at this;exact absurd this .aF
 ·rintro rfl;rfl
theorem zt5(hc:c<(aj xs).length):(nz xs).getD c []=seg xs.length .b8 c (c+1):=by
 have h:=ZS (mz xs) (kW xs.length xs) hc;unfold nz;rw[wb,wA,we hc]
 show fm xs (aj xs)[c]=_
 rw[wb,we hc]at h;have h:fm xs (aj xs)[c]=_:=h;rw[h];unfold bZ seg;refine vJ λw _=>?_
 rw[vI];simp only[vf,decide_eq_true_eq]
 lia
theorem pe.new{waves:.be}{v:Nat}(J:pe xs ys waves v):nz ys=(nz xs).drop v++[seg xs.length .b8 0 v]:=by
 obtain⟨A,B,hA,eV,pos⟩:=J.vals;have F2:(aj ys).Pairwise (· > ·):=kW ys.length ys;have hlen:(aj ys).length=(aj xs).length-v+1:=by rw[eV];simp
 have v1:=J.v1;have vm:=J.vm;refine WS (by rw[jY,hlen,wM,Wg,jY];rfl) λc h1 h2=>?_
 rw[jY,hlen]at h1
 have e1:(nz ys)[c]'(by rw[jY];lia)=bZ xs.length (λw=>if aM xs w<v then(aj xs).length-v else aM xs w-v) c:=by
  have:=ZS J.at' F2 (c:=c) .c;rw[J.len]at this;rw[<- this];unfold nz;rw[W2,wb,we .c]
  rfl
 rw[e1];rcases wJ c ((aj xs).length-v)with z | z
 ·rw[List.getElem_append_left (by rw[Wg,jY];lia),XS]
  have hg:=zt5 (xs:=xs) (c:=v+c) .c;rw[wb,we (by rw[jY];lia)]at hg;have hg:(nz xs)[v+c]'(by rw[jY];lia)=_:=hg;rw[hg];unfold bZ seg;refine vJ λw hw=>?_
  have:=(mz xs).lt w (wN.mp hw);rw[vI];simp only[vf,decide_eq_true_eq]
  split<;>lia
 ·rw[List.getElem_append_right (by rw[Wg,jY];lia)]
  have hc:c=(aj xs).length-v:=by lia
  simp only[List.getElem_singleton];unfold bZ seg;refine vJ λw hw=>?_
  have:=(mz xs).lt w (wN.mp hw);rw[vI];simp only[vf,decide_eq_true_eq]
  split<;>lia
theorem pe.perm{waves:.be}{v:Nat}(J:pe xs ys waves v):waves.flatten.Perm (seg xs.length .b8 0 v):=by
 obtain⟨ws,e,s⟩:=J.first;rw[e];exact(kT.cons .ab s).perm
theorem pe.more{waves:.be}{v:Nat}(J:pe xs ys waves v):1<waves.length ↔ 1<v:=by
 obtain⟨ws,e,s⟩:=J.first;rw[e];cases s with
 | nil=>simp
 | cons h k=>have:=k.le;simp;lia
theorem sR(F s:Rat):∀n:Nat,aB F s n=aB F 1 n*s
 | 0=>by show(0:Rat)=0*s;rw[Rat.zero_mul]
 | n+1=>by
  show F*aB F s n+s=(F*aB F 1 n+1)*s
  rw[sR F s n]
  grind
theorem zP{k:Nat}{F:Rat}(h:af k F):∀i:Nat,∃T:Int,aB F 1 i=wC T (.bn^i)/\Bd ((k+1)*i+1) T/\Bd (k*i+1) (.bn^i)
 | 0=>⟨0,by simp[aB],⟨by simp⟩,⟨by simp⟩⟩
 | i+1=>by
  obtain⟨T,e,bT,bd⟩:=zP h i;have hd:.bn^i≠0:=qd (iL F);have hd1:.bn^(i+1)≠0:=qd (iL F);have ed:.bn^(i+1)=.bn^i*.bn:=V2 ..
  have bd1:Bd (k*(i+1)+1) (.bn^(i+1)):=by
   rw[ed];exact(bd.mul h.b).mono (by rw[qQ];lia)
  refine⟨F.num*T+.bn^(i+1),?_,?_,bd1⟩
  ·symm
   refine gr hd1 ?_
   show(F*aB F 1 i+1)*_=_
   rw[e];have k1:=dG T hd;have k2:=ku F
   have e1:((F.num*T+.bn^(i+1):Int):Rat)=(F.num:Rat)*(T:Rat)+((.bn^(i+1):Int):Rat):=by
    rw[VG,vY]
   rw[e1,<- k1,<- k2,ed,vY];generalize ((.bn^i:Int):Rat)=D;generalize (.bn:Rat)=d;generalize wC T (.bn^i)=y
   grind
  ·have h1:(k+1)*(i+1)=(k+1)*i+(k+1):=qQ ..
   have h2:k*(i+1)<=(k+1)*i+k:=by rw[qQ];have:=Wb i (show k<=k+1 by lia);lia
   exact((h.t.mul bT).add bd1).mono .c
theorem Rn{F:Rat}(h:af k F)(i:Nat):af ((k+1)*i+1) (aB F 1 i):=by
 obtain⟨T,e,bT,bd⟩:=zP h i;rw[e];exact af.divInt (qd (iL F)) bT (bd.mono (by have:=Wb i (show k<=k+1 by lia);lia))
def fR(F s:Rat)(n:Nat)(x:Rat):Rat:=F^n*x+aB F 1 n*s
theorem nR(F s:Rat)(n:Nat)(x:Rat):fR F s n x=push F s n x:=by
 unfold fR;rw[je,<- sR]
theorem zAL(F s:Rat)(m n:Nat)(x:Rat):fR F s (m+n) x=fR F s n (fR F s m x):=by
 rw[nR,nR,nR,zBo]
theorem zzU(F s x:Rat):fR F s 0 x=x:=by rw[nR];rfl
theorem Ig(F s x:Rat):fR F s 1 x=F*x+s:=by rw[nR];rfl
theorem Jw(n:Nat):aB 1 1 n=.aM:=by
 induction n with
 | zero=>rfl
 | succ n ih =>
  have e:(((n+1:Nat):Int):Rat)=.aM+1:=by push_cast;rfl
  show 1*aB 1 1 n+1=_
  rw[ih,e];grind
theorem zyT(s:Rat)(n:Nat)(x:Rat):fR 1 s n x=x+wC ((n:Int)*s.num) (s.den:Int):=by
 unfold fR;rw[one_pow',Jw]
 have:wC ((n:Int)*s.num) (s.den:Int)=.aM*s:=by
  refine gr (iL s) ?_;have:=ku s;rw[vY,<- this]
  grind
 rw[this];grind
theorem Ek{F s r:Rat}(h:r*(1-F)=s):∀k:Nat,aB F s k=r-F^k*r
 | 0=>by rw[Vz,Ql];show(0:Rat)=r-r;grind
 | k+1=>by
  show F*aB F s k+s=_
  rw[Ek h k,WV]
  grind
theorem UX{F s r:Rat}(h:r*(1-F)=s)(n:Nat)(x:Rat):fR F s n x=r+F^n*(x-r):=by
 unfold fR;rw[<- sR,Ek h]
 grind
theorem Cm.OO(c:Cm m (h::xs))(ba:af 10 a)(bb:af 10 b)(n i:Nat):Cm (m+2+21*n) ((h+(1-xs.getD i 0))::eS a b n xs i):=by
 obtain⟨B,h0,h1,h2⟩:=c
 have hz:∃z:Int,xs.getD i 0=wC z B/\Bd m z:=by
  rcases wJ i xs.length with q | q
  ·rw[wb,we q]
   exact h2 _ (wH _ (vF q))
  ·rw[wb,wQ q]
   exact⟨0,by simp,⟨by simp;exact Wz m⟩⟩
 obtain⟨z,ez,hz⟩:=hz;have key:=λ(t:Int)(ht:Bd m t)=>yn ba bb h0 (show Bd (m+2) (t+B-z)from((ht.add h1).sub hz).mono .c) (h1.mono .c) n
 have e2:∀t:Int,wC t B+(1-xs.getD i 0)=wC (t+B-z) B:=λt=>by
  rw[ez]
  symm
  refine gr .c ?_;have q1:=dG t (show B≠0 by lia);have q2:=dG z (show B≠0 by lia);have q3:((t+B-z:Int):Rat)=(t:Rat)+(B:Rat)-(z:Rat):=by push_cast;rfl
  rw[q3,<- q1,<- q2]
  grind
 obtain⟨p1,p2,_⟩:=key 0 ⟨by simp;exact Wz m⟩;refine⟨_,p1,p2,λx hx=>?_⟩;rcases wO.mp hx with rfl | hx
 ·obtain⟨t,et,ht⟩:=h2 h .bH
  have hd:(0:Int)<(.E*.bc)^n:=X4 (Wj (den_pos a) (den_pos b));refine⟨(t+B-z)*(.E*.bc)^n,?_,AS ba bb (((ht.add h1).sub hz).mono .c) n⟩;rw[et,e2 t];exact sS h0 hd
 ·have hx':x=0 \/ ∃y∈xs,x=push a b n (y+(1-xs.getD i 0)):=by
   unfold eS at hx;rcases VU hx with q | q
   ·obtain⟨y,hy,rfl⟩:=wW.mp q
    exact .inr ⟨y,hy,rfl⟩
   ·exact .inl q
  rcases hx' with rfl | ⟨y,hy,rfl⟩
  ·exact⟨0,by simp,⟨by simp;exact Wz _⟩⟩
  ·obtain⟨t,rfl,ht⟩:=h2 y (wH _ hy)
   obtain⟨_,_,T,e,hT⟩:=key t ht;rw[e2 t];exact⟨T,e,hT⟩
theorem Cm.zB{m:Nat}{xs:.a}{a b:Rat}{ns:.p}(c:.bM)(ba:af 10 a)(bb:af 10 b):∀k,k<=ns.length->Cm (m+2*k+21*upTo ns k) (d5 a b ns xs k::aQ a b ns xs k)
 | 0,_=>(c.mono .c).hJ λy hy=>by
  rcases wO.mp hy with rfl | hy
  ·exact .inr rfl
  ·exact .inl hy
 | k+1,hk=>by
  have:=(Cm.zB c ba bb (ns:=ns) k .c).OO ba bb (ns.getD k 0).toNat k;rw[aQ,d5];refine this.mono ?_;rw[pU .c]
  lia
def d9(c:Rat)(xs ys:.a):List Rat:=List.zipWith (λx y=>x+c*(y-x)) xs ys
theorem l_{c:Rat}(h:.ag):(d9 c xs ys).length=xs.length:=by unfold d9;rw[Xj];lia
theorem jQ{c:Rat}(h:.ag)(hi:.cp):(d9 c xs ys).getD i 0=xs.getD i 0+c*(ys.getD i 0-xs.getD i 0):=by
 unfold d9;rw[wb,we (by rw[Xj];lia),List.getElem_zipWith,wb,we hi,wb,we .c]
 rfl
theorem jd(hl:.ag)(h:∀i,i<xs.length->xs.getD i 0=ys.getD i 0):xs=ys:=WS hl λi h1 h2=>by
 have:=h i h1;rw[wb,wb,we h1,we h2]at this;exact this
theorem zA6(a b:Rat)(n:Nat)(c:Rat)(h:.ag)(hi:.cp):eS a b n (d9 c xs ys) i=d9 c (eS a b n xs i) (eS a b n ys i):=by
 have hl:=l_ (c:=c) h;refine jd (by rw[jT,hl,l_ (by rw[jT,jT];exact h),jT]) λj hj=>?_
 rw[jT,hl]at hj;have hg:=jQ (c:=c) (xs:=eS a b n xs i) (ys:=eS a b n ys i) (by rw[jT,jT];exact h) (i:=j) (by rw[jT];exact hj);rw[hg,ja _ _ _ _ _ _ .c,ja _ _ _ _ _ _ hj,ja _ _ _ _ _ _ (show j<ys.length by lia)]
 by_cases z:j=i
 ·rw[if_pos z,if_pos z,if_pos z];grind
 ·rw[if_neg z,if_neg z,if_neg z,jQ h hj,jQ h hi,je,je,je]
  grind
theorem G7(a b:Rat)(ns:.p)(c:Rat){xs ys:.a}(h:.ag):∀k,k<=xs.length->aQ a b ns (d9 c xs ys) k=d9 c (aQ a b ns xs k) (aQ a b ns ys k)
 | 0,_=>rfl
 | k+1,hk=>by
  have ih:=G7 a b ns c h k .c;rw[aQ,ih,aQ,aQ];exact zA6 a b _ c (by rw[dP,dP];exact h) (by rw[dP];lia)
theorem U0(a b:Rat)(ns:.p)(c:Rat){xs ys:.a}(h:.ag):∀k,k<=xs.length->d5 a b ns (d9 c xs ys) k=d5 a b ns xs k+c*(d5 a b ns ys k-d5 a b ns xs k)
 | 0,_=>by show(0:Rat)=0+c*(0-0);grind
 | k+1,hk=>by
  rw[d5,d5,d5,U0 a b ns c h k .c,G7 a b ns c h k .c,jQ (by rw[dP,dP];exact h) (by rw[dP];lia)]
  grind
theorem Gz(c:Rat)(h:.ag):d9 c .aV (ys++[0])=d9 c xs ys++[0]:=by
 unfold d9;rw[List.zipWith_append h]
 show _++[0+c*(0-0)]=_
 congr 2
 grind
def c8(a b:Rat)(ns:.p)(xs:.a):Rat:=d5 a b ns .aV ns.length
theorem Hi(c:Rat)(hn:.D)(h:.ag):c8 a b ns (d9 c xs ys)=c8 a b ns xs+c*(c8 a b ns ys-c8 a b ns xs):=by
 unfold c8;rw[<- Gz c h];exact U0 a b ns c (by simp[h]) _ .aw
def sumTo(f:Nat->Rat):Nat->Rat
 | 0=>0
 | n+1=>sumTo f n+f n
theorem oS{f g:Nat->Rat} : ∀n,(∀k,k<n->f k=g k)->sumTo f n=sumTo g n
 | 0,_=>rfl
 | n+1,h=>by rw[sumTo,sumTo,oS n λk hk=>h k .c,h n .c]
theorem An(c:Rat)(f:Nat->Rat):∀n,sumTo (λk=>c*f k) n=c*sumTo f n
 | 0=>by show(0:Rat)=c*0;grind
 | n+1=>by rw[sumTo,sumTo,An c f n];grind
theorem GP(f g:Nat->Rat):∀n,sumTo (λk=>f k+g k) n=sumTo f n+sumTo g n
 | 0=>by show(0:Rat)=0+0;grind
 | n+1=>by rw[sumTo,sumTo,sumTo,GP f g n];grind
theorem Zo(c:Rat):∀n:Nat,sumTo (λ_=>c) n=.aM*c
 | 0=>by show(0:Rat)=((0:Int):Rat)*c;grind
 | n+1=>by
  have e:(((n+1:Nat):Int):Rat)=.aM+1:=by push_cast;rfl
  rw[sumTo,Zo c n,e];grind
theorem Hy(F:Rat):∀n,sumTo (λk=>F^k) n=aB F 1 n
 | 0=>rfl
 | n+1=>by
  rw[sumTo,Hy F n]
  have:∀m,aB F 1 m*F+1=aB F 1 m+F^m:=λm=>by
   induction m with
   | zero=>rw[Vz];show(0:Rat)*F+1=0+1;grind
   | succ m ih =>
    show(F*aB F 1 m+1)*F+1=(F*aB F 1 m+1)+F^(m+1)
    rw[WV]
    grind
  have:=this n
  show aB F 1 n+F^n=F*aB F 1 n+1
  grind
theorem zpU{a b:Rat}{ns:.p}{L:Nat}(hn:ns.length=L+1)(X:Nat->List Rat)(hX:∀k,(X k).length=L):∀(n:Nat)(M:.a),1<=n->M.length=L->(∀i,i<L->M.getD i 0*.aM=sumTo (λk=>(X k).getD i 0) n)->.aM*c8 a b ns M=sumTo (λk=>c8 a b ns (X k)) n
 | 0,M,h,_,_=>by lia
 | n+1,M,_,hM,hs=>by
  have en:(((n+1:Nat):Int):Rat)=.aM+1:=by push_cast;rfl
  by_cases z:n=0
  ·subst z
   have e1:(((0+1:Nat):Int):Rat)=1:=by decide
   have:M=X 0:=jd (by rw[hM,hX]) λi hi=>by
    have:=hs i .c;rw[e1]at this;have e2:sumTo (λk=>(X k).getD i 0) (0+1)=(X 0).getD i 0:=by rw[sumTo,sumTo];grind
    rw[e2]at this
    grind
   rw[this,e1]
   show 1*c8 a b ns (X 0)=0+c8 a b ns (X 0)
   grind
  ·have hn0:.aM≠0:=λe=>z (by have:=Vm.mp e;lia)
   have hn1:.aM+1≠0:=λe=>by
    rw[<- en]at e;have:=Vm.mp e
    lia
   let M':List Rat:=(wr L).map λi=>sumTo (λk=>(X k).getD i 0) n / .aM
   have hl':M'.length=L:=by simp[M']
   have g':∀i,i<L->M'.getD i 0=sumTo (λk=>(X k).getD i 0) n / .aM:=λi hi=>by
    show((wr L).map λi=>sumTo (λk=>(X k).getD i 0) n / .aM).getD i 0=_
    rw[wb,wA,vZ hi];rfl
   have ih:=zpU (a:=a) (b:=b) hn X hX n M' .c hl' λi hi=>by rw[g' i hi];exact WG hn0
   have eM:M=d9 (1 / (.aM+1)) M' (X n):=jd (by rw[hM,l_ (by rw[hl',hX]),hl']) λi hi=>by
    rw[jQ (by rw[hl',hX]) .c,g' i .c];have h1:=hs i .c;rw[en,sumTo]at h1;generalize sumTo (λk=>(X k).getD i 0) n=S at *;generalize (X n).getD i 0=y at *;generalize M.getD i 0=m at *;generalize .aM=N at *;have k1:S / N*N=S:=WG hn0;have k2:1 / (N+1)*(N+1)=1:=WG hn1;generalize S / N=q at *;generalize 1 / (N+1)=r at *;have:(m-(q+r*(y-q)))*(N+1)=0:=by grind
    rcases Qv.mp this with h | h
    ·grind
    ·exact absurd h hn1
   rw[eM,Hi _ .c (by rw[hl',hX]),sumTo,<- ih,en];generalize c8 a b ns M'=A;generalize c8 a b ns (X n)=B;generalize .aM=N at *;have k2:1 / (N+1)*(N+1)=1:=WG hn1;generalize 1 / (N+1)=r at *
   grind
end GM
namespace L2
open PySem PySem.Spec PyProof.Rows GM
section
variable{K:wa}{H H' H2:Hp}{a p:wf}{xs ys:.x}{o:HO}
theorem au.upd(h:H p=none):au H (upd H p o):=λb u e=>by
 rw[fP (mw e h)];exact e
theorem au.kY(s:au H H')(h:a_ K H a xs):a_ K H' a xs:=by
 rcases h with(h | ⟨o,h⟩) | h
 ·exact .inl (.inl (s _ _ h))
 ·exact .inl (.inr ⟨o,s _ _ h⟩)
 ·exact .inr h
structure aW(H H':Hp):Prop where
 t:∀b xs,H b=some (.tup xs)->H' b=some (.tup xs)
 f:∀b o u,H b=some (.jb o u)->H' b=some (.jb o u)
theorem au.keep(s:au H H'):aW H H':=⟨λb xs h=>s _ _ h,λb o u h=>s _ _ h⟩
theorem aW.refl(H:Hp):aW H H:=(au.refl H).keep
theorem aW.trans(a:aW H H')(b:aW H' H2):aW H H2:=⟨λc xs h=>b.t _ _ (a.t _ _ h),λc o u h=>b.f _ _ _ (a.f _ _ _ h)⟩
theorem aW.kY(k:aW H H')(h:a_ K H a xs):a_ K H' a xs:=by
 rcases h with(h | ⟨o,h⟩) | h
 ·exact .inl (.inl (k.t _ _ h))
 ·exact .inl (.inr ⟨o,k.f _ _ _ h⟩)
 ·exact .inr h
def ki(K:wa)(H:Hp)(a:wf)(xs:.x):Prop :=
 (∃o,H a=some (.jb o .b7)) \/
  ∃(o:Obj)(its:.aP)(n:Nat),K.lookup a=some o/\o.cls=.type "list"/\o.dict=none/\o.data=.seq its n/\its.size<=vn/\aZ xs its.toList
theorem ki.sq(h:ki K H a xs):aF K H a xs:=by
 rcases h with⟨o,h⟩ | h
 ·exact .inl (.inr ⟨o,h⟩)
 ·exact .inr h
theorem aW.He(k:aW H H')(h:ki K H a xs):ki K H' a xs:=by
 rcases h with⟨o,h⟩ | h
 ·exact .inl ⟨o,k.f _ _ _ h⟩
 ·exact .inr h
def Exc(p:wf)(H H':Hp):Prop:=∀b o,b≠p->H b=some o->H' b=some o
theorem Exc.keep(e:Exc p H H')(h:H p=some .b7):aW H H' :=
 ⟨λb ys hb=>e b _ (zEm hb h (by intro z;cases z)) hb,λb o u hb=>e b _ (zEm hb h (by intro z;cases z)) hb⟩
theorem au.exc(s:au H H'):Exc p H H':=λb o _ h=>s b o h
theorem Exc.refl(p:wf)(H:Hp):Exc p H H:=λ_ _ _ h=>h
theorem Exc.trans(a:Exc p H H')(b:Exc p H' H2):Exc p H H2:=λc o n h=>b c o n (a c o n h)
theorem Exc.upd(p:wf)(H:Hp)(o:HO):Exc p H (upd H p o):=λb u n h=>by
 rw[fP n];exact h
theorem Exc.at(e:Exc p H H'){q:wf}{u:HO}(n:q≠p)(h:H q=some u):H' q=some u:=e q u n h
end
mutual
def Is(K:wa)(H:Hp):V->wF->Prop
 | v,.none=>v=.bX
 | v,.bool b=>v=.bl b
 | v,.int i=>v=.int i
 | v,.str x=>v=.str x
 | v,.tuple ds=>∃a xs,v=.ref a/\a_ K H a xs/\ah K H xs ds
 | v,.list ds=>∃a xs,v=.ref a/\aF K H a xs/\ah K H xs ds
 | v,.dict _=>∃a kvs,v=.ref a/\H a=some (.dK kvs)
def ah(K:wa)(H:Hp):List V->List wF->Prop
 | xs,[]=>xs=[]
 | xs,d::ds=>∃x r,xs=x::r/\Is K H x d/\ah K H r ds
end
section
variable{K:wa}{H H':Hp}{v:V}{xs:.x}{ds:.bP}{d:wF}
theorem cj{i:Int} : Is K H v (.int i) ↔ v=.int i:=by rw[Is]
theorem mh{b:Bool} : Is K H v (.bool b) ↔ v=.bl b:=by rw[Is]
theorem cN{x:Str} : Is K H v (.str x) ↔ v=.str x:=by rw[Is]
theorem nT:Is K H v .none ↔ v=.bX:=by rw[Is]
theorem cA:Is K H v .aH ↔ ∃a xs,v=.ref a/\a_ K H a xs/\ah K H xs ds:=by rw[Is]
theorem bY:Is K H v .cq ↔ ∃a xs,v=.ref a/\aF K H a xs/\ah K H xs ds:=by rw[Is]
theorem B0{kv:List (wF × wF)} : Is K H v (.dict kv) ↔ ∃a kvs,v=.ref a/\H a=some (.dK kvs):=by rw[Is]
theorem fO:ah K H xs [] ↔ xs=[]:=by rw[ah]
theorem cP:ah K H xs (d::ds) ↔ ∃x r,xs=x::r/\Is K H x d/\ah K H r ds:=by rw[ah]
theorem ah.cons(h:.bA)(t:ah K H xs ds):ah K H (v::xs) (d::ds):=cP.mpr ⟨v,xs,rfl,h,t⟩
theorem ah.nil:ah K H [] []:=fO.mpr rfl
theorem ah.length:∀{ds:.bP}{xs:.x},ah K H xs ds->xs.length=ds.length
 | [],_,h=>by rw[fO.mp h];rfl
 | d::ds,_,h=>by
  obtain⟨x,r,rfl,_,t⟩:=cP.mp h;rw[Wi,Wi,ah.length t]
theorem ah.get:∀{ds:.bP}{xs:.x}{i:Nat}{d:wF},ah K H xs ds->ds[i]? = some d->∃x,xs[i]? = some x/\Is K H x d
 | [],_,_,_,_,e=>by simp at e
 | d::ds,_,0,_,h,e=>by
  obtain⟨x,r,rfl,q,_⟩:=cP.mp h;simp at e;subst e;exact⟨x,rfl,q⟩
 | d::ds,_,i+1,d',h,e=>by
  obtain⟨x,r,rfl,_,t⟩:=cP.mp h;obtain⟨y,h1,h2⟩:=ah.get (i:=i) t (by simpa using e);exact⟨y,by simpa using h1,h2⟩
theorem ah.append:∀{ds es:.bP}{xs ys:.x},ah K H xs ds->ah K H ys es->ah K H (xs++ys) (ds++es)
 | [],_,_,_,h,t=>by rw[fO.mp h];exact t
 | d::ds,_,_,_,h,t=>by
  obtain⟨x,r,rfl,q,u⟩:=cP.mp h;exact .cons q (ah.append u t)
mutual
theorem Is.same(s:au H H'):∀(d:wF)(v:V),Is K H v d->Is K H' v d
 | .none,v,h=>by rw[nT]at h ⊢;exact h
 | .bool _,v,h=>by rw[mh]at h ⊢;exact h
 | .int _,v,h=>by rw[cj]at h ⊢;exact h
 | .str _,v,h=>by rw[cN]at h ⊢;exact h
 | .tuple ds,v,h=>by
  obtain⟨a,xs,e,q,t⟩:=cA.mp h;exact cA.mpr ⟨a,xs,e,s.kY q,ah.same s ds xs t⟩
 | .list ds,v,h=>by
  obtain⟨a,xs,e,q,t⟩:=bY.mp h;exact bY.mpr ⟨a,xs,e,s.seq q,ah.same s ds xs t⟩
 | .dict _,v,h=>by
  obtain⟨a,kvs,e,q⟩:=B0.mp h;exact B0.mpr ⟨a,kvs,e,s _ _ q⟩
theorem ah.same(s:au H H'):∀(ds:.bP)(xs:.x),ah K H xs ds->ah K H' xs ds
 | [],xs,h=>by rw[fO]at h ⊢;exact h
 | d::ds,xs,h=>by
  obtain⟨x,r,e,q,t⟩:=cP.mp h;exact cP.mpr ⟨x,r,e,Is.same s d x q,ah.same s ds r t⟩
end
end
mutual
def c_:wF->Bool
 | .none=>true
 | .bool _=>true
 | .int _=>true
 | .str _=>true
 | .tuple ds=>aT ds
 | .list _=>false
 | .dict _=>false
def aT:List wF->Bool
 | []=>true
 | d::ds=>c_ d&&aT ds
end
section
variable{K:wa}{H H':Hp}
mutual
theorem Is.keep(k:aW H H'):∀(d:wF)(v:V),c_ d=true->Is K H v d->Is K H' v d
 | .none,v,_,h=>by rw[nT]at h ⊢;exact h
 | .bool _,v,_,h=>by rw[mh]at h ⊢;exact h
 | .int _,v,_,h=>by rw[cj]at h ⊢;exact h
 | .str _,v,_,h=>by rw[cN]at h ⊢;exact h
 | .tuple ds,v,i,h=>by
  obtain⟨a,xs,e,q,t⟩:=cA.mp h;exact cA.mpr ⟨a,xs,e,k.kY q,ah.keep k ds xs (by rw[c_]at i;exact i) t⟩
 | .list ds,v,i,h=>by rw[c_]at i;cases i
 | .dict _,v,i,h=>by rw[c_]at i;cases i
theorem ah.keep(k:aW H H'):∀(ds:.bP)(xs:.x),aT ds=true->ah K H xs ds->ah K H' xs ds
 | [],xs,_,h=>by rw[fO]at h ⊢;exact h
 | d::ds,xs,i,h=>by
  obtain⟨x,r,e,q,t⟩:=cP.mp h;rw[aT,vf]at i;exact cP.mpr ⟨x,r,e,Is.keep k d x i.1 q,ah.keep k ds r i.2 t⟩
end
end
def N(r:Rat):wF:=.tuple [.int r.num,.int (r.den:Int)]
theorem ee(r:Rat):c_ (N r)=true:=by simp[N,c_,aT]
section
variable{K:wa}{H H':Hp}{v:V}{r:Rat}
theorem rH:Is K H v (N r) ↔ ∃a,v=.ref a/\a_ K H a [.int r.num,.int (r.den:Int)]:=by
 unfold N;rw[cA]
 constructor
 ·rintro ⟨a,xs,e,q,t⟩
  obtain⟨x,r1,rfl,q1,t⟩:=cP.mp t;obtain⟨y,r2,rfl,q2,t⟩:=cP.mp t;rw[fO.mp t,cj.mp q1,cj.mp q2]at q;exact⟨a,e,q⟩
 ·rintro ⟨a,e,q⟩
  exact⟨a,_,e,q,.cons .bp (.cons .bp .nil)⟩
end
section
variable{X:Cx}{pins:.j}{σ : St}{H:Hp}{s:wq}
mutual
theorem Inv.reads(I:.l):∀(d:wF)(v:V)(u:wo),d.canLay0=true->Is X.K H v d->bW v u->∃as,Reads s.heap u d as
 | .none,v,u,_,h,r=>by
  cases nT.mp h;cases (show u=Value.none from r);exact⟨_,.none⟩
 | .bool b,v,u,_,h,r=>by
  cases mh.mp h;cases (show u=Value.bool b from r);exact⟨_,.bool b⟩
 | .int i,v,u,_,h,r=>by
  cases cj.mp h;obtain⟨t,e⟩:=(show ∃t,u=Value.int i t from r);cases e;exact⟨_,.int i t⟩
 | .str x,v,u,_,h,r=>by
  cases cN.mp h;obtain⟨t,e⟩:=(show ∃t,u=Value.str x t from r);cases e;exact⟨_,.str x t⟩
 | .tuple ds,v,u,c,h,r=>by
  obtain⟨a,xs,e,q,t⟩:=cA.mp h;subst e;cases (show u=Value.ref a from r);obtain⟨its,rv,⟨o,e1,e2,n,e3⟩,_⟩:=I.tuple q;obtain⟨as,ra⟩:=Inv.readsAll I ds xs its (by rw[vD]at c;exact c) t rv;exact⟨_,.tuple e1 e2 e3 (by simpa using ra)⟩
 | .list ds,v,u,c,h,r=>by
  obtain⟨a,xs,e,q,t⟩:=bY.mp h;subst e;cases (show u=Value.ref a from r);obtain⟨its,rv,⟨o,n,e1,e2,_,e3⟩,_⟩:=I.list q;obtain⟨as,ra⟩:=Inv.readsAll I ds xs its (by rw[vD]at c;exact c) t rv;exact⟨_,.list e1 e2 e3 (by simpa using ra)⟩
 | .dict _,v,u,c,h,r=>by rw[vD]at c;cases c
theorem Inv.readsAll(I:.l):∀(ds:.bP)(xs:.x)(us:.Y),vK ds=true->ah X.K H xs ds->aZ xs us->∃as,ReadsAll s.heap us ds as
 | [],xs,us,_,h,r=>by
  rw[fO.mp h]at r;cases r;exact⟨_,.nil⟩
 | d::ds,xs,us,c,h,r=>by
  obtain⟨x,l,e,q,t⟩:=cP.mp h;subst e;rw[vK,vf]at c;cases r with
  | cons r1 r2 =>
   obtain⟨as,h1⟩:=Inv.reads I d x _ c.1 q r1;obtain⟨bs,h2⟩:=Inv.readsAll I ds l _ c.2 t r2;exact⟨_,.cons h1 h2⟩
end
end
section
variable{X:Cx}
open PySem.SeqAt (shaped)
variable{K:wa}
def jo(K:wa):R2:=λx y H Q=>∃d e,Is K H x d/\Is K H y e/\shaped d=true/\shaped e=true/\Q (.bl (wP d e)) H
def md(K:wa):R2:=λx y H Q=>∃d e,Is K H x d/\Is K H y e/\shaped d=true/\shaped e=true/\Q (.bl (!PyData.eqv d e)) H
theorem zz9(hu:X.A.units+64<WW):bV X (vR .Eq) (jo X.K):=by
 intro pins s σ H x y v u Q I rx ry h;obtain⟨d,e,hd,he,sd,se,q⟩:=h;obtain⟨as,h1⟩:=I.reads d x v (Vr sd) hd rx;obtain⟨bs,h2⟩:=I.reads e y u (Vr se) he ry;exact eq_dataH h1 h2 sd se hu ⟨.bl _,H,I,rfl,q⟩
theorem zFl(hu:X.A.units+64<WW):bV X (vR .NotEq) (md X.K):=by
 intro pins s σ H x y v u Q I rx ry h;obtain⟨d,e,hd,he,sd,se,q⟩:=h;obtain⟨as,h1⟩:=I.reads d x v (Vr sd) hd rx;obtain⟨bs,h2⟩:=I.reads e y u (Vr se) he ry;exact ne_dataH h1 h2 sd se hu ⟨.bl _,H,I,rfl,q⟩
theorem bW.aar{x:V}{v:wo}(r:bW x v)(c:Bool):(v == Value.bool c)=decide (x=.bl c):=by
 cases x with
 | bX=>cases (show v=Value.none from r);rfl
 | bl b=>cases (show v=Value.bool b from r);cases b<;>cases c<;>rfl
 | int _=>obtain⟨t,rfl⟩:=r;rfl
 | str _=>obtain⟨t,rfl⟩:=r;rfl
 | byt _=>obtain⟨t,rfl⟩:=r;rfl
 | flt _=>obtain⟨t,rfl⟩:=r;rfl
 | ref _=>cases r;rfl
 | ty _=>cases r;rfl
theorem bW.aam{x:V}{v:wo}(r:bW x v)(c:Bool):plainIs v (Value.bool c)=true:=by
 cases x with
 | bX=>cases (show v=Value.none from r);rfl
 | bl b=>cases (show v=Value.bool b from r);rfl
 | int _=>obtain⟨t,rfl⟩:=r;rfl
 | str _=>obtain⟨t,rfl⟩:=r;rfl
 | byt _=>obtain⟨t,rfl⟩:=r;rfl
 | flt _=>obtain⟨t,rfl⟩:=r;rfl
 | ref _=>cases r;rfl
 | ty _=>cases r;rfl
def rIs:R2:=λx y H Q=>(∃c,y=.bl c/\Q (.bl (decide (x=.bl c))) H)\/(y=.bX/\Q (.bl (decide (x=.bX))) H)
theorem tY :bV X (vR .Is) rIs:=by
 intro pins s σ H x y v u Q I rx ry h;rcases h with⟨c,e,q⟩ | h
 ·subst e
  cases (show u=Value.bool c from ry);exact wpAny_is_plain (rx.aam c) (zB9 I q (rx.aar c).symm)
 ·exact zEZ pins s σ H x y v u Q I rx ry h
def kindOf:wF->String
 | .none=>"NoneType"
 | .bool _=>"bool"
 | .int _=>"int"
 | .str _=>"str"
 | .tuple _=>"tuple"
 | .list _=>"list"
 | .dict _=>"dict"
def fU(K:wa):List V->Hp->VK->Prop:=λxs H Q=>∃x T d b,xs=[x,.ty T]/\Is K H x d/\VX K (.type (kindOf d)) (.type T)=some b/\Q (.bl b) H
theorem k8 :bN X .ao (fU X.K):=by
 intro pins s σ H xs us Q I r h;obtain⟨x,T,d,b,rfl,hd,e,q⟩:=h;obtain⟨u,w',rfl,rx,rt⟩:=nj r;cases (show w'=Value.type T from rt);have fin:∀tk,EP X pins σ Q (.bool b) {s with toks:=tk}:=λtk=>⟨.bl b,H,I.tok _,rfl,q⟩
 cases d with
 | none =>
  cases nT.mp hd;cases (show u=Value.none from rx);exact VH XT I.eU True.intro e .bY fin
 | bool y =>
  cases mh.mp hd;cases (show u=Value.bool y from rx);exact VH XU I.eU True.intro e .bY fin
 | int i =>
  cases cj.mp hd;obtain⟨t,q⟩:=(show ∃t,u=Value.int i t from rx);cases q;exact VH ui I.eU True.intro e .bY fin
 | str y =>
  cases cN.mp hd;obtain⟨t,q⟩:=(show ∃t,u=Value.str y t from rx);cases q;exact VH uj I.eU True.intro e .bY fin
 | tuple ds =>
  obtain⟨a,xs,e1,hq,_⟩:=cA.mp hd;subst e1;cases (show u=Value.ref a from rx);obtain⟨its,_,⟨o,h1,h2,_⟩,_⟩:=I.tuple hq;exact VH XA I.eU ⟨o,h1,h2⟩ e .bY fin
 | list ds =>
  obtain⟨a,xs,e1,hq,_⟩:=bY.mp hd;subst e1;cases (show u=Value.ref a from rx);obtain⟨its,_,⟨o,n,h1,h2,_⟩,_⟩:=I.list hq;exact VH XV I.eU ⟨o,h1,h2⟩ e .bY fin
 | dict kv =>
  obtain⟨a,kvs,e1,hq⟩:=B0.mp hd;subst e1;cases (show u=Value.ref a from rx);obtain⟨_,_,vs,_,o,es,ep,h1,h2,_⟩:=(show eZ X.prog X.w H s.heap a (.dK kvs)from I.aR a _ hq);exact VH XW I.eU ⟨o,h1,h2.1⟩ e .bY fin
def isA(T:.am)(d:wF):Bool:=(kindOf d == T) || (kindOf d == "bool"&&T == "int")
theorem zCD(d:wF):VX K (.type (kindOf d)) (.type "int")=some (isA "int" d):=by cases d<;>rfl
theorem zBX(d:wF):VX K (.type (kindOf d)) (.type "bool")=some (isA "bool" d):=by cases d<;>rfl
theorem zyW(d:wF):VX K (.type (kindOf d)) (.type "tuple")=some (isA "tuple" d):=by cases d<;>rfl
theorem zBN(d:wF):VX K (.type (kindOf d)) (.type "list")=some (isA "list" d):=by cases d<;>rfl
theorem zCP(d:wF):VX K (.type (kindOf d)) (.type "str")=some (isA "str" d):=by cases d<;>rfl
theorem aaE{m n:Nat}{i j:Int}(h:Bd m i)(k:Bd n j)(hm:m<=1000000)(hn:n<=1000000):IntMulOk i j:=by
 have f:∀{m:Nat}{i:Int},Bd m i->m<=1000000->Xk i<=2^20:=by
  intro m i h hm;have e:(2:Nat)^20=1048576:=by decide
  have l:=(h.mono (Nat.le_succ m)).log (Nat.succ_pos m);unfold Xk
  split<;>lia
 exact .of_bits (f h hm) (f k hn)
theorem de :bV X (WE .Mult) (rI IntMulOk λi j=>.int (i*j)):=HY λ_ _ _ _ _ _ _ hc q=>mul_int q hc
def rC(_ j:Int):Prop:=j≠0/\Bd 179980 j
theorem Inv.pyl{pins:.j}{σ : St}{H:Hp}{s:wq}(I:.l)(ht:X.prog.given.tree=none){k:Nat}(hr:eY k X.A)(hst:∃e l,X.stack=e::l):uk .m X.A s:=by
 obtain⟨e,l,he⟩:=hst;have hf:X.A.frames=some (e::l):=by rw[<- he];exact I.ok.frames
 obtain⟨g1,g2,g3,g4⟩:=hr.fr e l hf;exact uk.of I.nolimit (by have:=hr.dp;show X.A.depth+100<_;lia) (PySem.SeerAt.of (I.ok.mod.seer.keeps I.bk) ht hf g1 g2 g3 g4)
theorem gh(ht:X.prog.given.tree=none){k:Nat}(hr:eY k X.A)(hst:∃e l,X.stack=e::l):bV X (WE .FloorDiv) (rI rC λi j=>.int (i.fdiv j)):=by
 intro pins s σ H x y v u Q I rx ry h;obtain⟨i,j,rfl,rfl,hc,q⟩:=h;obtain⟨t,rfl⟩:=rx;obtain⟨t',rfl⟩:=ry;exact floordiv_int hc.1 ⟨.int (i.fdiv j),H,I.tok _,⟨_,rfl⟩,q⟩ (.inr (I.pyl ht hr hst))
theorem zCJ :bV X (WE .Add) (λx y H Q=>(kA λi j=>.int (i+j)) x y H Q\/(KW x y H Q \/ ∃i j,x=.str i/\y=.str j/\i.length+j.length<=vn/\Q (.str (i++j)) H)):=zEB.or (zEw.or zwo)
end
theorem zFT:vX "len"=some (.builtin "len"):=by decide +kernel
theorem oV:vX "abs"=some (.builtin "abs"):=by decide +kernel
theorem ko:vX "isinstance"=some .ao:=by decide +kernel
theorem zBc:vX "int"=some (.type "int"):=by decide +kernel
theorem zxM:vX "bool"=some (.type "bool"):=by decide +kernel
theorem zFW:vX "str"=some (.type "str"):=by decide +kernel
theorem oD:vX "tuple"=some (.type "tuple"):=by decide +kernel
theorem fS:vX "list"=some (.type "list"):=by decide +kernel
def oE(K:wa)(xs:.x)(H:Hp)(Q:VK):Prop:=xs.length<=vn /\ ∀p,H p=none->Q .ay (upd H p (.tup xs))
def Gs(K:wa)(xs:.x)(H:Hp)(Q:VK):Prop:=xs.length<=vn /\ ∀p,H p=none->Q .ay (upd H p .b7)
def nH(K:wa)(t:TA):TE:=λσ H Q=>t σ H λxs H1=>oE K xs H1 Q
def zD8(K:wa)(t:TA):TE:=λσ H Q=>t σ H λxs H1=>Gs K xs H1 Q
def I0:R2:=λx y H Q=>(kA λi j=>.int (i+j)) x y H Q\/(KW x y H Q \/ ∃i j,x=.str i/\y=.str j/\i.length+j.length<=vn/\Q (.str (i++j)) H)
def SY:List V->Hp->VK->Prop:=λxs H Q=>∃i:Int,xs=[.int i]/\Q (.int (if i<0 then -i else i)) H
def lB(K:wa):List V->Hp->VK->Prop:=λxs H Q=>∃p ys,xs=[.ref p]/\(aF K H p ys\/a_ K H p ys)/\Q (.int ys.length) H
def UK:List V->Hp->VK->Prop:=λxs H Q=>(∃i,xs=[.int i]/\Q (.int i) H) \/ ∃k,xs=[.bl k]/\Q (.int (if k then 1 else 0)) H
section
variable{X:Cx}{e:Expr}{es:.aG}{te:TE}{t:TA}{pos:Pos}
theorem aU{x1}(h:PA X es t):PE X (.Tuple es x1 pos) (nH X.K t):=zFV h
theorem cZ(h:PA X es t):PE X (.List es pos) (zD8 X.K t):=zE5 h
theorem cv:bV X (WE .Add) I0:=zCJ
theorem oR:bN X (.builtin "abs") SY:=zAR
theorem zzc:bN X (.builtin "len") (lB X.K):=ztB
theorem zze:bN X (.type "int") UK:=zzm
theorem oQ{x:Str}{i:Int}{pos:Pos}(hg:Gl X x)(hm:∃t,X.mg x=some (.int i t))(hd:.ai=false:=by decide):PE X (.Name x pos) (tC (.int i)):=by
 obtain⟨t,hm⟩:=hm;exact cJ hg hm ⟨t,rfl⟩ hd
end
section
variable{K:wa}{σ : St}{H H':Hp}{Q:VK}{QA:List V->Hp->Prop}{QB:Bool->Hp->Prop}{QS:St->Hp->Prop}{QH:Hp->Prop}{D:df}{ta tb te:TE}{tt tu:TT}{t tr:TA}{s1 s2:TS}{g:TG}{gs:mq}{r:R2}{v w:V}{xs ys:.x}{i:Nat}{m n:Int}
variable{j:Nat}{p:wf}{b:Bool}{ds:.bP}{A B:Prop}
theorem zES(h : σ[i]? = some (some v))(q:Q v H):jM i σ H Q:=nVo h q
theorem zGU(q:Q v H):tC v σ H Q:=q
theorem zGq(h:ta σ H λx H1=>tb σ H1 λy H2=>r x y H2 Q):kg r ta tb σ H Q:=h
theorem dq15{u:V->Hp->VK->Prop}:(Zj u ta σ H Q)=(ta σ H λx H1=>u x H1 Q):=rfl
theorem zF7{u:V->Hp->VK->Prop}(h:ta σ H λx H1=>u x H1 Q):Zj u ta σ H Q:=h
theorem zFM(h:t σ H λxs H1=>oE K xs H1 Q):nH K t σ H Q:=h
theorem dq14:(zD8 K t σ H Q)=(t σ H λxs H1=>Gs K xs H1 Q):=rfl
theorem zET(h:t σ H λxs H1=>Gs K xs H1 Q):zD8 K t σ H Q:=h
theorem zEF(q:QA [] H):sD σ H QA:=q
theorem zC4(h:te σ H λx H1=>tr σ H1 λxs H2=>QA (x::xs) H2):mi te tr σ H QA:=h
theorem zCB{sp:Sp}{E:XK}(h:t σ H λvs H1=>sp vs H1 Q E):yh sp [] E t σ H Q:=by
 simpa only[yh,Wh] using h
theorem dq13{u:List V->Hp->VK->Prop}:(tX u t σ H Q)=(t σ H λvs H1=>u vs H1 Q):=rfl
theorem zGK{u:List V->Hp->VK->Prop}(h:t σ H λvs H1=>u vs H1 Q):tX u t σ H Q:=h
theorem zDr(h:te σ H λx H'=>∃k,x=.bl k/\QB k H'):yP te σ H QB:=h
theorem dq12:(tB te σ H QB)=(te σ H λx H'=>∃k,x=.bl k/\QB k H'):=rfl
theorem zGw(h:te σ H λx H'=>∃k,x=.bl k/\QB k H'):tB te σ H QB:=h
theorem zE1(h:tt σ H λc H1=>if c=true then tu σ H1 QB else QB false H1):Pn tt tu σ H QB:=h
theorem zGj(h:tt σ H λc H1=>if c=true then QB true H1 else tu σ H1 QB):tOr tt tu σ H QB:=h
theorem dq16:(ZR tt σ H QB)=(tt σ H λc H1=>QB (!c) H1):=rfl
theorem zFt(h:tt σ H λc H1=>QB (!c) H1):ZR tt σ H QB:=h
theorem zDj(h:ta σ H λx H1=>∃c,x=.bl c/\if c=true then tb σ H1 Q else Q .cn H1):Y3 ta tb σ H Q:=h
theorem dq17:(SE ta σ H Q)=(ta σ H λx H1=>∃c,x=.bl c/\Q (.bl (!c)) H1):=rfl
theorem zC7(h:ta σ H λx H1=>∃c,x=.bl c/\Q (.bl (!c)) H1):SE ta σ H Q:=h
theorem zEv(h:tt σ H λc H1=>if c=true then ta σ H1 Q else tb σ H1 Q):tIf tt ta tb σ H Q:=h
theorem zFA(h:s1 {D with nx:=s2 D} σ H):Ky s1 s2 D σ H:=h
theorem zCj(h:D.nx σ H):Uk D σ H:=h
theorem zFr(h:te σ H D.rt):zGs te D σ H:=h
theorem zEK(h:tt σ H λb H1=>if b=true then s1 D σ H1 else s2 D σ H1):zGP tt s1 s2 D σ H:=h
theorem zFk(h:te σ H λx H1=>g x σ H1 D.nx):o_ te g D σ H:=h
theorem dq18:(YE te D σ H)=(te σ H λ_ H1=>D.nx σ H1):=rfl
theorem zDp(h:te σ H λ_ H1=>D.nx σ H1):YE te D σ H:=h
theorem dq19:(Pp i j t D σ H)=(t σ H λvs H1=>∃v w,vs=[v,w]/\D.nx ((σ.set i (some v)).set j (some w)) H1):=rfl
theorem zFj(h:t σ H λvs H1=>∃v w,vs=[v,w]/\D.nx ((σ.set i (some v)).set j (some w)) H1):Pp i j t D σ H:=h
theorem zCo(q:QS ((σ.set i (some v)).set j (some w)) H):∃v' w',[v,w]=[v',w']/\QS ((σ.set i (some v')).set j (some w')) H:=⟨v,w,rfl,q⟩
theorem zAm(q:QS (σ.set i (some v)) H):kj i v σ H QS:=q
theorem zDf(q:QS σ H):RN [] σ H QS:=⟨rfl,q⟩
theorem zAt(q:g v σ H λσ' H'=>gs xs σ' H' QS):RP g gs (v::xs) σ H QS:=⟨v,xs,rfl,q⟩
theorem mF{a:wf}{n:Nat}(h:a_ K H a xs)(e:xs.length=n)(q:gs xs σ H QS):m9 K n gs .bu σ H QS:=⟨a,xs,rfl,h,e,q⟩
theorem dq20{tset:Bc}:(YK ta tb tset v σ H QS)=(ta σ H λo H1=>tb σ H1 λi H2=>tset o i v H2 λH3=>QS σ H3):=rfl
theorem zCW{tset:Bc}(h:ta σ H λo H1=>tb σ H1 λi H2=>tset o i v H2 λH3=>QS σ H3):YK ta tb tset v σ H QS:=h
theorem jC{k:Int}(h:H p=some .b7)(e:fZ xs.length k=some j)(q:∀H',Exc p H H'->H' p=some (.lst (xs.set j v))->QH H'):zY .ay (.int k) v H QH :=
 ⟨p,xs,k,j,rfl,rfl,h,e,q _ (Exc.upd p H _) dR⟩
theorem zFE{f:Int->Int->V}(q:Q (f m n) H):kA f .cB (.int n) H Q:=⟨m,n,rfl,rfl,q⟩
theorem t_{C:Int->Int->Prop}{f:Int->Int->V}(c:C m n)(q:Q (f m n) H):rI C f .cB (.int n) H Q:=⟨m,n,rfl,rfl,c,q⟩
theorem zGO{f:Int->V}(q:Q (f m) H):rU f .cB H Q:=⟨m,rfl,q⟩
theorem zC2(q:Q (.int (m+n)) H):I0 .cB (.int n) H Q:=.inl ⟨m,n,rfl,rfl,q⟩
theorem gv{b:wf}(h:H p=some .b7)(k:H b=some .cj)(z:xs.length+ys.length<=vn)
  (q:∀c H',H c=none->au H H'->H' c=some (.lst (xs++ys))->Q (.ref c) H'):I0 .ay (.ref b) H Q :=
 .inr (.inl ⟨p,b,xs,ys,rfl,rfl,h,k,z,λc hc=>q c _ hc (au.upd hc) dR⟩)
theorem zFL(q:Q (.int (if m<0 then -m else m)) H):SY [.int m] H Q:=⟨m,rfl,q⟩
theorem Rw(h:a_ K H p xs)(q:Q (.int xs.length) H):lB K [.ref p] H Q:=⟨p,xs,rfl,.inr h,q⟩
theorem eP(h:aF K H p xs)(q:Q (.int xs.length) H):lB K [.ref p] H Q:=⟨p,xs,rfl,.inl h,q⟩
theorem zDq(q:Q (.int (if b then 1 else 0)) H):UK [.bl b] H Q:=.inr ⟨b,rfl,q⟩
theorem zFB(q:Q (.bl (decide (v=.bX))) H):rIs v .bX H Q:=.inr ⟨rfl,q⟩
theorem zE6(q:Q (.bl (decide (m=n))) H):jo K .cB (.int n) H Q :=
 ⟨.int m,.int n,cj.mpr rfl,cj.mpr rfl,rfl,rfl,by
  have e:wP .cB (.int n)=decide (m=n):=by
   rw[wP,Qs]
  rw[e];exact q⟩
theorem zFI(q:Q (.bl (!decide (m=n))) H):md K .cB (.int n) H Q :=
 ⟨.int m,.int n,cj.mpr rfl,cj.mpr rfl,rfl,rfl,by
  have e:wP .cB (.int n)=decide (m=n):=by
   rw[wP,Qs]
  rw[e];exact q⟩
theorem nu{d e:wF}(h:.bA)(k:Is K H w e)(sd:vM d=true)(se:vM e=true)(q:Q (.bl (wP d e)) H):jo K v w H Q:=⟨d,e,h,k,sd,se,q⟩
theorem yM{d e:wF}(h:.bA)(k:Is K H w e)(sd:vM d=true)(se:vM e=true)(q:Q (.bl (!PyData.eqv d e)) H):md K v w H Q:=⟨d,e,h,k,sd,se,q⟩
theorem tG{T:.am}{d:wF}(h:.bA)(e:VX K (.type (kindOf d)) (.type T)=some (isA T d))(q:Q (.bl (isA T d)) H):fU K [v,.ty T] H Q:=⟨v,T,d,_,rfl,h,e,q⟩
def kD:wF->Bool
 | .tuple _=>true
 | _=>false
def DR:wF->Bool
 | .int _=>true
 | .bool _=>true
 | _=>false
def IJ:wF->Bool
 | .bool _=>true
 | _=>false
def mV:wF->Bool
 | .list _=>true
 | _=>false
def Ie:wF->Bool
 | .str _=>true
 | _=>false
theorem TL{d:wF} : kD d=true ↔ ∃ds,d=.tuple ds:=by cases d<;>simp[kD]
theorem zuK{d:wF}(h:.bA)(q:Q (.bl (kD d)) H):fU K [v,.ty "tuple"] H Q:=tG h (zyW d) (by have e:isA "tuple" d=kD d:=(by cases d<;>rfl);rw[e];exact q)
theorem zBv{d:wF}(h:.bA)(q:Q (.bl (DR d)) H):fU K [v,.ty "int"] H Q:=tG h (zCD d) (by have e:isA "int" d=DR d:=(by cases d<;>rfl);rw[e];exact q)
theorem Z5{d:wF}(h:.bA)(q:Q (.bl (IJ d)) H):fU K [v,.ty "bool"] H Q:=tG h (zBX d) (by have e:isA "bool" d=IJ d:=(by cases d<;>rfl);rw[e];exact q)
theorem zAU{d:wF}(h:.bA)(q:Q (.bl (mV d)) H):fU K [v,.ty "list"] H Q:=tG h (zBN d) (by have e:isA "list" d=mV d:=(by cases d<;>rfl);rw[e];exact q)
theorem zBA{d:wF}(h:.bA)(q:Q (.bl (Ie d)) H):fU K [v,.ty "str"] H Q:=tG h (zCP d) (by have e:isA "str" d=Ie d:=(by cases d<;>rfl);rw[e];exact q)
theorem BA(h:a_ K H p xs)(e:jA xs m=some v)(q:Q v H):dM K .ay .cB H Q:=.inr (.inl ⟨p,xs,m,v,rfl,rfl,h,e,q⟩)
theorem jf(h:aF K H p xs)(e:jA xs m=some v)(q:Q v H):dM K .ay .cB H Q:=.inl ⟨p,xs,m,v,rfl,rfl,h,e,q⟩
theorem zEQ{α : Type}{xs:.cc}(h0:0<=m)(h1:m<xs.length):∃v,jA xs m=some v/\v∈xs:=by
 obtain⟨k,rfl⟩:∃k:Nat,m=(k:Int):=⟨m.toNat,by lia⟩;have l:k<xs.length:=by lia
 exact⟨xs[k],m4 (by simp[l]),vF l⟩
theorem YF(P:V->Prop)(h:aF K H p xs)(h0:0<=m)(h1:m<xs.length)(hP:∀x∈xs,P x)(q:∀x,P x->Q x H):dM K .ay .cB H Q:=by
 obtain⟨x,e,hx⟩:=zEQ h0 h1;exact jf h e (q x (hP x hx))
theorem zDF{r:Rat}(h:Is K H v (N r))(q:Q (.int r.num) H):dM K v (.int 0) H Q:=by
 obtain⟨a,rfl,h'⟩:=rH.mp h;exact BA h' rfl q
theorem zC9{r:Rat}(h:Is K H v (N r))(q:Q (.int (r.den:Int)) H):dM K v (.int 1) H Q:=by
 obtain⟨a,rfl,h'⟩:=rH.mp h;exact BA h' rfl q
theorem aD{d:wF}(h:Is K H v .aH)(e:ds[j]? = some d)(q:∀x,Is K H x d->Q x H):dM K v (.int (j:Int)) H Q:=by
 obtain⟨a,xs,rfl,h,t⟩:=cA.mp h;obtain⟨x,e1,hx⟩:=t.get e;exact BA h (m4 e1) (q x hx)
theorem nS(h:Is K H v .aH)(q:Q (.int ds.length) H):lB K [v] H Q:=by
 obtain⟨a,xs,rfl,h,t⟩:=cA.mp h;exact Rw h (by rw[t.length];exact q)
theorem mY{n:Nat}(h:Is K H v .aH)(e:ds.length=n)(q:∀xs,ah K H xs ds->gs xs σ H QS):m9 K n gs v σ H QS:=by
 obtain⟨a,xs,rfl,h,t⟩:=cA.mp h;exact mF h (by rw[t.length];exact e) (q xs t)
theorem sx{α : Type}{l:.cc}(h:l.length<=1000):l.length<=vn:=WM (iS h)
theorem pP(z:xs.length<=1000)(q:∀p H',H p=none->au H H'->H' p=some (.tup xs)->Q .ay H'):oE K xs H Q:=⟨sx z,λp hp=>q p _ hp (au.upd hp) dR⟩
theorem c9(z:xs.length<=1000)(q:∀p H',H p=none->au H H'->H' p=some .b7->Q .ay H'):Gs K xs H Q:=⟨sx z,λp hp=>q p _ hp (au.upd hp) dR⟩
theorem cW(z:xs.length<=1000)(h:ah K H xs ds)(q:∀v H',au H H'->Is K H' v .aH->Q v H'):oE K xs H Q :=
 pP z λp H' _ s e=>q _ H' s (cA.mpr ⟨p,xs,rfl,.of e,ah.same s ds xs h⟩)
theorem dj{r:Rat}(e1:m=r.num)(e2:n=(r.den:Int))(q:∀v H',au H H'->Is K H' v (N r)->Q v H'):oE K [.int m,.int n] H Q:=by
 subst e1 e2;exact pP (by show 2<=1000;decide) λp H' _ s e=>q _ H' s (rH.mpr ⟨p,rfl,.of e⟩)
theorem zCY{p:Prop}[Decidable p](h1:p->A)(h2:¬ p->B):if decide p=true then A else B:=by
 by_cases h:p
 ·rw[decide_eq_true h,if_pos rfl];exact h1 h
 ·rw[decide_eq_false h,if_neg vU];exact h2 h
theorem zAH{p:Prop}[Decidable p](h1:¬ p->A)(h2:p->B):if(!decide p)=true then A else B:=by
 by_cases h:p
 ·rw[decide_eq_true h];exact rO (h2 h)
 ·rw[decide_eq_false h];exact sy (h1 h)
theorem zC8(h1:b=true->A)(h2:b=false->B):if b=true then A else B:=by
 cases b
 ·exact rO (h2 rfl)
 ·exact sy (h1 rfl)
theorem zBf(h1:b=false->A)(h2:b=true->B):if(!b)=true then A else B:=by
 cases b
 ·exact sy (h1 rfl)
 ·exact rO (h2 rfl)
theorem dq1:(o_ te g D σ H)=(te σ H λx H1=>g x σ H1 D.nx):=rfl
theorem dq2:(zGs te D σ H)=(te σ H D.rt):=rfl
theorem dq3:(zGP tt s1 s2 D σ H)=(tt σ H λb H1=>if b=true then s1 D σ H1 else s2 D σ H1):=rfl
theorem dq4:(kg r ta tb σ H Q)=(ta σ H λx H1=>tb σ H1 λy H2=>r x y H2 Q):=rfl
theorem dq5:(tC v σ H Q)=(Q v H):=rfl
theorem dq6:(mi te tr σ H QA)=(te σ H λx H1=>tr σ H1 λxs H2=>QA (x::xs) H2):=rfl
theorem dq7:(sD σ H QA)=(QA [] H):=rfl
theorem dq8:(yP te σ H QB)=(te σ H λx H'=>∃k,x=.bl k/\QB k H'):=rfl
theorem dq9{sp:Sp}{E:XK}:(yh sp [] E t σ H Q)=(t σ H λvs H1=>sp (vs++[]) H1 Q E):=rfl
theorem dq10:(nH K t σ H Q)=(t σ H λxs H1=>oE K xs H1 Q):=rfl
theorem dq11:(kj i v σ H QS)=(QS (σ.set i (some v)) H):=rfl
theorem dq32:jM i σ H Q=nV1 σ i λv=>Q v H:=rfl
theorem dq33{q:V->Prop}:nV1 (some v::σ) 0 q=q v:=rfl
theorem dq34{q:V->Prop}{o:.bD}:nV1 (o::σ) (j+1) q=nV1 σ j q:=rfl
end
section
variable{c:TT}{tb:TS}{D:df}{σ : St}{H:Hp}
def ixI(σ : St)(i:Nat):Int:=match σ[i]? with
 | some (some (.int y))=>y
 | _=>0
def zCc(Pv:St->Hp->Prop)(μ : St->Nat)(tb:TS)(D:df)(σ':St)(H1:Hp):Prop :=
 ∃M:St->Hp->Prop,(∀σ2 H2,M σ2 H2->∃m',m' < μ σ'/\(m' = μ σ2/\Pv σ2 H2))/\tb {D with nx:=M,ct:=M,bk:=D.nx} σ' H1
theorem zuV(Pv:St->Hp->Prop)(μ : St->Nat)(h0:Pv σ H)
  (hs:∀σ' H',Pv σ' H'->c σ' H' λb H1=>if b=true then zCc Pv μ tb D σ' H1 else D.nx σ' H1):Fo c tb D σ H:=by
 refine⟨λm σ H=>m = μ σ /\ Pv σ H,⟨_,rfl,h0⟩,?_⟩;rintro m σ H ⟨rfl,p⟩;exact hs σ H p
theorem Ut{Pv:St->Hp->Prop}{μ : St->Nat}{σ':St}{H1:Hp}(h:tb {D with nx:=λσ2 H2=>μ σ2 < μ σ'/\Pv σ2 H2,ct:=λσ2 H2=>μ σ2 < μ σ'/\Pv σ2 H2,bk:=D.nx} σ' H1):zCc Pv μ tb D σ' H1 :=
 ⟨_,λσ2 H2 q=>⟨_,q.1,rfl,q.2⟩,h⟩
def US(g:TG)(tb:TS)(D:df)(σ : St)(vs:.x)(H1:Hp):Prop:=∃j:Int,vs=[.int j] /\ -(2^62)<=j/\j<2^62 /\
 ∃W:Nat->Nat->St->Hp->Prop,(∃m,W 0 m σ H1) /\ ∀i m σ H,W i m σ H ->
  ((iY 0 j.toNat).stop i H/\D.nx σ H)\/((iY 0 j.toNat).go i H /\ ∃M:St->Hp->Prop,(∀σ' H',M σ' H'->∃m',m'<m/\W (i+1) m' σ' H') /\ ∀x H',(iY 0 j.toNat).gM i H x H'->g x σ H' λσ2 H2=>tb {D with nx:=M,ct:=M,bk:=D.nx} σ2 H2)
theorem zDz{ta:TA}{g:TG}(h:ta σ H λvs H1=>US g tb D σ vs H1):oy (HU ta) g tb D σ H:=h
theorem jO{g:TG}{n:Int}(h0 : -1000000000<=n)(h1:n<1000000000)(Pv:Nat->St->Hp->Prop)(p:Pv 0 σ H)
  (hs:∀(i:Nat) σ H,i<n.toNat->Pv i σ H->g (.int (i:Int)) σ H λσ2 H2=>tb {D with nx:=Pv (i+1),ct:=Pv (i+1),bk:=D.nx} σ2 H2)
  (hd:∀σ H,Pv n.toNat σ H->D.nx σ H):US g tb D σ [.int n] H:=by
 refine⟨n,rfl,by lia,by lia,RL (lo:=0) Pv p (λi σ H hi q=>?_) hd⟩;have e:(0:Int)+(i:Int)=(i:Int):=by lia
 rw[e];exact hs i σ H hi q
end
def B8(K:wa)(g:TG)(tb:TS)(D:df)(σ : St)(x:V)(H1:Hp):Prop:=∃a,x=.ref a/\(∃xs,aF K H1 a xs) /\
 ∃W:Nat->Nat->St->Hp->Prop,(∃m,W 0 m σ H1) /\ ∀i m σ H,W i m σ H ->
  ((k9 K a).stop i H/\D.nx σ H)\/((k9 K a).go i H /\ ∃M:St->Hp->Prop,(∀σ' H',M σ' H'->∃m',m'<m/\W (i+1) m' σ' H') /\ ∀x H',(k9 K a).gM i H x H'->g x σ H' λσ2 H2=>tb {D with nx:=M,ct:=M,bk:=D.nx} σ2 H2)
def Sx(K:wa)(g:TG)(tb:TS)(D:df)(σ : St)(x:V)(H1:Hp):Prop:=∃a,x=.ref a/\(∃xs,a_ K H1 a xs) /\
 ∃W:Nat->Nat->St->Hp->Prop,(∃m,W 0 m σ H1) /\ ∀i m σ H,W i m σ H ->
  ((kX K a).stop i H/\D.nx σ H)\/((kX K a).go i H /\ ∃M:St->Hp->Prop,(∀σ' H',M σ' H'->∃m',m'<m/\W (i+1) m' σ' H') /\ ∀x H',(kX K a).gM i H x H'->g x σ H' λσ2 H2=>tb {D with nx:=M,ct:=M,bk:=D.nx} σ2 H2)
section
variable{K:wa}{te:TE}{g:TG}{tb:TS}{D:df}{σ : St}{H:Hp}{a:wf}{xs:.x}
theorem zCk(h:te σ H λx H1=>B8 K g tb D σ x H1):oy (F7 K te) g tb D σ H:=h
theorem ow(hx:aF K H a xs)(Pv:Nat->St->Hp->Prop)(h0:Pv 0 σ H)(hl:∀i σ H,i<=xs.length->Pv i σ H->aF K H a xs)
  (hs:∀i x σ H,xs[i]? = some x->Pv i σ H->g x σ H λσ2 H2=>tb {D with nx:=Pv (i+1),ct:=Pv (i+1),bk:=D.nx} σ2 H2) (hd:∀σ H,Pv xs.length σ H->D.nx σ H):B8 K g tb D σ .bu H :=
 ⟨a,rfl,⟨xs,hx⟩,zB0 Pv h0 hl hs hd⟩
theorem Ys(hx:a_ K H a xs)(Pv:Nat->St->Hp->Prop)(h0:Pv 0 σ H)(hl:∀i σ H,i<=xs.length->Pv i σ H->a_ K H a xs)
  (hs:∀i x σ H,xs[i]? = some x->Pv i σ H->g x σ H λσ2 H2=>tb {D with nx:=Pv (i+1),ct:=Pv (i+1),bk:=D.nx} σ2 H2) (hd:∀σ H,Pv xs.length σ H->D.nx σ H):Sx K g tb D σ .bu H :=
 ⟨a,rfl,⟨xs,hx⟩,zDg Pv h0 hl hs hd⟩
end
theorem zE8{K:wa}{H:Hp}{a:wf}{xs:.x}(hO:A8 H)(h:aF K H a xs):ki K H a xs:=by
 rcases h with(h | ⟨o,h⟩) | h
 ·rcases hO a with z | ⟨ob,ys,z⟩
  ·rw[h]at z;cases z
  ·rw[h]at z;cases z
 ·exact .inl ⟨o,h⟩
 ·exact .inr h
theorem Rt{K:wa}{H:Hp}{Q:VK}{a:wf}{ns:.p}{m:Int}(h:ki K H a .aC)(h0:0<=m)(h1:m<((ns.map V.int).length:Int))(q:∀z,Q (.int z) H):dM K .bu .cB H Q:=by
 refine YF (λv=>∃z,v=.int z) h.sq h0 h1 (λx hx=>?_) (λx hx=>?_)
 ·obtain⟨z,_,rfl⟩:=wW.mp hx
  exact⟨z,rfl⟩
 ·obtain⟨z,rfl⟩:=hx
  exact q z
section
variable{K:wa}{H H':Hp}{v:V}{d:wF}{a:wf}{xs:.x}{o:HO}
theorem au.at(s:au H H')(h:H a=some o):H' a=some o:=s _ _ h
theorem au.back{H2:Hp}(b:au H' H2)(s:au H H'):au H H2:=s.trans b
theorem aW.back{H2:Hp}(b:aW H' H2)(s:aW H H'):aW H H2:=s.trans b
theorem Is.by(s:au H H')(h:.bA):Is K H' v d:=Is.same s d v h
theorem Is.aaI(h:.bA)(s:au H H'):Is K H' v d:=Is.same s d v h
theorem Is.aaD{r:Rat}(h:Is K H v (N r))(s:aW H H'):Is K H' v (N r):=Is.keep s _ v (ee r) h
theorem Is.dQ{r:Rat}(s:aW H H')(h:Is K H v (N r)):Is K H' v (N r):=Is.keep s _ v (ee r) h
theorem Is.dw(s:aW H H')(i:c_ d=true)(h:.bA):Is K H' v d:=Is.keep s _ v i h
end
def gG(X:Cx)(N':.U)(scope:Scope)(cl:.bf)(C:wf)(s₀ : wq)(H₀ : Hp)(fp:.bZ)(pins:.j):Cx where
 prog:=X.prog
 w:=X.w
 K:=X.K
 mg:=X.mg
 base:=X.base
 A:=X.A
 N:=N'
 s₀:=s₀
 H₀:=H₀
 env:=compEnvC scope cl C X.env
 outer:=X.stack
 stack:=X.stack
 ex:=fp
 fn:=λ_=>false
 calm:=X.calm
 pn:=X.pn++pins
 xe:=λ_ _=>False
structure Z0(X:Cx)(scope:Scope)(cl:.bf):Prop where
 oj:closureFor scope X.env=pure cl
 sub:∀x c,cl.lookup x=some c->X.env.cells.lookup x=some c
 has:∀x,((relabel scope X.env).names.lookup x=some .cell\/(relabel scope X.env).names.lookup x=some .free)->∃c,cl.lookup x=some c
def eX(src:.S)(σ : St):St:=src.map λo=>match o with
 | none=>none
 | some j=>(σ[j]?).join
def zEr(X:Cx)(N':.U)(src:.S):Prop :=
 N'.length=src.length /\ ∀(i j:Nat)(x:Str),N'[i]? = some x->src[i]? = some (some j)->X.N[j]? = some x/\X.env.scope.names.lookup x=some .cell
section
variable{X:Cx}{pins:.j}{σ : St}{H:Hp}{s:wq}{N':.U}{scope:Scope}{cl:.bf}{src:.S}{fp:.bZ}
theorem Inv.block{h₁ : wS}{tk:Nat}(I:.l)(hk:scope.kind=.function)(cok:Z0 X scope cl)(sok:zEr X N' src)(hf:∀b∈fp,fY X pins H b)(hlt:∀b∈fp,b<s.heap.objs.size)
  (hns:h₁.Ns s.heap.objs.size λ_=>none) (old:∀b o,s.heap.get? b=some o->h₁.get? b=some o)
  (hvis:∀(i:Nat) x,N'[i]? = some x->src[i]? ≠ some none->(relabel scope X.env).names.lookup x=some .cell\/(relabel scope X.env).names.lookup x=some .free) :
  Inv (gG X N' scope cl s.heap.objs.size s H fp pins) [] (eX src σ) H {s with heap:=h₁,toks:=tk}:=by
 have hfr:H s.heap.objs.size=none:=I.aR.fresh .ax
 have nY:∀x c,cl.lookup x=some c->c<s.heap.objs.size:=λx c e=>by
  obtain⟨v,q⟩:=I.cell x c (cok.sub x c e);exact q.lt
 have fplt:∀b∈fp,b ∉ fo X.stack:=λb hb z=>by
  obtain⟨_,f1,f2,_⟩:=hf b hb;exact(wO.mp (I.pG b z)).elim f1 f2
 refine⟨⟨I.ok.mod,?_,I.ok.glob,I.ok.blt,wu _,λx y c h1 h2=>?_,λx hx=>?_,λx c hx=>?_,I.ok.hd,I.ok.frames,.inl rfl,λb hb=>⟨?_,λx c e=>?_⟩,I.bs,Wt I.ok.kc I.sz,λb o e=>?_,fplt,I.stack,I.zt⟩,
  rfl,I.bare,Un.kept old,⟨_,hns,λi x v h1 h2 h3=>?_⟩,λx c e=>?_,hfr,λx c e=>?_,λp hp=>?_,I.aR.kept old,?_⟩
 ·show(relabel scope X.env).kind=.function
  exact hk
 ·exact I.ok.inj x y c (cok.sub x c h1) (cok.sub y c h2)
 ·exact cok.has x hx
 ·exact absurd (show false=true from hx) vU
 ·exact w8 (hlt b hb)
 ·exact(hf b hb).2.2.2.2.1 x c (cok.sub x c e)
 ·intro hb
  obtain⟨_,_,_,f3,_⟩:=hf b hb;rcases f3 with z | z
  ·exact I.ok.mS b o e z
  ·exact absurd (vd (wK e) (Wt I.ok.kc z)) (Vj _)
 ·-- a name of the frame around
  have hsrc:∃j,src[i]? = some (some j) /\ σ[j]? = some (some v):=by
   unfold eX at h2;rw[wA]at h2;cases q:src[i]? with
   | none=>rw[q]at h2;cases h2
   | some o =>
    rw[q]at h2;cases o with
    | none=>cases h2
    | some j =>
     refine⟨j,rfl,?_⟩;have h2':(σ[j]?).join=some v:=w6 h2;cases q2 : σ[j]? with
     | none=>rw[q2]at h2';cases h2'
     | some z=>rw[q2]at h2';exact congrArg some h2'
  obtain⟨j,hj,hv⟩:=hsrc;obtain⟨hN,hc⟩:=sok.2 i j x h1 hj;obtain⟨m,_,hl⟩:=I.loc;obtain⟨u,ru,lk⟩:=hl j x v hN hv (.inr (.inl hc));refine⟨u,ru,.inr ⟨hvis i x h1 (by rw[hj];intro z;cases z),?_⟩⟩;rcases lk with⟨k,_⟩ | ⟨_,c,ec,hcell⟩
  ·have k':X.env.scope.names.lookup x=some .local:=k
   rw[hc]at k';cases k'
  ·obtain⟨c',ec'⟩:=cok.has x (hvis i x h1 (by rw[hj];intro z;cases z))
   have:=cok.sub x c' ec';rw[ec]at this;cases this;obtain⟨o,ho,hd⟩:=hcell;exact⟨c,ec',o,old c o ho,hd⟩
 ·obtain⟨v,o,ho,hd⟩:=I.cell x c (cok.sub x c e)
  exact⟨v,o,old c o ho,hd⟩
 ·exact I.iO x c (cok.sub x c e)
 ·have hp':p∈(X.pn++pins)++[]:=hp
  rw[Wh]at hp';obtain⟨e,n,ne,nf,d⟩:=I.pin p hp';refine⟨old _ _ e,n,w8 (wK e),λz=>?_,d⟩;exact(wO.mp (I.pG p.1 z)).elim ne nf
 ·show(eX src σ).length=N'.length
  unfold eX;rw[wn,sok.1]
end
def Uy:TT:=λ_ H Q=>Q true H
def yK(X:Cx)(ifs:.aG)(t:TT):Prop :=
 ∀(pins:.j)(s:wq)(σ : St)(H:Hp)(Q:Bool->Hp->Prop),Inv X pins σ H s->t σ H Q ->
  wD .m X.A (forIn ifs true λc r=>if r=true then do let ok <- isTrue c X.env (eval c X.env);pure (ForInStep.yield ok)else pure (ForInStep.yield r)) (TP X pins σ Q) X.xe s
theorem d4{X:Cx} : yK X [] Uy:=λ_ _ _ H _ I h=>wpAny_tests_nil ⟨H,I,h⟩
theorem nq{X:Cx}{c:Expr}{t:TT}(hc:PT X c t):yK X [c] t:=λpins s σ H Q I h=>wpAny_tests_one (hc pins s σ H Q I h)
section
variable{prog:wT}{w:wX}{A:vB}{R:Result->wq->Prop}{s:wq}
theorem ztv{elt target iter:Expr}{ifs:.aG}{scope:Scope}{pos:Pos}{it acc:wo}{env:Env}(I:Nat->wq->Prop)
   (turn:∀n s,I n s->wD .q A (pyNext it) (λr s₁=>match r with
     | none=>R (.ok .next) s₁
     | some v=>wD .q A (qN target it v) (λ_ s₁'=>wD .q A (assign target env v) (λ_ s₂ =>
         wD .q A (forIn ifs true λc r=>if r=true then do let ok <- isTrue c env (eval c env);pure (ForInStep.yield ok)else pure (ForInStep.yield r)) (λok s₃ =>
           if ok=true then wD .q A (eval elt env) (λx s₄ =>
             wD .q A (call (.builtin "list.append") [acc,x]) (λ_ s₅=>∃m,m<n/\I m s₅) (λ_ _=>False) s₄) (λ_ _=>False) s₃
           else ∃m,m<n/\I m s₃) (λ_ _=>False) s₂) (λ_ _=>False) s₁') (λ_ _=>False) s₁) (λ_ _=>False) s)
   (n:Nat) (h:I n s):codeAny .q A (.compLoop (.ListComp elt [⟨target,iter,ifs,0⟩] scope pos) 0 it acc env) R s:=by
 refine codeAny_loop rfl I (λn s hI=>?_) n h
 show wD _ A ((compTurn (.ListComp elt [⟨target,iter,ifs,0⟩] scope pos) 0 it acc env).onRaise (λx=>do noteFrame x env;theTreesLotGoes x)) _ _ s
 refine wpAny_noted ?_;rw[compTurn_list];refine wp (wpAny_standAt (wp (WU (turn n s hI) (λr s₁ h₁=>?_) λ_ _ h'=>h'.elim)));cases r with
 | none=>exact wI h₁
 | some v =>
   refine wp (WU h₁ (λ_ s₁' h₁'=>?_) λ_ _ h'=>h'.elim);refine wp (WU h₁' (λ_ s₂ h₂=>wp (WU h₂ (λok s₃ h₃=>?_) λ_ _ h'=>h'.elim)) λ_ _ h'=>h'.elim);cases ok with
   | false=>exact wI ⟨rfl,h₃⟩
   | true=>exact wp (wp (WU h₃ (λx s₄ h₄=>wp (WU h₄ (λ_ s₅ h₅=>wI (wI ⟨rfl,h₅⟩)) λ_ _ h'=>h'.elim)) λ_ _ h'=>h'.elim))
end
def mD(g:TG)(tt:TT)(te:TE)(J:It)(D:wf)(σ0:St)(H0:Hp)(Q:Hp->Prop):Prop :=
 ∃W:Nat->Nat->St->Hp->Prop,(∃m,W 0 m σ0 H0) /\ ∀i m σ' H',W i m σ' H' ->
  (J.stop i H'/\Q H')\/(J.go i H' /\ ∃M:St->Hp->Prop,(∀σ2 H2,M σ2 H2->∃m',m'<m/\W (i+1) m' σ2 H2) /\
   ∀x H2,J.gM i H' x H2->g x σ' H2 λσ3 H3=>tt σ3 H3 λok H4=>if ok=true then te σ3 H4 λy H5=>∃ys,H5 D=some .cj/\ys.length<vn/\M σ3 (upd H5 D (.lst (ys++[y])))else M σ3 H4)
def lU(src:.S)(wi:TI)(g:TG)(tt:TT)(te:TE):TE:=λσ H Q=>wi σ H λJ H1=>∀D,H1 D=none->mD g tt te J D (eX src σ) (upd H1 D .cf) (λH'=>Q .bG H')
structure RJ(Y:Cx)(tg:Expr)(J:It)(fp:.bZ)(it:wf)(tn:Nat->wS->Prop):Prop where
 item:∀(i:Nat)(pins:.j)(s:wq)(σ : St)(H:Hp)(E:.n),Inv Y pins σ H s->(∀b∈fp,fY Y pins H b)->tn i s.heap->J.go i H ->
   wD (model Y.prog Y.w) Y.A (pyNext .cK) (λr s1=>∃u,r=some u/\wD (model Y.prog Y.w) Y.A (qN tg .cK u) (λ_ s2=>∃x H',Inv Y pins σ H' s2/\bW x u/\J.gM i H x H'/\tn (i+1) s2.heap /\ ∀b∈fp,H' b=none) E s1) E s
 done:∀(i:Nat)(pins:.j)(s:wq)(σ : St)(H:Hp)(E:.n),Inv Y pins σ H s->(∀b∈fp,fY Y pins H b)->tn i s.heap->J.stop i H ->
   wD (model Y.prog Y.w) Y.A (pyNext .cK) (λr s1=>r=none/\Inv Y pins σ H s1) E s
theorem lD.U1{P:wT}{w:wX}{K:wa}{tg:Expr}{J:It}{fp:.bZ}{it:wf}{tn:Nat->wS->Prop}(T:lD P w K tg J fp it tn){Y:Cx}(h1:Y.prog=P)(h2:Y.w=w)(h3:Y.K=K)(hc:Y.calm=true):RJ Y tg J fp it tn:=by
 subst h1 h2 h3;exact⟨T.item Y rfl rfl rfl hc,T.done Y rfl rfl rfl hc⟩
section
variable{X:Cx}{pins:.j}{σ : St}{H:Hp}{s:wq}{N':.U}{scope:Scope}{cl:.bf}{src:.S}{elt tgt iter:Expr}{ifs:.aG}{pos:Pos}{wi:TI}{g:TG}{tt:TT}{te:TE}
structure rP(X:Cx)(N':.U)(scope:Scope)(cl:.bf)(src:.S):Prop where
 kind:scope.kind=.function
 cell:∀y∈scope.names,y.2≠.cell
 names:∀y∈scope.names,y.2=.local->scope.names.lookup y.1=some .local
 oj:Z0 X scope cl
 aaN:zEr X N' src
 JQ:∀(i:Nat) x,N'[i]? = some x->src[i]? ≠ some none->(relabel scope X.env).names.lookup x=some .cell\/(relabel scope X.env).names.lookup x=some .free
theorem Ru{it:wf}{fp:.bZ}{tn:Nat->wS->Prop}{J:It}{RQ:wf->Hp->Prop}{E:.n}{RR:wo->wf->Result->wq->Prop}
   (TC:∀C s₀ H₀,RJ .aQ tgt J fp it tn) (ok:rP X N' scope cl src)
   (hg:∀C s₀ H₀ fp pins,PG .aQ tgt g) (ht:∀C s₀ H₀ fp pins,yK .aQ ifs tt) (he:∀C s₀ H₀ fp pins,PE .aQ elt te)
   (I:.l) (T:lD X.prog X.w X.K tgt J fp it tn) (st:tn 0 s.heap) (hf:∀b∈fp,fY X pins H b)
   (rd:∀D,H D=none->mD g tt te J D (eX src σ) (upd H D .cf) (λH'=>RQ D H'))
   (hRR:∀D C H' s' m,Inv X pins σ H' s'->s'.heap.Ns C m->fY X pins H' C->RQ D H'->RR .bG C (.ok .next) s') :
   wD .m X.A (newList []) (λacc s₃=>wD .m X.A (newFunctionEnv scope X.env.globals cl [] X.env.qual none .none (some X.env)) (λcenv s₄ =>
     codeAny .m X.A (.compStart (.ListComp elt [⟨tgt,iter,ifs,0⟩] scope pos) 0 .cK acc {cenv with scope:=relabel scope X.env}) (RR acc cenv.locals) s₄) E s₃) E s:=by
 refine WZ ?_ (by show 0<=vn;exact Vh _);have hD:H s.heap.objs.size=none:=I.aR.fresh .ax
 have I3:Inv X pins σ (upd H s.heap.objs.size .cf) {s with heap:=s.heap.push {cls:=.type "list",data:=.seq ([]:List wo).toArray}} :=
   I.DO (ys:=[]) (its:=[]) (t':=s.toks) .nil (Vh _)
 have old3:∀b o,s.heap.get? b=some o->(s.heap.push {cls:=.type "list",data:=.seq ([]:List wo).toArray}).get? b=some o:=λb o e=>wt _ e
 have lt0:∀b∈fp,b<s.heap.objs.size:=λb hb=>by
   obtain⟨o,e,_⟩:=T.obj 0 _ st b hb;exact wK e
 have hf3:∀b∈fp,fY X pins (upd H s.heap.objs.size .cf) b:=λb hb=>⟨by rw[fP (w8 (lt0 b hb))];exact(hf b hb).1,(hf b hb).2⟩
 have lt3:∀b∈fp,b<(s.heap.push {cls:=.type "list",data:=.seq ([]:List wo).toArray}).objs.size:=λb hb=>by
   rw[qr];exact Q6 (lt0 b hb)
 have st3:tn 0 (s.heap.push {cls:=.type "list",data:=.seq ([]:List wo).toArray}):=T.keep _ _ _ st λb _ o e=>old3 b o e
 obtain⟨W,⟨m0,w0⟩,turn⟩:=rd _ hD;generalize hs3:({s with heap:=s.heap.push {cls:=.type "list",data:=.seq ([]:List wo).toArray}} : wq)=s3 at I3 ⊢;have hh3:s3.heap=s.heap.push {cls:=.type "list",data:=.seq ([]:List wo).toArray}:=by rw[<- hs3]
 rw[<- hh3]at lt3 st3;clear old3 hs3 hh3;generalize hD':s.heap.objs.size=D at *
 refine wpAny_newFunctionEnv ok.cell (by intro y hy;cases hy) (λh₁ hns₁ hsb₁=>?_) ok.kind;have old:∀b o,s3.heap.get? b=some o->h₁.get? b=some o:=λb o e=>hsb₁.extBut b o (w8 (wK e)) (wt _ e)
 have hC:fY X pins (upd H D .cf) s3.heap.objs.size:=I3.lT .ax (I3.aR.fresh .ax)
 have IB:∀tk,Inv (gG X N' scope cl s3.heap.objs.size s3 (upd H D .cf) fp pins) [] (eX src σ) (upd H D .cf) {s3 with heap:=h₁,toks:=tk}:=λtk =>
   I3.block ok.kind ok.oj ok.aaN hf3 lt3 hns₁ old ok.JQ
 have stB:tn 0 h₁:=T.keep _ _ _ st3 λb _ o e=>old b o e
 have stat:∀{H':Hp} ,(∀b∈fp,H' b=none)->∀b∈fp,fY (gG X N' scope cl s3.heap.objs.size s3 (upd H D .cf) fp pins) [] H' b:=λhn b hb=>by
   obtain⟨_,f1,f2,f3,f4,f5⟩:=hf3 b hb;refine⟨hn b hb,w8 (lt3 b hb),λz=>(wO.mp (I3.pG b z)).elim f1 f2,.inl hb,λx c e=>f4 x c (ok.oj.sub x c e),λp hp=>?_⟩;have hp':p∈(X.pn++pins)++[]:=hp;rw[Wh]at hp';exact f5 p hp'
 have back:∀{σ':St}{H':Hp}{s':wq},Inv (gG X N' scope cl s3.heap.objs.size s3 (upd H D .cf) fp pins) [] σ' H' s'->Inv X pins σ H' s'/\(∃m,s'.heap.Ns s3.heap.objs.size m)/\fY X pins H' s3.heap.objs.size:=λ{σ' H' s'} J=>by
   obtain⟨m,hn,_⟩:=J.loc;refine⟨I3.OP (ch:=fp) J.os J.base J.aR J.bare (λb hb=>?_),⟨m,hn⟩,⟨J.free,hC.2⟩⟩;obtain⟨_,f1,_,f3,f4,f5⟩:=hf3 b hb;exact⟨f3,f1,f4,f5⟩
 have loop:∀tk,codeAny .m X.A (.compLoop (.ListComp elt [⟨tgt,iter,ifs,0⟩] scope pos) 0 .cK .bG (compEnvC scope cl s3.heap.objs.size X.env)) (RR .bG s3.heap.objs.size) {s3 with heap:=h₁,toks:=tk}:=by
   intro tk
   refine ztv (λn s'=>∃i σ' H',Inv (gG X N' scope cl s3.heap.objs.size s3 (upd H D .cf) fp pins) [] σ' H' s'/\tn i s'.heap/\(∀b∈fp,H' b=none)/\W i n σ' H') ?_ m0
     ⟨0,_,_,IB tk,stB,λb hb=>(hf3 b hb).1,w0⟩
   rintro n s4 hz;obtain⟨i,σ4,H4,I4,st4,fr4,w4⟩:=hz;rcases turn i n σ4 H4 w4 with⟨stop,q⟩ | ⟨go,M,hM,step⟩
   . refine aS ((TC _ _ _).done i [] s4 σ4 H4 (λ_ _=>False) I4 (stat fr4) st4 stop) λr s5 ⟨hr,I5⟩=>?_
     subst hr;obtain⟨J,⟨m,hn⟩,hCf⟩:=back I5;exact hRR D _ H4 s5 m J hn hCf q
   . refine aS ((TC _ _ _).item i [] s4 σ4 H4 (λ_ _=>False) I4 (stat fr4) st4 go) λr s5 ⟨u,hr,h5⟩=>?_
     subst hr;refine aS h5 λ_ s6 ⟨x,H6,I6,r6,y6,st6,fr6⟩=>?_
     have I6':=I6.pinned (stat fr6) (T.obj _ _ st6)
     have again:∀{σ7:St}{H7:Hp}{s7:wq},Inv (gG X N' scope cl s3.heap.objs.size s3 (upd H D .cf) fp pins) ([]++yB fp s6.heap) σ7 H7 s7->M σ7 H7 ->
         ∃m,m<n /\ ∃i σ' H',Inv (gG X N' scope cl s3.heap.objs.size s3 (upd H D .cf) fp pins) [] σ' H' s7/\tn i s7.heap/\(∀b∈fp,H' b=none)/\W i m σ' H':=λ{σ7 H7 s7} I7 n7=>by
       obtain⟨m',hm,w7⟩:=hM σ7 H7 n7;refine⟨m',hm,i+1,σ7,H7,I7.zo,T.keep _ _ _ st6 λb hb o e=>(I7.pin (b,o) (Wu _ (Wu _ (Cu hb e)))).1,λb hb=>?_,w7⟩;obtain⟨o,e,d⟩:=T.obj _ _ st6 b hb;exact(I7.pin (b,o) (Wu _ (Wu _ (Cu hb e)))).2.1
     refine aS (hg _ _ _ _ _ _ s6 σ4 H6 x u _ I6' r6 (step x H6 y6)) λ_ s7 ⟨σ7,H7,I7,q7⟩=>?_
     refine aS (ht _ _ _ _ _ _ s7 σ7 H7 _ I7 q7) λk s8 ⟨H8,I8,q8⟩=>?_
     cases k with
     | false=>exact again I8 q8
     | true =>
       rw[if_pos rfl]at q8 ⊢;refine aS (he _ _ _ _ _ _ s8 σ7 H8 _ I8 q8) λy s9 ⟨yv,H9,I9,r9,ys,hys,hz,q9⟩=>?_
       exact aS (jk _ s9 σ7 H9 .bG [yv] .bG [y] (λ_ H'=>M σ7 H') I9 rfl (.cons r9 .nil) ⟨D,ys,yv,rfl,rfl,hys,hz,q9⟩) λ_ s10 ⟨_,H10,I10,_,q10⟩=>again I10 q10
 exact codeAny_compStart_list (loop _) (T.self _ _ _ _ _ stB (loop _))
theorem eO(hc:.bE)(ok:rP X N' scope cl src)(hi:PI X tgt iter wi)
  (hg:∀C s₀ H₀ fp pins,PG .aQ tgt g) (ht:∀C s₀ H₀ fp pins,yK .aQ ifs tt) (he:∀C s₀ H₀ fp pins,PE .aQ elt te)
  (hs:∀x,foldedSetIterable iter X.env x=pure x:=by intro _;rfl):PE X (.ListComp elt [⟨tgt,iter,ifs,0⟩] scope pos) (lU src wi g tt te):=by
 intro pins s σ H Q I h;rw[eval_ListComp];refine wpAny_comprehension_free (use:=none) rfl hs ok.oj.oj ok.kind ok.names (aS (hi pins s σ H _ I h) λv s1 h1=>aS h1 λitv s2 h2=>?_);obtain⟨it,fp,tn,J,H2,e,I2,T,st2,f2,rd⟩:=h2;subst e;refine Ru (RQ:=λD H'=>Q .bG H') (RR:=λacc C=>compPost .m X.A X.xe none .cw acc C) (λ_ _ _=>T.U1 rfl rfl rfl hc) ok hg ht he I2 T st2 f2 rd ?_;intro D C H' s' m J hn hC q;obtain⟨c0,c1,_,c3,c4,c5⟩:=hC;exact⟨m,hn,λh' sb=>⟨.ref D,H',J.turned (t':=s'.toks) (λb o hb e=>(sb.2 b hb).trans e) c0 c1 c3 c4 c5,rfl,q⟩⟩
theorem kO{i:Nat}{y:Str}{py spos:Pos}(hN:X.N.Nodup)(hy:X.N[i]? = some y)(hly:Loc X.env.scope y)(hc:.bE)(ok:rP X N' scope cl src)(hi:PI X tgt iter wi)
  (hg:∀C s₀ H₀ fp pins,PG .aQ tgt g) (ht:∀C s₀ H₀ fp pins,yK .aQ ifs tt) (he:∀C s₀ H₀ fp pins,PE .aQ elt te)
  (hsw:swapsWith (.ListComp elt [⟨tgt,iter,ifs,0⟩] scope pos) (some (.Name y py)) spos.line X.env=pure true:=by rfl)
  (hs:∀x,foldedSetIterable iter X.env x=pure x:=by intro _;rfl) (hf:X.fn y=true\/X.env.scope.names.lookup y=some .local:=by first | exact .inl rfl | exact .inr rfl | assumption) :
  PS X (.Assign [.Name y py] (.ListComp elt [⟨tgt,iter,ifs,0⟩] scope pos) spos) (o_ (lU src wi g tt te) (kj i)):=by
 intro pins s σ H D0 I h;rw[exec_Assign_Name_used _ _ _ _ hsw];refine wp (wpAny_standAt (wp ?_))
 show wD _ X.A (do let _ <- comprehension (.ListComp elt [⟨tgt,iter,ifs,0⟩] scope pos) scope X.env _ (newList []) false (eval iter X.env) (some (assign (.Name y py) X.env))) _ _ s
 refine wp (WU (wpAny_comprehension_free (Q:=λ_ s'=>SP X pins D0 .next s') rfl hs ok.oj.oj ok.kind ok.names (aS (hi pins s σ H _ I h) λv s1 h1=>aS h1 λitv s2 h2=>?_))
  (λ_ s' hq=>wI (wI hq)) λ_ _ e=>e)
 obtain⟨it,fp,tn,J,H2,e,I2,T,st2,f2,rd⟩:=h2;subst e;refine Ru (RQ:=λD H'=>kj i .bG σ H' D0.nx) (RR:=λacc C=>compPost .m X.A X.xe (some (assign (.Name y py) X.env)) (λ_ s'=>SP X pins D0 .next s') acc C) (λ_ _ _=>T.U1 rfl rfl rfl hc) ok hg ht he I2 T st2 f2 rd ?_;intro D C H' s' m J hn hC q;obtain⟨c0,c1,_,c3,c4,c5⟩:=hC
 show wD _ _ (assign (.Name y py) X.env .bG) _ _ s'
 refine wpAny_assign_Name (Rh J hN hy hly (v:=.ref D) rfl (λs'' J2 ⟨a,sb,ha⟩=>?_) hf)
 have hCa:C≠a:=by
  rcases ha with z | z
  ·rw[z];exact c1
  ·exact(c4 y a z).symm
 exact⟨m,hn.sameBut sb hCa,λh' sb'=>⟨_,H',J2.turned (t':=s''.toks) (λb o hb e=>(sb'.2 b hb).trans e) c0 c1 c3 c4 c5,q⟩⟩
end
variable{T b:wf}
abbrev U_(h B:wS)(e:wf)(cls:wo):Prop :=
 ∃oe vs,h.get? e=some oe/\oe.cls=cls/\oe.data=.fields vs/\vs[1]? = some .none/\vs[2]? = some .none/\oe.dict=none/\B.get? e=none
abbrev Pg(h B:wS)(e:wf)(cls fl:wo):Prop :=
 ∃oe vs T oT ts,h.get? e=some oe/\oe.cls=cls/\oe.data=.fields vs/\vs[1]? = some (.ref T)/\vs[2]? = some .none/\oe.dict=none/\B.get? e=none/\B.get? T=none/\T≠e/\h.get? T=some oT/\oT.data=.fields ts/\ts[3]? = some fl
structure gC(B:wS)(l:.bT)(e:wf)(cls fl:wo)(h:wS):Prop where
 st:B.StaysIn h
 fr:h.FunFrames B l
 tr:Pg h B e cls fl
theorem zu6{f:Array wo->Array wo}(o:Obj):(Qp f o).dict=o.dict:=by
 obtain⟨c,d,dt,sl⟩:=o;cases dt<;>rfl
theorem oJ{h:wS}{f:Obj->Obj}(n:b≠T):(h.update T f).get? b=h.get? b:=Qj _ _ (WN n)
theorem p5{h:wS}{oT o:Obj}{ts:.aP}(hT:h.get? T=some oT)(dT:oT.data=.fields ts)(hb:h.get? b=some o)(hn:∀vs,o.data≠.fields vs):b≠T:=by
 rintro rfl;rw[hT]at hb;cases hb;exact hn _ dT
theorem KS{B:wS}{o:Obj}(n:B.get? T=none)(q:B.get? b=some o):b≠T:=by
 rintro rfl;rw[n]at q;cases q
section
variable{M:Model}{A:vB}{E:.n}{s:wq}{B:wS}{l outer:.bT}{env:Env}{L e:wf}{cls fl:wo}{Q:Unit->wq->Prop}
theorem gC.land(F:gC B l e cls fl s.heap)(k:∀h',gC B l e cls .none h'->s.heap.UpToSlots h'->Q () {s with heap:=h'}):wD M A (setFlight (.ref e) none) Q E s:=by
 obtain⟨st,fr,oe,vs,T,oT,ts,he,hc,hd,h1,h2,hdi,be,bT,ne,hT,dT,h3⟩:=F;have sz:3<ts.size:=(W9.mp h3).1;unfold setFlight;refine wp (vS he hd h1 ?_);rw[if_pos .u];have at3:∀b,b≠T->(s.heap.update T (Qp (·.setIfInBounds 3 Value.none))).get? b=s.heap.get? b:=λb n=>oJ n
 have tr:Pg (s.heap.update T (Qp (·.setIfInBounds 3 Value.none))) B e cls .none :=
  ⟨oe,vs,T,Qp (·.setIfInBounds 3 Value.none) oT,ts.setIfInBounds 3 Value.none,(at3 e ne.symm).trans he,hc,hd,h1,h2,hdi,be,bT,ne,
   qo _ hT (qu (qg dT _)),qg dT _,by simp[sz]⟩
 refine wpAny_setField hT dT sz (k _ ⟨λb o q=>(at3 b (KS bT q)).trans (st b o q),fr.of_keeps λb o hb hn=>⟨o,(at3 b (p5 hT dT hb hn)).trans hb,rfl⟩,tr⟩ λb o hb hn=>⟨o.slots,(at3 b (p5 hT dT hb hn)).trans hb⟩)
theorem Yy{oe:Obj}{vs:.aP}{head:wo}{had:Bool}(hfr:A.frames=some (env::outer))(hf:env.frame=some L)(st:B.StaysIn s.heap)(fr:s.heap.FunFrames B (env::outer))(he:s.heap.get? e=some oe)
  (hd:oe.data=.fields vs) (sz:1<vs.size) (h2:vs[2]? = some .none) (hdi:oe.dict=none) (be:B.get? e=none) (k:∀h',gC B (env::outer) e oe.cls (Vq L) h'->s.heap.UpToSlots h'->Q () {s with heap:=h'}) :
  wD M A (do let a <- frameOf env;let pl <- entryPlaceOf L had;let b <- Xl head a .none (Vq L) .none pl;setField (.ref e) 1 b) Q E s:=by
 have nfr:e ∉ (env::outer).filterMap (·.frame):=λz=>by
  obtain⟨_,o,ho,hnf⟩:=fr.mem z;rw[he]at ho;cases ho;exact hnf vs hd
 refine wp (wpAny_frameOf_fun hfr fr hf λg sg=>wp (wpAny_entryPlaceOf λpl hpl=>?_));unfold Xl newFields;refine wp (WZ ?_ (hpl.sizeOk5 _ _ _ _ _));have eg:g.get? e=some oe:=(sg.2.1 e nfr).trans he
 have stg:B.StaysIn g:=λb o q=>by
  rw[sg.2.1 b λz=>?_]
  ·exact st b o q
  ·rw[(fr.mem z).1]at q;cases q
 generalize hob:({cls:=.type "traceback",data:=.fields ([head,.ref L,.none,Vq L,.none]++(if pl.isEmpty then vy 6 Value.none else pl)).toArray} : Obj)=tb;have dtb:tb.data=.fields ([head,.ref L,.none,Vq L,.none]++(if pl.isEmpty then vy 6 Value.none else pl)).toArray:=by rw[<- hob]
 have ftb:tb.isFreed=false:=qu dtb;have e2:=wt (h:=g) tb eg;have neT:g.objs.size≠e:=vH (wK eg)
 have at3:∀b o,b≠e->g.get? b=some o->((g.push tb).update e (Qp (·.setIfInBounds 1 (.ref g.objs.size)))).get? b=some o:=λb o n q=>by
  rw[oJ n];exact wt _ q
 refine wpAny_setField e2 hd sz (k _ ?_ ?_)
 ·have d3:=qg hd (·.setIfInBounds 1 (Value.ref g.objs.size))
  refine⟨λb o q=>at3 b o (KS be q) (stg b o q),fr.of_keeps λb o hb hn=>?_,_,_,g.objs.size,tb,_,qo _ e2 (qu d3),XX _ _,d3,by simp[sz],?_,?_,be,stg.fresh,neT,?_,dtb,?_⟩
  ·obtain⟨sl,q⟩:=sg.2.2 b o hb
   exact⟨_,at3 b _ (p5 he hd hb hn) q,rfl⟩
  ·rw[Array.getElem?_setIfInBounds_ne .ab];exact h2
  ·exact(zu6 oe).trans hdi
  ·rw[oJ neT];exact wY _ ftb
  ·first | (simp;done) | (rcases hpl with rfl | ⟨_,_,_,_,_,_,_,rfl⟩<;>simp)
 ·exact λb o hb hn=>by
   obtain⟨sl,q⟩:=sg.2.2 b o hb;exact⟨sl,at3 b _ (p5 he hd hb hn) q⟩
theorem zyM(hfr:A.frames=some (env::outer))(hf:env.frame=some L)(st:B.StaysIn s.heap)(fr:s.heap.FunFrames B (env::outer))(t:U_ s.heap B e cls)
  (k:∀h',gC B (env::outer) e cls (Vq L) h'->s.heap.UpToSlots h'->Q () {s with heap:=h'}):wD M A (noteFrame (.ref e) env) Q E s:=by
 obtain⟨oe,vs,he,hc,hd,h1,h2,hdi,be⟩:=t;subst hc;unfold noteFrame;simp only[hf];refine wp (vS he hd h1 ?_);rw[if_neg .ab];exact Yy hfr hf st fr he hd (W9.mp h1).1 h2 hdi be k
theorem gC.note(F:gC B (env::outer) e cls .none s.heap)(hfr:A.frames=some (env::outer))(hf:env.frame=some L)
  (k:∀h',gC B (env::outer) e cls (Vq L) h'->s.heap.UpToSlots h'->Q () {s with heap:=h'}):wD M A (noteFrame (.ref e) env) Q E s:=by
 obtain⟨st,fr,oe,vs,T,oT,ts,he,hc,hd,h1,h2,hdi,be,bT,ne,hT,dT,h3⟩:=F;subst hc;unfold noteFrame;simp only[hf];refine wp (vS he hd h1 ?_);rw[if_pos .u];refine wp (vS hT dT h3 ?_);rw[if_neg (by simp[Vq])];refine wp (wpAny_setField hT dT (W9.mp h3).1 ?_);refine Yy hfr hf (λb o q=>?_) (fr.of_keeps λb o hb hn=>⟨o,?_,rfl⟩) ?_ hd (W9.mp h1).1 h2 hdi be λh' F' sm=>k h' F' λb o hb hn=>sm b o ?_ hn
 ·show(xH _ _ _).get? b=_
  rw[oJ (KS bT q)];exact st b o q
 ·show(xH _ _ _).get? b=_
  rw[oJ (p5 hT dT hb hn)];exact hb
 ·show(xH _ _ _).get? e=_
  rw[oJ ne.symm];exact he
 ·show(xH _ _ _).get? b=_
  rw[oJ (p5 hT dT hb hn)];exact hb
theorem zwD(hfr:A.frames=some (env::outer))(hf:env.frame=some L)(st:B.StaysIn s.heap)(fr:s.heap.FunFrames B (env::outer))(t:U_ s.heap B e cls)
  (k:∀h',gC B outer e cls .none h'->s.heap.UpToSlots h'->Q () {s with heap:=h'}):wD M A (leaving env (.ref e)) Q E s:=by
 unfold leaving;refine wp (zyM hfr hf st fr t λh1 F1 s1=>gC.land F1 λh2 F2 s2=>k h2 ⟨F2.st,F2.fr.2.2,F2.tr⟩ (s1.trans s2))
theorem gC.leave(F:gC B (env::outer) e cls .none s.heap)(hfr:A.frames=some (env::outer))(hf:env.frame=some L)
  (k:∀h',gC B outer e cls .none h'->s.heap.UpToSlots h'->Q () {s with heap:=h'}):wD M A (leaving env (.ref e)) Q E s:=by
 unfold leaving;refine wp (F.note hfr hf λh1 F1 s1=>gC.land F1 λh2 F2 s2=>k h2 ⟨F2.st,F2.fr.2.2,F2.tr⟩ (s1.trans s2))
end
theorem eZ.there{P:wT}{w:wX}{H:Hp}{h:wS}{a:wf}{o:HO}(x:eZ P w H h a o):∃u,h.get? a=some u:=by
 cases o with
 | lst xs=>obtain⟨_,_,_,_,e⟩:=x;exact⟨_,e⟩
 | tup xs=>obtain⟨_,_,_,_,e,_⟩:=x;exact⟨_,e⟩
 | dK kvs=>obtain⟨_,_,_,_,o,_,_,e,_⟩:=x;exact⟨_,e⟩
 | dT kvs=>obtain⟨_,_,_,_,o,_,_,e,_⟩:=x;exact⟨_,e⟩
 | set S n=>obtain⟨o,_,_,_,e,_⟩:=x;exact⟨_,e⟩
 | ins C dx fs=>obtain⟨_,_,_,e,_⟩:=x;exact⟨_,e⟩
 | own y=>exact x
 | xd fs=>obtain⟨_,⟨_,_,_,e,_⟩,_⟩:=x;exact⟨_,e⟩
 | Bf lo hi=>obtain⟨_,_,_,e⟩:=x;exact⟨_,e⟩
 | jb ob u=>obtain⟨e,_⟩:=x;exact⟨_,e⟩
 | nU ps=>exact⟨_,x⟩
 | met f y=>exact⟨_,x⟩
 | ext φ=>obtain⟨_,e,_⟩:=x;exact e
structure r8(B:wS)(fs:.bZ)(H H':Hp)(h:wS):Prop where
 kC:∀a o,H' a=some o->∃u,B.get? a=some u
 old:∀b o,h.get? b=some o->H b=none->b ∉ fs->B.get? b=some o
 yA:∀b o,h.get? b=some o->b ∉ fs->∃u,B.get? b=some u
def gB(P:wT)(w:wX):hZ:=λouter H s E e s'=>∃(ex:wf)(C:wo)(H':Hp)(B:wS),e=.ref ex/\s'.os=s.os/\AllBare s'.gens/\Un (fo outer) [] H H' s.heap s'.heap/\d7 P w H' s'.heap /\
 gC B outer ex C .none s'.heap/\r8 B (fo outer) H H' s.heap/\E C none H'
section
variable{B h h1 h':wS}{fs:.bZ}{H H':Hp}{P:wT}{w:wX}
theorem r8.un(ov:r8 B fs H H' h)(un:Un fs [] H H' h h1)(hfs:∀b∈fs,H b=none /\ ∃o,h.get? b=some o /\ ∀vs,o.data≠.fields vs)(st:B.StaysIn h')(sm:h1.UpToSlots h'):Un fs [] H H' h h':=by
 have slot:∀b o,h.get? b=some o->b∈fs->∃sl,h'.get? b=some {o with slots:=sl}:=λb o e hb=>by
  obtain⟨n,o',ho',nr⟩:=hfs b hb;rw[e]at ho';cases ho';obtain⟨sl,e1⟩:=un.any e n .u;obtain⟨sl2,e2⟩:=sm b _ e1 nr;exact⟨sl2,e2⟩
 refine⟨λb o e n nf _=>st b o (ov.old b o e n nf),λb o e _ hb _=>slot b o e hb,un.free,λb o e _=>?_,un.j7,un.jK,un.j9⟩
 by_cases hb:b∈fs
 ·obtain⟨sl,e1⟩:=slot b o e hb
  exact⟨_,e1⟩
 ·obtain⟨u,e1⟩:=ov.yA b o e hb
  exact⟨u,st b u e1⟩
theorem r8.aR(ov:r8 B fs H H' h)(aR:d7 P w H' h1)(st1:B.StaysIn h1)(st:B.StaysIn h'):d7 P w H' h':=λa o e=>by
 refine(aR a o e).mT (λb u hb r=>?_) (λ_ z=>z) λ_ _ z=>z
 have:∃v,B.get? b=some v:=by
  rcases hb with rfl | hb
  ·exact ov.kC _ _ e
  ·exact ov.kC _ _ hb
 obtain⟨v,ev⟩:=this;have e2:=st1 b v ev;rw[r]at e2;cases e2;exact st b u ev
end
section
variable{X:Cx}{pins:.j}{σ : St}{H H':Hp}{s s':wq}{B:wS}{ex:wf}{C:wo}{E:XK}{E':.n}
theorem zov(I:.l)(hx:X.ex=[])(os:s'.os=s.os)(bare:AllBare s'.gens)(un:Un (fo X.stack) [] H H' s.heap s'.heap)(aR:d7 X.prog X.w H' s'.heap)(stB:B.StaysIn s'.heap)(ov:r8 B (fo X.stack) H H' s.heap)
  (q:E C none H') (fly:∀(Q:Unit->wq->Prop),(∀h',gC B X.outer ex C .none h'->s'.heap.UpToSlots h'->Q () {s' with heap:=h'})->wD .m X.A (leaving X.env (.ref ex)) Q E' s') :
  wD .m X.A (leaving X.env (.ref ex)) (λ_ s''=>gB X.prog X.w X.outer X.H₀ X.s₀ E (.ref ex) s'') E' s':=by
 have base:Un X.fs [] X.H₀ H X.s₀.heap s.heap:=by have:=I.base;rwa[hx]at this
 have nL:∀b o,X.s₀.heap.get? b=some o->b ∉ X.fs->b ∉ fo X.stack:=λb o e n z=>by
  rcases wO.mp (I.pG b z)with r | r
  ·exact w8 (vd (wK e) I.ok.above) r
  ·exact n r
 have old:∀b o,X.s₀.heap.get? b=some o->X.H₀ b=none->b ∉ X.fs->B.get? b=some o:=λb o e n nf =>
  ov.old b o (base.keep b o e n nf .u) (base.free b o e n .u) (nL b o e nf)
 have yA:∀b o,X.s₀.heap.get? b=some o->b ∉ X.fs->∃u,B.get? b=some u:=λb o e nf=>by
  obtain⟨o',e1⟩:=base.there b o e .u;exact ov.yA b o' e1 (nL b o e nf)
 refine fly _ λh' F sm=>⟨ex,C,H',B,rfl,os.trans I.os,bare,⟨λb o e n nf _=>F.st b o (old b o e n nf),λb o e n hb _=>?_,λb o e n _=>?_,λb o e _=>?_,λb xs e=>un.j7 b xs (base.j7 b xs e),
  λb o u e=>un.jK b o u (base.jK b o u e),λb ps e=>?_⟩,λa o e=>?_,F,⟨ov.kC,old,yA⟩,q⟩
 ·obtain⟨sl,e1⟩:=base.slot b o e n hb .u
  obtain⟨sl',e2⟩:=un.any e1 (base.free b o e n .u) .u;obtain⟨_,o',ho',nr⟩:=I.ok.gA.mem hb;rw[e]at ho';cases ho';obtain⟨sl2,e3⟩:=sm b _ e2 nr;exact⟨sl2,e3⟩
 ·obtain⟨o',e1⟩:=base.there b o e .u
  exact un.free b o' e1 (base.free b o e n .u) .u
 ·by_cases hb:b∈X.fs
  ·obtain⟨_,o',ho',nr⟩:=I.ok.gA.mem hb
   rw[e]at ho';cases ho';have n:X.H₀ b=none:=I.ok.lQ b hb;obtain⟨sl,e1⟩:=base.slot b o e n hb .u;obtain⟨sl',e2⟩:=un.any e1 (base.free b o e n .u) .u;obtain⟨sl2,e3⟩:=sm b _ e2 nr;exact⟨_,e3⟩
  ·obtain⟨u,e1⟩:=yA b o e hb
   exact⟨u,F.st b u e1⟩
 ·obtain⟨m1,e1⟩:=base.j9 b ps e
  obtain⟨m2,e2⟩:=un.j9 b _ e1;exact⟨m1++m2,by rw[e2,Xu]⟩
 ·refine(aR a o e).mT (λb u hb r=>?_) (λ_ z=>z) λ_ _ z=>z
  have:∃v,B.get? b=some v:=by
   rcases hb with rfl | hb
   ·exact ov.kC _ _ e
   ·exact ov.kC _ _ hb
  obtain⟨v,ev⟩:=this;have e2:=stB b v ev;rw[r]at e2;cases e2;exact F.st b u ev
theorem zyH{e:wo}(I:.l)(hx:X.ex=[])(hs:X.stack=X.env::X.outer)(hf:X.env.frame=some X.env.locals)(h:gB X.prog X.w X.stack H s E e s') :
  wD .m X.A (leaving X.env e) (λ_ s''=>gB X.prog X.w X.outer X.H₀ X.s₀ E e s'') E' s':=by
 obtain⟨ex,C,H',B,rfl,os,bare,un,aR,F,ov,q⟩:=h;rw[hs]at F;exact zov I hx os bare un aR F.st ov q λQ k=>F.leave (I.ok.frames.trans (congrArg some hs)) hf k
theorem zxj{h':wS}{vs:.Y}(I:.l)(hx:X.ex=[])(hs:X.stack=X.env::X.outer)(hf:X.env.frame=some X.env.locals)(m:uS s.heap h' ex C vs)(q:E C none H) :
  wD .m X.A (leaving X.env (.ref ex)) (λ_ s''=>gB X.prog X.w X.outer X.H₀ X.s₀ E (.ref ex) s'') E' {s with heap:=h'}:=by
 obtain⟨B,hB⟩:∃B,B=uv s.heap (fo X.stack):=⟨_,rfl⟩;have hin:∀env∈X.stack,∀b,env.frame=some b->b∈fo X.stack:=λenv he b hb=>QT.mpr ⟨env,he,hb⟩
 have frB:s.heap.FunFrames B X.stack:=by rw[hB];exact PySem.W.funFrames_hide I.stack hin
 have getB:∀{b o},s.heap.get? b=some o->b ∉ fo X.stack->B.get? b=some o:=λe n=>by rw[hB];exact Xh _ e n
 have ofB:∀{b o},B.get? b=some o->s.heap.get? b=some o:=λr=>by rw[hB]at r;exact Xs _ r
 have nfr:∀a o,H a=some o->a ∉ fo X.stack:=λa o e z=>by
  have:=I.zt a z;rw[e]at this;cases this
 obtain⟨t,he,_,_⟩:=m.there
 refine zov (B:=B) (s':={s with heap:=h'}) I hx rfl I.bare (Un.kept m.keeps) (I.aR.kept m.keeps) (λb o r=>m.keeps b o (ofB r))
  ⟨λa o e=>?_,λb o e _ nf=>getB e nf,λb o e nf=>⟨o,getB e nf⟩⟩ q λQ k=>?_
 ·obtain⟨u,e1⟩:=(I.aR a o e).there
  exact⟨u,getB e1 (nfr a o e)⟩
 ·rw[hs]at frB
  refine zwD (s:={s with heap:=h'}) (I.ok.frames.trans (congrArg some hs)) hf (λb o r=>m.keeps b o (ofB r)) (frB.of_keeps λb o hb _=>⟨o,m.keeps b o hb,rfl⟩) ⟨_,_,he,rfl,rfl,rfl,rfl,rfl,?_⟩ k;cases z:B.get? ex with
  | none=>rfl
  | some o =>
   have:=ofB z;rw[m.new]at this;cases this
end
variable{K:wa}{base:wS}{qual:Str}
theorem J4{P:wT}{w:wX}{mg:.M}{N:.U}{scope:Scope}{f:wf}{cd:wo}{A:vB}{outer:.bT}{s:wq}{H:Hp}{E:XK} :
  rZ (gB P w) (kq (gB P w) P w K mg base N qual scope f cd A outer s H E) E:=λpins σ H1 s1 e s' I h=>zyH I rfl rfl rfl h
def Zp(X:Cx)(C:wo)(E:XK):Prop:=∀(pins:.j)(σ : St)(H:Hp)(s:wq)(h':wS)(ex:wf)(vs:.Y),Inv X pins σ H s->uS s.heap h' ex C vs->E C none H->X.xe (.ref ex) {s with heap:=h'}
theorem YG{P:wT}{w:wX}{mg:.M}{N:.U}{scope:Scope}{f:wf}{cd C:wo}{A:vB}{outer:.bT}{s:wq}{H:Hp}{E:XK} :
  Zp (kq (gB P w) P w K mg base N qual scope f cd A outer s H E) C E:=λpins σ H1 s1 h' ex vs I m q=>zxj I rfl rfl rfl m q
def yV:List wo:=[.type "ValueError",.type "Exception",.type "BaseException",.type "object"]
theorem zCE{h:wS}{C:wf}{bmB:.Y}{newId:.am}(X:K.In h)(q:V9 K C bmB newId=true) :
  ∃bm N nm qn bs hd sn sub ab col dd k0 k1 k2 k3 k5 mN,h.get? C=some (excClassObj nm qn C N bs bm hd sn sub ab col dd k0 k1 k2 k3 k5 newId)/\h.Ns N mN/\mN "__init__"=none/\OwnTail h bmB bm:=by
 unfold V9 at q
 split at q
 case h_2=>cases q
 rename_i dd cd sl ho
 split at q
 case h_2=>cases q
 rename_i C' bm k0 k1 k2 k3 n k5 hm hs;simp only[vf,beq_iff_eq,WY]at q;obtain⟨⟨⟨⟨⟨rfl,rfl⟩,hdel⟩,ht⟩,aR⟩,hni⟩:=q;obtain⟨nm,bs,mro,ns,qn,hd,sn,sub,ab,col,del⟩:=cd;dsimp only at hm hdel aR hni;subst hm hdel
 have e:sl = #[k0,k1,k2,k3,some (.builtin n),k5]:=by
  cases sl;simp only at hs;rw[hs]
 subst e;exact⟨bm,ns,nm,qn,bs,hd,sn,sub,ab,col,dd,k0,k1,k2,k3,k5,_,X _ _ ho,.of_isNs (PySem.W.isNs_of_in X aR),PySem.W.nsMap_none_of_in X aR hni,PySem.W.tail_of_in X ht⟩
section
variable{X:Cx}{x:Str}{C:wf}{E:XK}{e:Expr}{es:.aG}{t:TA}{np cpos pos:Pos}
def zBJ(C:wo)(E:XK)(t:TA):TS:=λ_ σ H=>t σ H λvs H1=>vs.length<=vn/\E C none H1
theorem ztZ(q:V9 X.K C yV "ValueError.__new__"=true)(hc:.bE)(hg:Gl X x)(hm:X.mg x=some (.ref C))(Z:Zp X (.ref C) E)(ha:PA X (e::es) t)(hdb:.ai=false:=by decide)
  (he:w9 (e::es) X.env=.bw::w9 es X.env:=by rfl) (hpl:(VR cpos .ci).any (·.1)=false:=by rfl) :
  PS X (.Raise (some (.Call (.Name x np) (e::es) [] cpos)) none pos) (zBJ (.ref C) E t):=by
 intro pins s σ H D I h;obtain⟨bm,N,nm,qn,bs,hd,sn,sub,ab,col,dd,k0,k1,k2,k3,k5,mN,hC,hN,hni,T⟩:=zCE I.ok.mod.ya q
 refine wpAny_Raise_call_subU (C:=C) (nm:=nm) (q:=qn) (N:=N) (bs:=bs) (bm:=bm) (hdct:=hd) (sn:=sn) (sub:=sub) (ab:=ab) (col:=col) (dd:=dd) (k0:=k0) (k1:=k1) (k2:=k2) (k3:=k3) (k5:=k5)
  x5 .ab x5 (mN:=mN) (T.hasType .ab) .aW (by rw[he];show(false || (VR cpos .ci).any (·.1))=false;rw[hpl];rfl) hni (yo I hg hm ⟨rfl,?_⟩ hdb)
 have ha':=ha cpos pins s σ H _ I h;rw[he]at ha' ⊢;refine xX (WU ha' (λus s2 ⟨vs,H2,I2,r,z,q2⟩=>⟨rfl,by rw[<- r.length];exact z,I2.bk _ _ hC,hN.keeps I2.bk,T.keeps I2.bk,λh' ex m=>Z pins σ H2 s2 h' ex us I2 m q2⟩) λ_ _ y=>y)
end
abbrev Cx.at(X:Cx)(pn:.j)(E:.n):Cx:={X with pn:=pn,xe:=E}
abbrev Cx.zx(X:Cx)(pn:.j)(ex:wf)(oe:Obj):Cx:={X with pn:=pn++[(ex,oe)],xe:=λ_ _=>False,A:=X.A.mark (some (.ref ex)),calm:=false}
section
variable{X:Cx}{pins pins':.j}{σ : St}{H:Hp}{s:wq}{ex:wf}{oe:Obj}
theorem Inv.aaH(I:.l)(E:.n):Inv (X.at (X.pn++pins) E) [] σ H s :=
 ⟨⟨I.ok.mod,I.ok.kind,I.ok.glob,I.ok.blt,I.ok.above,I.ok.inj,I.ok.has,I.ok.nO,I.ok.hd,I.ok.frames,I.ok.oI,I.ok.y8,I.ok.bs,I.ok.kc,I.ok.mS,I.ok.oh,I.ok.gA,I.ok.lQ⟩,I.os,I.bare,I.base,I.loc,I.cell,I.free,I.iO,
  λp hp=>I.pin p (by rw[Wh]at hp;exact hp),I.aR,I.len⟩
theorem Inv.sP{E:.n}(I:Inv (X.at (X.pn++pins) E) pins' σ H s):Inv X pins σ H s :=
 ⟨⟨I.ok.mod,I.ok.kind,I.ok.glob,I.ok.blt,I.ok.above,I.ok.inj,I.ok.has,I.ok.nO,I.ok.hd,I.ok.frames,I.ok.oI,I.ok.y8,I.ok.bs,I.ok.kc,I.ok.mS,I.ok.oh,I.ok.gA,I.ok.lQ⟩,I.os,I.bare,I.base,I.loc,I.cell,I.free,I.iO,
  λp hp=>I.pin p (VS _ hp),I.aR,I.len⟩
theorem Inv.aaz(I:.l)(he:s.heap.get? ex=some oe)(hn:H ex=none)(nl:ex≠X.env.locals)(nf:ex ∉ X.fs)(nc:∀v,oe.data≠.cell v):Inv (X.zx (X.pn++pins) ex oe) [] σ H s :=
 ⟨⟨I.ok.mod,I.ok.kind,I.ok.glob,I.ok.blt,I.ok.above,I.ok.inj,I.ok.has,I.ok.nO,λz=>Bool.noConfusion z,I.ok.frames,I.ok.oI,I.ok.y8,I.ok.bs,I.ok.kc,I.ok.mS,I.ok.oh,I.ok.gA,I.ok.lQ⟩,I.os,I.bare,I.base,I.loc,I.cell,I.free,I.iO,
  λp hp=>by
   rw[Wh]at hp;rcases vG.mp hp with z | z
   ·exact I.pin p z
   ·cases wZ.mp z
    exact⟨he,hn,nl,nf,nc⟩,I.aR,I.len⟩
theorem Inv.zC(ok:X.Ok)(I:Inv (X.zx (X.pn++pins) ex oe) pins' σ H s):Inv X pins σ H s :=
 ⟨ok,I.os,I.bare,I.base,I.loc,I.cell,I.free,I.iO,λp hp=>I.pin p (VS _ (VS _ hp)),I.aR,I.len⟩
end
def Y5(CX:hZ)(X:Cx)(W:St->XK):Prop:=∀(pins:.j)(σ : St)(H:Hp)(s:wq)(e:wo)(s':wq),Inv X pins σ H s->CX X.stack H s (W σ) e s'->X.xe e s'
def G8(sp:Sp)(W:St->XK)(t:TA):TE:=λσ H Q=>t σ H λvs H1=>sp vs H1 Q (W σ)
section
variable{X:Cx}{CX:hZ}{k:Nat}{f:wf}{fd:wG}{ps:.U}{sp:Sp}{W:St->XK}{x:Str}{p pos:Pos}{e:Expr}{es:.aG}{t:TA}
theorem zBn(F:aI X.prog X.w X.K X.mg X.base CX k f fd ps sp)(hr:eY k X.A)(hg:Gl X x)(hm:X.mg x=some (.ref f))(hk:qW X.K (.ref f)=true)(hb:oZ X.K fd ps [])(hx:Y5 CX X W)
  (ha:PA X (e::es) t) (hdb:.ai=false:=by decide) (he:w9 (e::es) X.env=.bw::w9 es X.env:=by rfl) (hpl:(VR pos .ci).any (·.1)=false:=by rfl) :
  PE X (.Call (.Name x p) (e::es) [] pos) (G8 sp W t):=by
 intro pins s σ H Q I h;refine qV (yo I hg hm ?_ hdb);refine Xv (h₀:=X.base) I.ok.mod.ya hk (aS .cN λus s1 ⟨vs,H1,I1,r,q⟩=>⟨I1.eU,?_⟩) he hpl;have hl:us.length=ps.length:=by rw[<- r.length];exact F.len _ _ _ _ q
 have hbd:BindsTo s1 fd ⟨us,[]⟩ (ps.zip us):=by simpa using hb s1 us I1.eU (by simpa using hl)
 refine wpAny_call (codeAny_mono (F.run X.A X.stack s1 H1 ⟨us,[]⟩ us vs Q (W σ) hr I1.OU hbd r q) λr s' hq=>?_);cases r with
 | error e=>exact hx pins σ H1 s1 e s' I1 hq
 | ok fl =>
  cases fl with
  | ret u=>exact I1.after hq
  | next=>exact W8 hq
  | brk=>exact W8 hq
  | cont=>exact W8 hq
end
structure zDY(C:wo)(oe:Obj):Prop where
 cls:oe.cls=C
 fld:∃vs,oe.data=.fields vs/\vs[2]? = some .none
 dict:oe.dict=none
section
variable{X:Cx}{x n:Str}{G:wo}{i:Nat}{b₀ : vc}{body suite:List vc}{np hpos pos:Pos}{tb:(St->XK)->TS}{th:wf->wo->TS}
end
structure Hd(X:Cx)(ex:wf)(C:wo)(oe:Obj):Prop where
 hd:X.A.handled=some (.ref ex)
 pn:(ex,oe)∈X.pn
 ob:zDY C oe
section
variable{P:wT}{w:wX}{K:wa}{mg:.M}{base:wS}
end
section
variable{X:Cx}{k:Nat}{f:wf}{fd:wG}{ps:.U}{sp:wf->wo->Sp}{x:Str}{p pos:Pos}{e:Expr}{es:.aG}{t:TA}{ex:wf}{C:wo}{oe:Obj}
end
variable{scope:Scope}
def jz(cells:.bf):List (Str × Vb)->List (Str × wf)->List (Str × wf)
 | [],acc=>acc
 | (n,k)::r,acc=>jz cells r (if(k == NameKind.free)=true then(n,(cells.lookup n).getD 0)::acc else acc)
theorem znk{env:Env}(h:∀y∈scope.names,y.2=.free->∃c,env.cells.lookup y.1=some c):closureFor scope env=pure (jz env.cells scope.names []):=by
 unfold closureFor;generalize scope.names=names at h
 suffices g:∀(names:List (Str × Vb))(acc:.bf),(∀y∈names,y.2=.free->∃c,env.cells.lookup y.1=some c) ->
     (forIn names acc λ(x:Str × Vb)(r:.bf)=>if(x.2 == NameKind.free)=true then do let c <- cellOf env x.1;pure (ForInStep.yield ((x.1,c)::r))else pure (ForInStep.yield r):Sem (List (Str × wf)))=pure (jz env.cells names acc) by
   have:=g names [] h
   show(_ >>= pure)=_
   rw[bind_pure];exact this
 intro names
 induction names with
 | nil=>intro acc _;rfl
 | cons y r ih =>
   intro acc hy;obtain⟨n,k⟩:=y;rw[qL]
   by_cases e:(k == NameKind.free)=true
   . obtain⟨c,hc⟩:=hy (n,k) wL (beq_iff_eq.mp e)
     have hcell:cellOf env n=pure c:=by
       unfold cellOf;rw[hc]
     simp only[e,if_true,hcell,pure_bind];rw[ih _ λz hz=>hy z (wH _ hz)]
     show _=pure (jz env.cells r _)
     simp only[e,if_true,hc,xj]
   . simp only[e,pure_bind]
     rw[if_neg .u,pure_bind];dsimp only;rw[ih _ λz hz=>hy z (wH _ hz)]
     show _=pure (jz env.cells r _)
     rw[if_neg e]
theorem PU{cells:.bf} : ∀(names:List (Str × Vb))(acc:.bf)(x:Str)(c:wf),(∀y∈names,y.2=.free->∃c,cells.lookup y.1=some c)->(∀x c,acc.lookup x=some c->cells.lookup x=some c) ->
  (jz cells names acc).lookup x=some c->cells.lookup x=some c
 | [],acc,x,c,_,ha,h=>ha x c h
 | (n,k)::r,acc,x,c,hy,ha,h=>by
  unfold jz at h;refine PU r _ x c (λz hz=>hy z (wH _ hz)) (λx' c' h'=>?_) h
  split at h'
  ·rename_i e
   obtain⟨c0,hc0⟩:=hy (n,k) wL (beq_iff_eq.mp e);rw[qE]at h'
   split at h'
   ·rename_i e2
    rw[beq_iff_eq.mp e2,hc0];rw[hc0]at h';exact h'
   ·exact ha x' c' h'
  ·exact ha x' c' h'
theorem zuC{cells:.bf} : ∀(names:List (Str × Vb))(acc:.bf)(x:Str),(∃c,acc.lookup x=some c)->∃c,(jz cells names acc).lookup x=some c
 | [],acc,x,h=>h
 | (n,k)::r,acc,x,h=>by
  unfold jz;refine zuC r _ x ?_
  split
  ·rw[qE]
   split
   ·exact⟨_,rfl⟩
   ·exact h
  ·exact h
theorem UQ{cells:.bf} : ∀(names:List (Str × Vb))(acc:.bf)(x:Str),(x,NameKind.free)∈names->∃c,(jz cells names acc).lookup x=some c
 | [],acc,x,h=>nomatch h
 | (n,k)::r,acc,x,h=>by
  unfold jz;rcases wO.mp h with e | e
  ·cases e
   rw[if_pos .ab];refine zuC r _ _ ?_;rw[qE];simp
  ·exact UQ r _ x e
theorem zoG(g:Str->Vb->Vb):∀(names:List (Str × Vb))(x:Str),(names.map λy=>(y.1,g y.1 y.2)).lookup x=(names.lookup x).map (g x)
 | [],x=>rfl
 | (n,k)::r,x=>by
  rw[vi,qE,qE];dsimp only
  by_cases e:(x == n)=true
  ·have e':=beq_iff_eq.mp e
   subst e';simp
  ·rw[ul]at e
   simp only[e];exact zoG g r x
def BC(env:Env)(x:Str)(k:Vb):Vb:=if(k == .free&&env.scope.kind == .function&&env.kindOf x == some .cell)=true then .cell else k
theorem Sl{env:Env}(x:Str):(relabel scope env).names.lookup x=(scope.names.lookup x).map (BC env x):=by
 rw[<- zoG]
 show(scope.names.map _).lookup x=_
 congr 2
 funext ⟨n,k⟩
 dsimp only[BC]
 split<;>rfl
def FV(inner outer:List (Str × Vb))(N N':.U)(src:.S):Bool :=
 (inner.all λy=>(y.2 != .cell)&&(y.2 != .local || inner.lookup y.1 == some .local)&&(y.2 != .free || outer.lookup y.1 == some .cell)) &&
 (N'.length == src.length)&&((N'.zip src).all λp=>match p.2 with
  | none=>true
  | some j=>N[j]? == some p.1&&outer.lookup p.1 == some .cell&&inner.lookup p.1 == some .free)
theorem rP.by{X:Cx}{N':.U}{src:.S}(hk:scope.kind=.function)(hc:FV scope.names X.env.scope.names X.N N' src=true)(hf:∀x,X.env.scope.names.lookup x=some .cell->∃c,X.env.cells.lookup x=some c:=by exact λx h=>Bm h) :
  rP X N' scope (jz X.env.cells scope.names []) src:=by
 unfold FV at hc;simp only[vf,Wq,beq_iff_eq,uG,bne_iff_ne,ne_eq]at hc;obtain⟨⟨h1,h2⟩,h3⟩:=hc;have fr:∀y∈scope.names,y.2=.free->∃c,X.env.cells.lookup y.1=some c:=λy hy e=>hf _ (((h1 y hy).2).elim (λz=>absurd e z) id)
 have at3:∀(i:Nat)(x:Str)(j:Nat),N'[i]? = some x->src[i]? = some (some j)->X.N[j]? = some x/\X.env.scope.names.lookup x=some .cell/\scope.names.lookup x=some .free:=λi x j e1 e2=>by
  have m:(x,some j)∈N'.zip src:=by
   rw[List.mem_iff_getElem?];exact⟨i,by rw[List.getElem?_zip_eq_some];exact⟨e1,e2⟩⟩
  have:=h3 _ m;simp only[vf,beq_iff_eq]at this;exact⟨this.1.1,this.1.2,this.2⟩
 refine⟨hk,λy hy=>((h1 y hy).1).1,λy hy e=>(((h1 y hy).1).2).elim (λz=>absurd e z) id,⟨znk fr,λx c e=>PU _ _ x c fr (λ_ _ z=>by simp at z) e,λx e=>?_⟩,⟨h2,λi j x e1 e2=>⟨(at3 i x j e1 e2).1,(at3 i x j e1 e2).2.1⟩⟩,λi x e1 e2=>?_⟩
 ·rw[Sl]at e
  cases q:scope.names.lookup x with
  | none=>rw[q]at e;simp at e
  | some k =>
   have hm:=Vo q
   have hk:k=.free:=by
    rw[q]at e;simp only[uH,Qe,BC]at e;have nc:k≠.cell:=((h1 _ hm).1).1;rcases e with e | e
    ·split at e
     ·rename_i z;simp only[vf,beq_iff_eq]at z;exact z.1.1
     ·exact absurd e nc
    ·split at e
     ·cases e
     ·exact e
   subst hk;exact UQ _ _ x hm
 ·obtain⟨o,ho⟩:∃o,src[i]? = some o:=by
   have:i<src.length:=by rw[<- h2];exact(Vg.mp e1).1
   exact⟨src[i],by simp[this]⟩
  cases o with
  | none=>exact absurd ho e2
  | some j =>
   have:=(at3 i x j e1 ho).2.2;rw[Sl,this];simp only[uH,Qe,BC]
   split
   ·exact .inl rfl
   ·exact .inr rfl
section
variable{prog:wT}{w:wX}{A:vB}{E:.n}{s:wq}
end
section
variable{X:Cx}{ex:wf}{C:wo}{oe:Obj}{pins:.j}{σ : St}{H:Hp}{s:wq}{pos:Pos}
variable{tg l:Expr}{tl:TE}
variable{N':.U}{scope:Scope}{cl:.bf}{src:.S}{elt tgt iter:Expr}{ifs:.aG}{wi:TI}{g:TG}{tt:TT}{te:TE}
end
def Dc(K:wa)(g:TG)(tt:TT)(te:TE)(src:.S)(σ : St)(x:V)(H1:Hp)(Q:VK):Prop :=
 ∃a,x=.ref a/\(∃xs,aF K H1 a xs) /\ ∀D,H1 D=none->mD g tt te (k9 K a) D (eX src σ) (upd H1 D .cf) (λH'=>Q .bG H')
def AN(K:wa)(g:TG)(tt:TT)(te:TE)(src:.S)(σ : St)(x:V)(H1:Hp)(Q:VK):Prop :=
 ∃a,x=.ref a/\(∃xs,a_ K H1 a xs) /\ ∀D,H1 D=none->mD g tt te (kX K a) D (eX src σ) (upd H1 D .cf) (λH'=>Q .bG H')
def KZ(g:TG)(tt:TT)(te:TE)(src:.S)(σ : St)(vs:.x)(H1:Hp)(Q:VK):Prop :=
 ∃j:Int,vs=[.int j] /\ -(2^62)<=j/\j<2^62 /\ ∀D,H1 D=none->mD g tt te (iY 0 j.toNat) D (eX src σ) (upd H1 D .cf) (λH'=>Q .bG H')
section
variable{K:wa}{g:TG}{tt:TT}{te ta:TE}{tA:TA}{src:.S}{σ : St}{H:Hp}{Q:VK}{a:wf}{xs:.x}{n:Int}
theorem zzW(h:ta σ H λx H1=>Dc K g tt te src σ x H1 Q):lU src (F7 K ta) g tt te σ H Q:=h
theorem zBh(h:ta σ H λx H1=>AN K g tt te src σ x H1 Q):lU src (Y2 K ta) g tt te σ H Q:=h
theorem zAN(h:tA σ H λvs H1=>KZ g tt te src σ vs H1 Q):lU src (HU tA) g tt te σ H Q:=h
def tN(Pv:wf->Nat->List V->St->Hp->Prop)(D:wf)(i:Nat)(σ3:St)(y:V)(H5:Hp):Prop :=
 ∃ys,H5 D=some .cj/\ys.length<vn /\ ∃ys',Pv D (i+1) ys' σ3 (upd H5 D (.lst (ys++[y])))
def j4(Pv:wf->Nat->List V->St->Hp->Prop)(g:TG)(tt:TT)(te:TE)(D:wf)(i:Nat)(x:V)(σ':St)(H':Hp):Prop :=
 g x σ' H' λσ3 H3=>tt σ3 H3 λok H4=>if ok=true then te σ3 H4 λy H5=>tN Pv D i σ3 y H5 else ∃ys',Pv D (i+1) ys' σ3 H4
theorem kF{Pv:wf->Nat->List V->St->Hp->Prop}{D:wf}{i:Nat}{σ3:St}{y:V}{H5:Hp}{ys:.x}(h:H5 D=some .cj)(z:ys.length<=1000)(q:∀H6,Exc D H5 H6->H6 D=some (.lst (ys++[y]))->Pv D (i+1) (ys++[y]) σ3 H6):tN Pv D i σ3 y H5 :=
 ⟨ys,h,iS z,_,q _ (Exc.upd D H5 _) dR⟩
theorem II{J:It}{N:Nat}{D:wf}{σ0:St}{H0:Hp}{R:Hp->Prop}(Pv:wf->Nat->List V->St->Hp->Prop)(item:Nat->V->Prop)(h0:Pv D 0 [] σ0 H0)
  (stop:∀i ys σ' H',Pv D i ys σ' H'->N<=i->J.stop i H') (go:∀i ys σ' H',Pv D i ys σ' H'->i<N->J.go i H') (gM:∀i ys σ' H' x H2,Pv D i ys σ' H'->J.gM i H' x H2->H2=H'/\item i x)
  (hs:∀i x ys σ' H',i<N->item i x->Pv D i ys σ' H'->j4 Pv g tt te D i x σ' H') (hd:∀ys σ' H',Pv D N ys σ' H'->R H'):mD g tt te J D σ0 H0 R:=by
 refine⟨λi m σ' H'=>i+m=N /\ ∃ys,Pv D i ys σ' H',⟨N,by lia,[],h0⟩,?_⟩;rintro i m σ' H' ⟨him,ys,hp⟩
 by_cases hm:m=0
 ·subst hm
  have e:i=N:=by lia
  subst e;exact .inl ⟨stop _ _ _ _ hp .ax,hd _ _ _ hp⟩
 ·refine .inr ⟨go _ _ _ _ hp .c,λσ2 H2=>∃ys,Pv D (i+1) ys σ2 H2,λσ2 H2 h=>⟨m-1,by lia,by lia,h⟩,λx H2 hy2=>?_⟩
  obtain⟨e,hit⟩:=gM _ _ _ _ _ _ hp hy2;subst e;exact hs i x ys σ' H2 .c hit hp
theorem sk(hx:aF K H a xs)(Pv:wf->Nat->List V->St->Hp->Prop)(h0:∀D H',H D=none->au H H'->H' D=some .cf->Pv D 0 [] (eX src σ) H')(hl:∀D i ys σ' H',Pv D i ys σ' H'->aF K H' a xs)
  (hs:∀D i x ys σ' H',xs[i]? = some x->Pv D i ys σ' H'->j4 Pv g tt te D i x σ' H') (hd:∀D ys σ' H',Pv D xs.length ys σ' H'->Q .bG H'):Dc K g tt te src σ .bu H Q:=by
 refine⟨a,rfl,⟨xs,hx⟩,λD hD=>II (N:=xs.length) Pv (λi x=>xs[i]? = some x) (h0 D _ hD (au.upd hD) dR) (λi ys σ' H' hp hi=>⟨xs,hl _ _ _ _ _ hp,hi⟩) (λi ys σ' H' hp hi=>?_) (λi ys σ' H' x H2 hp hy=>?_)
  (λi x ys σ' H' _ hit hp=>hs D i x ys σ' H' hit hp) (hd D)⟩
 ·exact⟨xs,xs[i],hl _ _ _ _ _ hp,by simp[hi]⟩
 ·obtain⟨e,hy⟩:=hy
  exact⟨e,hy xs (hl _ _ _ _ _ hp)⟩
theorem zxc(hx:a_ K H a xs)(Pv:wf->Nat->List V->St->Hp->Prop)(h0:∀D H',H D=none->au H H'->H' D=some .cf->Pv D 0 [] (eX src σ) H')(hl:∀D i ys σ' H',Pv D i ys σ' H'->a_ K H' a xs)
  (hs:∀D i x ys σ' H',xs[i]? = some x->Pv D i ys σ' H'->j4 Pv g tt te D i x σ' H') (hd:∀D ys σ' H',Pv D xs.length ys σ' H'->Q .bG H'):AN K g tt te src σ .bu H Q:=by
 refine⟨a,rfl,⟨xs,hx⟩,λD hD=>II (N:=xs.length) Pv (λi x=>xs[i]? = some x) (h0 D _ hD (au.upd hD) dR) (λi ys σ' H' hp hi=>⟨xs,hl _ _ _ _ _ hp,hi⟩) (λi ys σ' H' hp hi=>?_) (λi ys σ' H' x H2 hp hy=>?_)
  (λi x ys σ' H' _ hit hp=>hs D i x ys σ' H' hit hp) (hd D)⟩
 ·exact⟨xs,xs[i],hl _ _ _ _ _ hp,by simp[hi]⟩
 ·obtain⟨e,hy⟩:=hy
  exact⟨e,hy xs (hl _ _ _ _ _ hp)⟩
theorem Aj(h0' : -1000000000<=n)(h1:n<1000000000)(Pv:wf->Nat->List V->St->Hp->Prop)(h0:∀D H',H D=none->au H H'->H' D=some .cf->Pv D 0 [] (eX src σ) H')
  (hs:∀D (i:Nat) ys σ' H',i<n.toNat->Pv D i ys σ' H'->j4 Pv g tt te D i (.int (i:Int)) σ' H') (hd:∀D ys σ' H',Pv D n.toNat ys σ' H'->Q .bG H'):KZ g tt te src σ [.int n] H Q:=by
 refine⟨n,rfl,by lia,by lia,λD hD=>II (N:=n.toNat) Pv (λi x=>x=.int (i:Int)) (h0 D _ hD (au.upd hD) dR) (λi ys σ' H' hp hi=>hi) (λi ys σ' H' hp hi=>hi) (λi ys σ' H' x H2 hp hy=>?_)
  (λi x ys σ' H' hi hit hp=>?_) (hd D)⟩
 ·obtain⟨e,hy⟩:=hy
  exact⟨e,by rw[hy,Int.zero_add]⟩
 ·subst hit
  exact hs D i ys σ' H' hi hp
end
structure AB(u' u:TS):Prop where
 e:u'=u
theorem zCl{t u:TS}{D:df}{σ : St}{H:Hp}(h:∀u',AB u' u->t {D with nx:=u' D} σ H):Ky t u D σ H:=h u ⟨rfl⟩
theorem AB.go{u' u:TS}{D:df}{σ : St}{H:Hp}(e:AB u' u)(h:u D σ H):u' D σ H:=by rw[e.e];exact h
theorem Fn{P:wT}{w:wX}{X:Cx} : rZ (gB P w) X E0:=λ_ _ _ _ _ _ _ h=>by
 obtain⟨_,_,_,_,_,_,_,_,_,_,_,q⟩:=h;exact q.elim
theorem nZ.zI{P:wT}{w:wX}{K:wa}{mg:.M}{base:wS}{x qual:Str}{st:vc}{f:wf}{fd:wG}{N ps:.U}{k:Nat}{sp:Sp}(F:nZ K x qual st f fd)(S:aO N ps (aJ st))(len:∀vs H Q E,sp vs H Q E->vs.length=ps.length)
  (hbody:N.Nodup->∀(cdv:wo)(A:vB)(outer:.bT)(s:wq)(H:Hp)(vs:.x)(Q:VK)(E:XK),eY k .bq->sp vs H Q E ->
   ∃t,gW (kq (gB P w) P w K mg base N qual (aJ st) f cdv A outer s H E) (nQ st) t/\t {nx:=λ_ H'=>Q .bX H',rt:=Q} (start N vs) H):aI P w K mg base (gB P w) (k+1) f fd ps sp:=by
 obtain⟨oc,od,kV,doc,pm,an,cdv,ct,osl,rfl,lk,hcd⟩:=F.ex;exact Zy lk hcd S len λA outer s H vs Q E hr hsp=>hbody S.nd cdv A outer s H vs Q E hr hsp
theorem Exc.back{p:wf}{H H' H2:Hp}(b:Exc p H' H2)(s:Exc p H H'):Exc p H H2:=s.trans b
theorem Gp{X:Cx}{i j v:Int}{k1 k2:Nat}{p1 p2 pos:Pos}(hc:ZV i j)(hv:i^j.toNat=v):PE X (.BinOp (.Constant (.int i) k1 p1) .Pow (.Constant (.int j) k2 p2) pos) (tC (.int v)):=by
 subst hv;exact λpins s σ H Q I h=>(az zEV ar ar:PE X _ _) pins s σ H Q I ⟨i,j,rfl,rfl,hc,h⟩
theorem zzN{α : Type}[DecidableEq α]{x : α}{A B:Prop}(h:B):if(!decide (x=x))=true then A else B:=by simpa using h
theorem zyK{α : Type}[DecidableEq α]{x : α}{A B:Prop}(h:A):if decide (x=x)=true then A else B:=by simpa using h
section
variable{K:wa}{σ : St}{H H':Hp}{Q:VK}{QB:Bool->Hp->Prop}{D:df}{t:TA}{v w:V}{xs ys:.x}{m n:Int}{r:Rat}{p:wf}
variable{x y:Rat}
theorem zGm{A B:Prop}(h:B):if(!true)=true then A else B:=by simpa using h
theorem zGI{A B:Prop}(h:A):if(!false)=true then A else B:=by simpa using h
theorem zzh{b:Bool}(q:Q .cJ H):fU K [.bl b,.ty "bool"] H Q:=Z5 (mh.mpr rfl) q
theorem zDP{a b:V}(h:H p=some (.lst [a,b]))(h0:0<=m)(h1:m<2)(q:∀z,z=a\/z=b->Q z H):dM K .ay .cB H Q :=
 YF (λz=>z=a\/z=b) (aF.of h) h0 (by simpa using h1) .u q
theorem zCX{a b:Int}(h:H p=some (.lst [.int a,.int b]))(h0:0<=m)(h1:m<2)(q:∀z,z=a\/z=b->Q (.int z) H):dM K .ay .cB H Q :=
 zDP h h0 h1 λz hz=>by rcases hz with rfl | rfl;exact q _ .aI;exact q _ (.inr rfl)
theorem zs6(h1:x.num=y.num)(h2:.ac=y.den):x=y:=by
 have h2':x.den=y.den:=by lia
 exact uT h1 h2'
theorem p6(x y:Rat):wP (N x) (N y)=decide (x=y):=by
 have e:wP (N x) (N y)=(decide (x.num=y.num)&&decide (.ac=y.den)):=by
  simp only[N,wP,Ww,Q2,Qs]
 rw[e,vI,vf,decide_eq_true_eq,decide_eq_true_eq,decide_eq_true_eq]
 constructor
 ·rintro ⟨h1,h2⟩;exact zs6 h1 h2
 ·rintro rfl;exact⟨rfl,rfl⟩
theorem A_(x:Rat):vM (N x)=true:=by simp[N,vM,vD,vK,WC,Wa]
theorem Aw(h:Is K H v (N x))(k:Is K H w (N y))(q:Q (.bl (decide (x=y))) H):jo K v w H Q:=nu h k (A_ x) (A_ y) (by rw[p6];exact q)
theorem zEA(h:Is K H v (N x))(k:Is K H w (N y))(q:Q (.bl (!decide (x=y))) H):md K v w H Q:=yM h k (A_ x) (A_ y) (by rw[p6];exact q)
end
theorem Sb{X:Cx} : bV X (vR .In) (iM X.K false):=zzy
theorem zb{X:Cx} : bV X (vR .NotIn) (iM X.K true):=ztS
def R(a b:Rat):wF:=.tuple [N a,N b]
theorem Ae(a b:Rat):c_ (R a b)=true:=by simp[R,c_,aT,ee]
structure aK(a b:Rat):Prop where
 a0:0<a
 a4:a<=4
 ad:a.den<=8
 b0:0<=b
 b1:b<=1
 bd:b.den<=12
 ab:1<=a+b
theorem aK.ba{a b:Rat}(h:.aS):af 10 a:=af.small (c:=4) (d:=8) (Wk h.a0) h.a4 h.ad .ab .ab
theorem aK.bb{a b:Rat}(h:.aS):af 10 b:=af.small (c:=1) (d:=12) h.b0 h.b1 h.bd .ab .ab
section
variable{K:wa}{H:Hp}{Q:VK}{v:V}{a b:Rat}{σ : St}{gs:mq}{QS:St->Hp->Prop}
theorem zDA(h:Is K H v (R a b))(q:∀x,Is K H x (N a)->Q x H):dM K v (.int 0) H Q:=aD (j:=0) h rfl q
theorem zCM(h:Is K H v (R a b))(q:∀x,Is K H x (N b)->Q x H):dM K v (.int 1) H Q:=aD (j:=1) h rfl q
theorem Is.gy{H':Hp}(h:Is K H v (R a b))(s:aW H H'):Is K H' v (R a b):=Is.keep s _ v (Ae a b) h
theorem HZ{x y:V}(h1:Is K H x (N a))(h2:Is K H y (N b))(q:∀v H',au H H'->Is K H' v (R a b)->Q v H'):oE K [x,y] H Q :=
 cW (by show 2<=1000;decide) (.cons h1 (.cons h2 .nil)) q
theorem zGF(a b c d:Rat):wP (R a b) (R c d)=(decide (a=c)&&decide (b=d)):=by
 simp only[R,wP,Ww,Q2,p6]
end
section
variable{K:wa}{H H' H2:Hp}{Q:VK}{v w:V}{a b c d:Rat}{D:wf}
theorem zy3(h:Is K H v (R a b))(q:Q .cJ H):fU K [v,.ty "tuple"] H Q:=zuK h q
theorem zDm(h:Is K H v (R a b))(q:Q (.int 2) H):lB K [v] H Q:=nS h q
theorem au.grow(s:au H H')(n:H D=none)(e:Exc D H' H2):au H H2:=λb o h=>e b o (mw h n) (s b o h)
end
theorem zB3{σ : St}{H:Hp}{Q:Bool->Hp->Prop}(q:Q true H):Uy σ H Q:=q
theorem ZK{Pv:wf->Nat->List V->St->Hp->Prop}{g:TG}{tt:TT}{te:TE}{D:wf}{i:Nat}{x:V}{σ':St}{H':Hp}(h:g x σ' H' λσ3 H3=>tt σ3 H3 λok H4=>if ok=true then te σ3 H4 λy H5=>tN Pv D i σ3 y H5 else ∃ys',Pv D (i+1) ys' σ3 H4) :
  j4 Pv g tt te D i x σ' H':=h
section
variable{K:wa}{σ : St}{H:Hp}{Q:VK}{E:XK}{D:df}{t:TA}{C G:wo}{i:Nat}{tb:(St->XK)->TS}{th:wf->wo->TS}{sp:Sp}{W:St->XK}{ex C':wf}{b:Bool}
theorem dq21:(zBJ C E t D σ H)=(t σ H λvs H1=>vs.length<=vn/\E C none H1):=rfl
theorem zAI(h:t σ H λvs H1=>vs.length<=vn/\E C none H1):zBJ C E t D σ H:=h
theorem dq22:(G8 sp W t σ H Q)=(t σ H λvs H1=>sp vs H1 Q (W σ)):=rfl
theorem zBK(h:t σ H λvs H1=>sp vs H1 Q (W σ)):G8 sp W t σ H Q:=h
end
variable{p:Pos}{es:.aG}{env:Env}
theorem z8(s:.am):XB (Wn s)=true:=by
 rw[Str.ofString_eq_toList,XB];simp only[List.all_toArray,XC,Wq,Function.comp,decide_eq_true_eq];intro c _;have:=c.valid;simp only[Char.toNat];rcases this with h | h
 ·have:c.val.toNat<0xd800:=h
  lia
 ·exact h.2
theorem fF{K:wa}{H:Hp}{c:wf}{p q:Int}(r:Rat)(h:a_ K H c [.int p,.int q])(e1:r.num=p)(e2:(r.den:Int)=q):Is K H (.ref c) (N r):=by
 subst e1 e2;exact cA.mpr ⟨c,_,rfl,h,cP.mpr ⟨_,_,rfl,cj.mpr rfl,cP.mpr ⟨_,_,rfl,cj.mpr rfl,fO.mpr rfl⟩⟩⟩
theorem Bl(s:.am):vM (.str (Wn s))=true:=by
 simp[vM,vD,WC,z8]
theorem rL{c:Const}{k:Nat} : w9 ((.Constant c k p)::es) env=(false,eval (.Constant c k p) env)::w9 es env:=rfl
theorem AU{o:Operator}{x y:Expr} : w9 ((.BinOp x o y p)::es) env=(false,eval (.BinOp x o y p) env)::w9 es env:=rfl
theorem bM{x:Str} : w9 ((.Name x p)::es) env=(false,eval (.Name x p) env)::w9 es env:=rfl
theorem gj{x y:Expr} : w9 ((.Subscript x y p)::es) env=(false,eval (.Subscript x y p) env)::w9 es env:=rfl
section
variable{K:wa}{H H' H2:Hp}{Q:VK}{R:Prop}{v w y:V}{p l:wf}{xs ys zs:.x}{ns:.p}{m:Int}{σ : St}
end
section
variable{K:wa}{H H' H2:Hp}{Q:VK}{R:Prop}{v w y:V}{p l:wf}{xs ys zs:.x}{ns:.p}{m:Int}{σ : St}{to:TE}{t:TA}{T:.am}{r:V->List V->Hp->VK->Prop}
theorem dq23:(O9 K T r to t σ H Q)=(to σ H λx H1=>Ak K T x H1/\t σ H1 λxs H2=>r x xs H2 Q):=rfl
theorem zGL(h:to σ H λx H1=>Ak K T x H1/\t σ H1 λxs H2=>r x xs H2 Q):O9 K T r to t σ H Q:=h
theorem jh(h:aF K H p xs)(q:R):Ak K "list" (.ref p) H/\R:=⟨.inl ⟨rfl,xs,h⟩,q⟩
theorem jm(h:H l=some .b7)(z:xs.length<=1000)(q:∀H',Exc l H H'->H' l=some (.lst (xs++[y]))->Q .bX H'):UN .az [y] H Q:=⟨l,xs,y,rfl,rfl,h,iS z,q _ (Exc.upd l H _) dR⟩
end
variable{X:Cx}
def tO(K:wa):List V->Hp->VK->Prop:=λxs H Q=>∃p ys,xs=[.ref p]/\((aF K H p ys /\ ∀l,H l=none->Q .az (upd H l (.tup ys)))\/(a_ K H p ys/\Q .ay H))
def fB(K:wa):List V->Hp->VK->Prop:=λxs H Q=>∃p ys,xs=[.ref p]/\(aF K H p ys\/a_ K H p ys) /\ ∀l,H l=none->Q .az (upd H l .cj)
theorem zuI : bN X (.type "tuple") (tO X.K):=zqY
theorem gS : bN X (.type "list") (fB X.K):=zte
def Bz(K:wa):V->Option Int->Option Int->Hp->VK->Prop:=λx lo hi H Q=>Y4 K x lo hi H Q\/Sm K x lo hi H Q
theorem fK : nV X (Bz X.K):=zCF.or zFO
section
variable{K:wa}{H H' H2:Hp}{Q:VK}{QO:Option Int->Hp->Prop}{R:Prop}{v w y:V}{p l:wf}{xs ys zs:.x}{ds es:.bP}{m:Int}{σ : St}{te:TE}{tl th:TO}{r:V->Option Int->Option Int->Hp->VK->Prop}{lo hi:.cv}
theorem yZ(h:aF K H p ys)(q:∀l H',H l=none->au H H'->H' l=some (.tup ys)->Q .az H'):tO K [.ref p] H Q:=⟨p,ys,rfl,.inl ⟨h,λl hl=>q l _ hl (au.upd hl) dR⟩⟩
theorem iI(h:Is K H v .cq)(q:∀w H',au H H'->Is K H' w .aH->Q w H'):tO K [v] H Q:=by
 obtain⟨a,xs,rfl,hs,t⟩:=bY.mp h;exact yZ hs λl H' _ s e=>q _ H' s (cA.mpr ⟨l,xs,rfl,.of e,ah.same s ds xs t⟩)
theorem Tr(h:Is K H v .aH)(q:Q v H):tO K [v] H Q:=by
 obtain⟨a,xs,rfl,hs,t⟩:=cA.mp h;exact⟨a,xs,rfl,.inr ⟨hs,q⟩⟩
theorem mj(h:Is K H v .aH)(q:∀l H' ys,H l=none->au H H'->H' l=some .cj->ah K H' ys ds->Q .az H'):fB K [v] H Q:=by
 obtain⟨a,xs,rfl,hs,t⟩:=cA.mp h;exact⟨a,xs,rfl,.inr hs,λl hl=>q l _ xs hl (au.upd hl) dR (ah.same (au.upd hl) ds xs t)⟩
theorem zK(h:Is K H v .cq)(q:∀l H' ys,H l=none->au H H'->H' l=some .cj->ah K H' ys ds->Q .az H'):fB K [v] H Q:=by
 obtain⟨a,xs,rfl,hs,t⟩:=bY.mp h;exact⟨a,xs,rfl,.inl hs,λl hl=>q l _ xs hl (au.upd hl) dR (ah.same (au.upd hl) ds xs t)⟩
theorem dq29:(PZ r te tl th σ H Q)=(te σ H λx H1=>tl σ H1 λl H2=>th σ H2 λu H3=>r x l u H3 Q):=rfl
theorem zAz(h:te σ H λx H1=>tl σ H1 λl H2=>th σ H2 λu H3=>r x l u H3 Q):PZ r te tl th σ H Q:=h
theorem dq30:(zxO σ H QO)=(QO none H):=rfl
theorem zzu(q:QO none H):zxO σ H QO:=q
theorem dq31:(zEh te σ H QO)=(te σ H λx H1=>∃i,x=.int i/\QO (some i) H1):=rfl
theorem zCq(h:te σ H λx H1=>∃i,x=.int i/\QO (some i) H1):zEh te σ H QO:=h
theorem zA8{RI:Int->Prop}(q:RI m):∃i,V.int m=V.int i/\RI i:=⟨m,rfl,q⟩
def cutD{α : Type}(xs:.cc)(lo hi:.cv):List α:=(xs.drop (HT.bK xs.length 0 lo)).take (HT.bK xs.length xs.length hi-HT.bK xs.length 0 lo)
theorem ah.take:∀{ds:.bP}{xs:.x}(n:Nat),ah K H xs ds->ah K H (xs.take n) (ds.take n)
 | _,_,0,h=>by simp[ah.nil]
 | [],_,n+1,h=>by rw[fO.mp h];simp[ah.nil]
 | d::ds,_,n+1,h=>by
  obtain⟨x,r,rfl,q,t⟩:=cP.mp h;rw[Xm,Xm];exact .cons q (ah.take n t)
theorem ah.drop:∀{ds:.bP}{xs:.x}(n:Nat),ah K H xs ds->ah K H (xs.drop n) (ds.drop n)
 | _,_,0,h=>by simpa using h
 | [],_,n+1,h=>by rw[fO.mp h];simp[ah.nil]
 | d::ds,_,n+1,h=>by
  obtain⟨x,r,rfl,q,t⟩:=cP.mp h;rw[QK,QK];exact ah.drop n t
theorem ah.cut(h:ah K H xs ds):ah K H (mE xs lo hi) (cutD ds lo hi):=by
 unfold mE cutD;rw[h.length];exact(h.drop _).take _
theorem zFq(h:aF K H p xs)(q:∀l H',H l=none->au H H'->H' l=some (.lst (mE xs lo hi))->Q .az H'):Bz K .ay lo hi H Q:=.inl ⟨p,xs,rfl,h,λl hl=>q l _ hl (au.upd hl) dR⟩
theorem iE(h:Is K H v .cq)(q:∀l H' ys,H l=none->au H H'->H' l=some .cj->ah K H' ys (cutD ds lo hi)->Q .az H'):Bz K v lo hi H Q:=by
 obtain⟨a,xs,rfl,hs,t⟩:=bY.mp h;exact zFq hs λl H' hl s e=>q l H' _ hl s e (ah.same s _ _ t.cut)
theorem yS(h:Is K H v .aH)(hw:¬ (HT.bK ds.length 0 lo=0/\HT.bK ds.length ds.length hi=ds.length))(q:∀w H',au H H'->Is K H' w (.tuple (cutD ds lo hi))->Q w H'):Bz K v lo hi H Q:=by
 obtain⟨a,xs,rfl,hs,t⟩:=cA.mp h;refine .inr ⟨a,xs,rfl,hs,by rw[t.length];exact hw,λl hl=>q _ _ (au.upd hl) (cA.mpr ⟨l,_,rfl,.of dR,ah.same (au.upd hl) _ _ t.cut⟩)⟩
theorem tS{α : Type}(xs:.cc):cutD xs none (some (-1))=xs.dropLast:=by
 unfold cutD
 show(xs.drop 0).take (((-1:Int)+.cE).toNat-0)=_
 rw[xQ,xP]
 congr 1
 lia
theorem Gv{α : Type}(xs:.cc):cutD xs (some 1) none=xs.tail:=by
 unfold cutD
 show(xs.drop (min 1 xs.length)).take (xs.length-min 1 xs.length)=_
 cases xs with
 | nil=>rfl
 | cons x xs =>
  have e:min 1 (x::xs).length=1:=by rw[Wi];lia
  rw[e,QK,xQ,Wi,qR,Wm,uR]
end
def TN(xs:.a):wF:=.tuple .bg
def LN(xs:.a):wF:=.list .bg
theorem fh:∀xs:List Rat,aT .bg=true
 | []=>by simp[aT]
 | x::xs=>by rw[vi,aT,ee,fh xs];rfl
theorem d6(xs:.a):c_ (TN xs)=true:=by rw[TN,c_];exact fh xs
theorem Fh(x:Rat):(N x).canLay0=true:=by simp[N,vD,vK]
theorem IS(x:Rat):(N x).depth=1:=by simp[N,WC,Wa]
theorem pM:∀xs:List Rat,vK .bg=true
 | []=>by simp[vK]
 | x::xs=>by rw[vi,vK,Fh,pM xs];rfl
theorem AA:∀xs:List Rat,Wa .bg<=1
 | []=>by simp[Wa]
 | x::xs=>by
  have:=AA xs;rw[vi,Wa,IS];lia
theorem zF(xs:.a):vM (TN xs)=true:=by
 unfold vM TN;rw[vD,pM,WC,W3];have:=AA xs;exact decide_eq_true .c
theorem R_(xs:.a):vM (LN xs)=true:=by
 unfold vM LN;rw[vD,pM,WC,W3];have:=AA xs;exact decide_eq_true .c
theorem JJ:∀xs ys:List Rat,Ww .bg (ys.map N)=decide (xs=ys)
 | [],[]=>by simp[Ww]
 | [],y::ys=>by simp[Ww]
 | x::xs,[]=>by simp[Ww]
 | x::xs,y::ys=>by
  rw[vi,vi,Ww,p6,JJ xs ys,vI,vf,decide_eq_true_eq,decide_eq_true_eq,decide_eq_true_eq,uI]
theorem BG(xs ys:.a):wP (TN xs) (TN ys)=decide (xs=ys):=by
 unfold TN;rw[wP,JJ]
theorem zE0(xs ys:.a):wP (LN xs) (LN ys)=decide (xs=ys):=by
 unfold LN;rw[wP,JJ]
section
variable{K:wa}{H H' H2:Hp}{Q:VK}{v w y:V}{p l:wf}{vs:.x}{xs ys:.a}{m:Int}{σ : St}
theorem B6(h:Is K H v (TN xs))(k:Is K H w (TN ys))(q:Q (.bl (decide (xs=ys))) H):jo K v w H Q:=nu h k (zF xs) (zF ys) (by rw[BG];exact q)
theorem PY(h:Is K H v (TN xs))(k:Is K H w (TN ys))(q:Q (.bl (!decide (xs=ys))) H):md K v w H Q:=yM h k (zF xs) (zF ys) (by rw[BG];exact q)
theorem Zi(h:Is K H v (LN xs))(k:Is K H w (LN ys))(q:Q (.bl (decide (xs=ys))) H):jo K v w H Q:=nu h k (R_ xs) (R_ ys) (by rw[zE0];exact q)
theorem JT{i:Nat}(t:ah K H vs .bg)(h:.cp):∃x,vs[i]? = some x/\Is K H x (N .an):=by
 refine t.get ?_;rw[wA,wb,we h]
 rfl
theorem cO{i:Nat}{x:V}(t:ah K H vs .bg)(h:vs[i]? = some x):i<xs.length/\Is K H x (N .an):=by
 have hl:=t.length;rw[wn]at hl
 have hi:i<xs.length:=by
  rcases wJ i vs.length with z | z
  ·lia
  ·rw[wQ z]at h;cases h
 obtain⟨x',e,hx⟩:=JT t hi;rw[h]at e;cases e;exact⟨hi,hx⟩
theorem x_(h:Is K H v (TN xs))(h0:0<=m)(h1:m<xs.length)(q:∀x,Is K H x (N (xs.getD m.toNat 0))->Q x H):dM K v .cB H Q:=by
 obtain⟨a,vs,rfl,hs,t⟩:=cA.mp h;obtain⟨n,rfl⟩:∃n:Nat,m=(n:Int):=⟨m.toNat,by lia⟩;obtain⟨x,e,hx⟩:=JT (i:=n) t .c;exact BA hs (m4 e) (q x hx)
theorem jc(h:Is K H v (LN xs))(h0:0<=m)(h1:m<xs.length)(q:∀x,Is K H x (N (xs.getD m.toNat 0))->Q x H):dM K v .cB H Q:=by
 obtain⟨a,vs,rfl,hs,t⟩:=bY.mp h;obtain⟨n,rfl⟩:∃n:Nat,m=(n:Int):=⟨m.toNat,by lia⟩;obtain⟨x,e,hx⟩:=JT (i:=n) t .c;exact jf hs (m4 e) (q x hx)
theorem sU(h:Is K H v (TN xs))(q:Q (.int xs.length) H):lB K [v] H Q:=nS h (by rw[wn];exact q)
theorem BX(h:Is K H v (LN xs))(q:Q (.int xs.length) H):lB K [v] H Q:=by
 obtain⟨a,vs,rfl,hs,t⟩:=bY.mp h;have:=t.length;rw[wn]at this;exact eP hs (by rw[this];exact q)
theorem cw(h:H l=some (.lst vs))(t:ah K H vs .bg):Is K H .az (LN xs):=bY.mpr ⟨l,vs,rfl,.of h,t⟩
theorem fG:∀{xs:.a}{vs:.x},vs.length=xs.length->(∀i x,vs[i]? = some x->Is K H x (N .an))->ah K H vs .bg
 | [],vs,hl,_=>by
  have:vs=[]:=Vl hl;subst this;exact .nil
 | x::xs,[],hl,_=>by cases hl
 | x::xs,u::vs,hl,h=>by
  rw[vi];exact .cons (h 0 u rfl) (fG (by simpa using hl) λi y e=>h (i+1) y e)
end
section
variable{K:wa}{g:TG}{tt:TT}{te:TE}{src:.S}{σ : St}{H:Hp}{Q:VK}{a:wf}{vs:.x}{n:Int}{tl:St}{o0:.bD}
def jI(H:Hp)(tl:St)(Rel:Nat->V->Hp->Prop)(D:wf)(i:Nat)(ys:.x)(σ':St)(H':Hp):Prop :=
 (∃o,σ'=o::tl)/\H D=none/\au H H'/\H' D=some .cj/\ys.length=i /\ ∀j y,ys[j]? = some y->Rel j y H'
theorem jI.same{Rel:Nat->V->Hp->Prop}{D:wf}{i:Nat}{ys:.x}{σ':St}{H':Hp}(h:jI H tl Rel D i ys σ' H'):au H H':=h.2.2.1
theorem eT{Rel:Nat->V->Hp->Prop}{D:wf}{i:Nat}{ys:.x}{σ' σ3:St}{H1 H5:Hp}{y:V}(inv:jI H tl Rel D i ys σ' H1)(hi:i<=1000)(hk:∀i v H1 H2,aW H1 H2->Rel i v H1->Rel i v H2)(hσ : ∃o,σ3=o::tl)(s:au H1 H5)(r:Rel i y H5):tN (jI H tl Rel) D i σ3 y H5:=by
 obtain⟨_,hn,s1,hD,hl,hr⟩:=inv;have hD5:=s _ _ hD;refine kF hD5 .c λH6 E6 e6=>⟨hσ,hn,(s1.trans s).grow hn E6,e6,by simp[hl],λj z hz=>?_⟩
 have k6:aW H5 H6:=E6.keep hD5;rcases wJ j ys.length with hj | hj
 ·rw[vO hj]at hz
  exact hk _ _ _ _ (s.keep.trans k6) (hr j z hz)
 ·have hj':j=ys.length:=by
   rcases wJ ys.length j with q | q
   ·rw[wQ .aw]at hz;cases hz
   ·lia
  subst hj';rw[vC .ax,W6]at hz;cases hz;rw[hl];exact hk _ _ _ _ k6 r
theorem lM(hx:aF K H a vs)(hsrc:eX src σ = o0::tl)(Rel:Nat->V->Hp->Prop)(hs:∀D i x ys o H1,vs[i]? = some x->jI H tl Rel D i ys (o::tl) H1->j4 (jI H tl Rel) g tt te D i x (o::tl) H1)
  (hd:∀D ys H',H D=none->au H H'->H' D=some .cj->ys.length=vs.length->(∀j y,ys[j]? = some y->Rel j y H')->Q .bG H'):Dc K g tt te src σ .bu H Q:=by
 refine sk hx (jI H tl Rel) (λD H' n s e=>⟨⟨o0,hsrc⟩,n,s,e,rfl,λj y z=>by simp at z⟩) (λD i ys σ' H' h=>h.same.seq hx) ?_ λD ys σ' H' ⟨_,n,s,e,hl,r⟩=>hd D ys H' n s e hl r
 rintro D i x ys σ' H' hx' h;obtain⟨⟨o,rfl⟩,_⟩:=id h;exact hs D i x ys o H' hx' h
theorem ke(hx:a_ K H a vs)(hsrc:eX src σ = o0::tl)(Rel:Nat->V->Hp->Prop)(hs:∀D i x ys o H1,vs[i]? = some x->jI H tl Rel D i ys (o::tl) H1->j4 (jI H tl Rel) g tt te D i x (o::tl) H1)
  (hd:∀D ys H',H D=none->au H H'->H' D=some .cj->ys.length=vs.length->(∀j y,ys[j]? = some y->Rel j y H')->Q .bG H'):AN K g tt te src σ .bu H Q:=by
 refine zxc hx (jI H tl Rel) (λD H' n s e=>⟨⟨o0,hsrc⟩,n,s,e,rfl,λj y z=>by simp at z⟩) (λD i ys σ' H' h=>h.same.kY hx) ?_ λD ys σ' H' ⟨_,n,s,e,hl,r⟩=>hd D ys H' n s e hl r
 rintro D i x ys σ' H' hx' h;obtain⟨⟨o,rfl⟩,_⟩:=id h;exact hs D i x ys o H' hx' h
theorem ZZ(h0:0<=n)(h1:n<1000000000)(hsrc:eX src σ = o0::tl)(Rel:Nat->V->Hp->Prop)(hs:∀D (i:Nat) ys o H1,i<n.toNat->jI H tl Rel D i ys (o::tl) H1->j4 (jI H tl Rel) g tt te D i (.int (i:Int)) (o::tl) H1)
  (hd:∀D ys H',H D=none->au H H'->H' D=some .cj->ys.length=n.toNat->(∀j y,ys[j]? = some y->Rel j y H')->Q .bG H'):KZ g tt te src σ [.int n] H Q:=by
 refine Aj .c h1 (jI H tl Rel) (λD H' n s e=>⟨⟨o0,hsrc⟩,n,s,e,rfl,λj y z=>by simp at z⟩) ?_ λD ys σ' H' ⟨_,n,s,e,hl,r⟩=>hd D ys H' n s e hl r
 rintro D i ys σ' H' hi h;obtain⟨⟨o,rfl⟩,_⟩:=id h;exact hs D i ys o H' hi h
theorem fz{xs:.a} : ∀(i:Nat)(v:V)(H1 H2:Hp),aW H1 H2->Is K H1 v (N .an)->Is K H2 v (N .an):=λi v H1 H2 k h=>h.dQ k
end
theorem gH{H H':Hp}{l:wf}(s:au H H')(h:H' l=none):H l=none:=by
 cases e:H l with
 | none=>rfl
 | some o=>rw[s _ _ e]at h;cases h
def TZ(ns:.p):wF:=.tuple (ns.map PyData.int)
def LL(rss:List (List Rat)):wF:=.list (rss.map LN)
theorem zvN:∀ns:List Int,aT (ns.map PyData.int)=true
 | []=>by simp[aT]
 | n::ns=>by rw[vi,aT,zvN ns];rfl
theorem zFQ(ns:.p):c_ (TZ ns)=true:=by rw[TZ,c_];exact zvN ns
section
variable{K:wa}{H H' H2:Hp}{Q:VK}{v w y:V}{p l:wf}{vs:.x}{ns:.p}{rss:List (List Rat)}{m:Int}{σ : St}
theorem oF:∀{ns:.p}{vs:.x},ah K H vs (ns.map PyData.int) ↔ vs=ns.map V.int
 | [],vs=>by rw[Qt,fO];rfl
 | n::ns,vs=>by
  rw[vi,cP,vi]
  constructor
  ·rintro ⟨x,r,rfl,h,t⟩
   rw[cj.mp h,oF.mp t]
  ·rintro rfl
   exact⟨_,_,rfl,cj.mpr rfl,oF.mpr rfl⟩
theorem yC:Is K H v (TZ ns) ↔ ∃a,v=.ref a/\a_ K H a .aC:=by
 unfold TZ;rw[cA]
 constructor
 ·rintro ⟨a,xs,e,h,t⟩
  rw[oF.mp t]at h;exact⟨a,e,h⟩
 ·rintro ⟨a,e,h⟩
  exact⟨a,_,e,h,oF.mpr rfl⟩
theorem J7(h:Is K H v (TZ ns))(q:Q (.int ns.length) H):lB K [v] H Q:=nS h (by rw[wn];exact q)
theorem zDQ{i:Nat}(t:ah K H vs (rss.map LN))(h:i<rss.length):∃x,vs[i]? = some x/\Is K H x (LN (rss.getD i [])):=by
 refine t.get ?_;rw[wA,wb,we h]
 rfl
theorem Zf(h:Is K H v (LL rss))(h0:0<=m)(h1:m<rss.length)(q:∀x,Is K H x (LN (rss.getD m.toNat []))->Q x H):dM K v .cB H Q:=by
 obtain⟨a,vs,rfl,hs,t⟩:=bY.mp h;obtain⟨n,rfl⟩:∃n:Nat,m=(n:Int):=⟨m.toNat,by lia⟩;obtain⟨x,e,hx⟩:=zDQ (i:=n) t .c;exact jf hs (m4 e) (q x hx)
theorem Hx{α : Type}{xs:.cc}{x : α}(h:xs[xs.length-1]? = some x):jA xs (-1)=some x:=by
 have hl:0<xs.length:=by
  cases xs with
  | nil=>cases h
  | cons _ _=>simp
 unfold jA fZ;rw[if_neg .c,if_pos .c]
 show xs[((-1:Int)+.cE).toNat]? = some x
 rw[show((-1:Int)+.cE).toNat=xs.length-1 by lia];exact h
theorem zyL(h:Is K H v (LL rss))(h0:0<rss.length)(q:∀x,Is K H x (LN (rss.getD (rss.length-1) []))->Q x H):dM K v (.int (-1)) H Q:=by
 obtain⟨a,vs,rfl,hs,t⟩:=bY.mp h;have hl:=t.length;rw[wn]at hl;obtain⟨x,e,hx⟩:=zDQ (i:=rss.length-1) t .c;rw[<- hl]at e;exact jf hs (Hx e) (q x hx)
theorem zuQ:∀{rss:List (List Rat)}{vs:.x},vs.length=rss.length->(∀i x,vs[i]? = some x->Is K H x (LN (rss.getD i [])))->ah K H vs (rss.map LN)
 | [],vs,hl,_=>by
  have:vs=[]:=Vl hl;subst this;exact .nil
 | x::xs,[],hl,_=>by cases hl
 | x::xs,u::vs,hl,h=>by
  rw[vi];exact .cons (h 0 u rfl) (zuQ (by simpa using hl) λi y e=>h (i+1) y e)
end
def pT(K:wa):R2:=λx y H Q=>RW K x y H Q \/ ∃a b ys,x=.ref a/\y=.ref b/\a_ K H a []/\a_ K H b ys/\Q (.ref b) H
theorem zL{X:Cx} : bV X (WE .Add) (pT X.K):=by
 intro pins s σ H x y v u Q I rx ry h;rcases h with h | ⟨a,b,ys,rfl,rfl,ha,hb,q⟩
 ·exact zCn pins s σ H x y v u Q I rx ry h
 ·cases rx
  cases ry;obtain⟨its,r1,p1,_⟩:=I.tuple ha;cases r1;obtain⟨its2,r2,p2,_⟩:=I.tuple hb;obtain⟨⟨cls,dd,data,sl⟩,ho,hc,n,hd⟩:=id p1;obtain⟨⟨cls2,dd2,data2,sl2⟩,ho2,hc2,n2,hd2⟩:=id p2;simp only at hc hd hc2 hd2;subst hc hd hc2 hd2;exact concat_meets ⟨_,ho,rfl⟩ ⟨_,ho2,rfl⟩ noFill_tuple_add seq_tuple_add Qi qZ (qO _ _) (tuple_addW0 a b _ its2.toArray n n2 dd dd2 sl sl2 rfl) ⟨ho,ho2,⟨.ref b,H,I,rfl,q⟩⟩
theorem Cj{K:wa}{H:Hp}{Q:VK}{v w:V}{ds es:.bP}(h1:Is K H v .aH)(h2:Is K H w (.tuple es))(z:ds.length+es.length<=1000)(q:∀u H',au H H'->Is K H' u (.tuple (ds++es))->Q u H'):pT K v w H Q:=by
 obtain⟨a,xs,rfl,ha,ta⟩:=cA.mp h1;obtain⟨b,ys,rfl,hb,tb⟩:=cA.mp h2;have la:=ta.length;have lb:=tb.length;cases xs with
 | nil =>
  obtain rfl:ds=[]:=Vl (by simpa using la.symm);exact .inr ⟨a,b,ys,rfl,rfl,ha,hb,q _ H .ar h2⟩
 | cons x xs =>
  refine .inl ⟨a,b,x::xs,ys,rfl,rfl,ha,hb,by simp,WM (iS .c),λhy=>?_,λhy p hp=>?_⟩
  ·obtain rfl:es=[]:=Vl (by rw[hy]at lb;simpa using lb.symm)
   exact q _ H .ar (by rw[Wh];exact h1)
  ·exact q _ _ (au.upd hp) (cA.mpr ⟨p,_,rfl,.of dR,(ah.same (au.upd hp) _ _ ta).append (ah.same (au.upd hp) _ _ tb)⟩)
theorem Inv.zr{X:Cx}{pins:.j}{σ : St}{H:Hp}{s:wq}{h':wS}{t':Nat}{ch:.bZ}(I:.l)(k:∀b o,b ∉ ch->s.heap.get? b=some o->h'.get? b=some o)(hf:∀b∈ch,fY X pins H b):Inv X pins σ H {s with heap:=h',toks:=t'}:=by
 have nit:∀b u,H b=some u->b ∉ ch:=λb u e z=>by rw[(hf b z).1]at e;cases e
 refine I.step (g':=s.gens) (d':=s.drawn) (ch:=ch) (λb hb=>⟨(hf b hb).2.2.2.1,(hf b hb).2.1,(hf b hb).2.2.2.2.1,(hf b hb).2.2.2.2.2⟩) (λb o _ _ hc e _=>k b o hc e)
  (λb o _ _ hc e _=>⟨o.slots,k b o hc e⟩) (λ_ _ _ _ n=>n) (λb o hc e=>⟨o,k b o hc e⟩) (λ_ _ e=>e) (λ_ _ _ e=>e) (λb ps e=>⟨#[],by rw[e];simp⟩) (λm hm=>?_) (λb u e=>?_) I.bare
 ·obtain⟨o,es,ep,ho,r⟩:=hm
  exact⟨o,es,ep,k _ o (λz=>(hf _ z).2.1 rfl) ho,r⟩
 ·refine(I.aR b u e).mT (λc v hc q=>k c v ?_ q) (λ_ q=>q) λ_ _ q=>q
  rcases hc with z | z
  ·rw[z];exact nit b u e
  ·exact nit c _ z
section
variable{prog:wT}{w:wX}{A:vB}{E:.n}{s:wq}
theorem zuM{it tu:wf}{i:Nat}{its:.aP}{x:wo}{Q:.n}(ei:s.heap.IsTupleIter it tu i)(et:s.heap.IsTuple tu its)(ex:its[i]? = some x)
  (fin:∀h',h'.IsTupleIter it tu (i+1)->Wd it s.heap h'->Q x {s with heap:=h'}):wD .q A (We .cK) Q E s:=by
 obtain⟨ob,eo,ec,ed⟩:=id ei;obtain⟨ot,eot,_,nt,edt⟩:=et;unfold We;refine wp (wpAny_callSpecial?_slot (name:=Wn "__next__") ei.typeIs VM (Wx VM ei.typeIs QW ?_ (QP _)))
 show wD _ _ (field .cK 0 >>= _) _ _ s;refine wp (vS eo ed (x:=.ref tu) rfl ?_)
 show wD _ _ (if(Value.ref tu == Value.none)=true then _ else _) _ _ s;rw[if_neg (show ¬ ((Value.ref tu == Value.none)=true)from vU)]
 show wD _ _ (field .cK 1 >>= _) _ _ s;refine wp (vS eo ed (x:=.int i 0) rfl ?_)
 show wD _ _ (seqItems? (.ref tu) >>= _) _ _ s;refine wp (WQ eot edt ?_)
 simp only[wE,ex];refine wp (wpAny_setField eo ed .u (wI ⟨x,rfl,wI (fin _ ?_ (Xn ..))⟩));exact⟨_,qo _ eo (qu (qg ed _)),(XX ..).trans ec,by rw[qg ed];simp[Vq]⟩
theorem RV{it tu:wf}{i:Nat}{its:.aP}{Q:.n}(hh:.cQ)(ei:s.heap.IsTupleIter it tu i)(et:s.heap.IsTuple tu its)(ex:its[i]? = none)
  (fin:∀h' e,Heap.ExtBut it s.heap h'->(∃o,h'.get? e=some o/\o.cls=.type "StopIteration")->E (.ref e) {s with heap:=h'}):wD .q A (We .cK) Q E s:=by
 obtain⟨ob,eo,ec,ed⟩:=id ei;obtain⟨ot,eot,_,nt,edt⟩:=et;unfold We;refine wp (wpAny_callSpecial?_slot (name:=Wn "__next__") ei.typeIs VM (Wx VM ei.typeIs QW ?_ (QP _)))
 show wD _ _ (field .cK 0 >>= _) _ _ s;refine wp (vS eo ed (x:=.ref tu) rfl ?_)
 show wD _ _ (if(Value.ref tu == Value.none)=true then _ else _) _ _ s;rw[if_neg (show ¬ ((Value.ref tu == Value.none)=true)from vU)]
 show wD _ _ (field .cK 1 >>= _) _ _ s;refine wp (vS eo ed (x:=.int i 0) rfl ?_)
 show wD _ _ (seqItems? (.ref tu) >>= _) _ _ s;refine wp (WQ eot edt ?_)
 simp only[wE,ex];refine wp (wpAny_rule (wp (wpAny_setField eo ed .u ?_)))
 show wD _ _ (newExc (.type "StopIteration") [] >>= _) _ _ _;refine wp ?_;simp only[newExc,newTuple]
 refine wp (WZ ?_ (by size_fits));refine wp (m:=firstArgMember _ _) (wpAny_of_eq (a:=Value.none) (by first | rfl | (simp only[firstArgMember];rfl)) ?_);refine WZ ?_ (by size_fits);simp only[raiseNew];refine wp (wpAny_handled ?_)
 first | rw[hh] | rw[show A.in1.handled=none from hh]
 exact wp (wI (wpAny_throw (fin _ _ (((Xn ..).extBut.push _).push _) ⟨_,wY _ rfl,rfl⟩)))
theorem lK(hh:.cQ)(it tu:wf)(hne:tu≠it)(its:.aP):Draws prog w A it [it,tu] its.size (λi v=>its[i]? = some v) (λi h=>h.IsTupleIter it tu i/\h.IsTuple tu its) where
 live:=λ_ _ st=>let ⟨o,ho,_⟩:=st.1;⟨o,ho⟩
 frame:=λ_ _ _ st hk=>⟨st.1.at λo e=>hk it .u o e,st.2.at λo e=>hk tu .u o e⟩
 item:=λi s Q E hi st hQ=>zuM st.1 st.2 (x:=its[i]) (by simp[hi]) λh' hit' hs'=>hQ _ h' s.toks (by simp[hi]) ⟨hit',st.2.extBut hs'.extBut hne⟩ hs'
 done:=λs Q E st hE=>RV hh st.1 st.2 .u hE
open AutoSeq1 (wpAny_loadPart') in
theorem zui(tu:wf)(its:.aP)(n:Nat)(dct:.cD)(sl:.bx):Meets (Builtin.«enumerate.__new__» ⟨[.type "enumerate",.ref tu],[]⟩) (λ_ R s=>s.heap.get? tu=some {cls:=.type "tuple",dict:=dct,data:=.seq its n,slots:=sl} /\
  R (.ok (.ret (.ref (s.heap.push {cls:=.type "tuple_iterator",data:=.fields #[.ref tu,.int 0 0]}).objs.size))) {s with heap:=(s.heap.push {cls:=.type "tuple_iterator",data:=.fields #[.ref tu,.int 0 0]}).push {cls:=.type "enumerate",data:=.fields #[.none,.bool false,.ref s.heap.objs.size,Vq 0,.none,.none]}}) :=
 .of_wp λprog w A R s h=>by
  obtain⟨hp,g,d,tk,os⟩:=s;obtain⟨et,h⟩:=h;have hsub:=sub_enumerate;have hT:XD (X5 ⟨hp,g,d,tk,os⟩) tu its:=⟨_,et,rfl,n,rfl⟩
  wp_walk using wpAny_loadPart' et
  refine wpAny_stack_any λst=>wI ?_
  split
  ·rename_i c _ _ _ _ _
   cases (c == Value.type "enumerate")<;>(wp_walk using wpAny_loadPart' et,VE hT;exact⟨_,rfl,h⟩)
  ·wp_walk using wpAny_loadPart' et,VE hT
   exact⟨_,rfl,h⟩
theorem zwf{tu:wf}{its:.aP}{Q:.n}(hT:s.heap.IsTuple tu its)(fin:∀h',IsEnum h' .bB s.heap.objs.size 0 .none->h'.IsTupleIter s.heap.objs.size tu 0->(∀b o,s.heap.get? b=some o->h'.get? b=some o)->Q (.ref .bB) {s with heap:=h'}) :
  wD .q A (call (.type "enumerate") [.ref tu]) Q E s:=by
 obtain⟨⟨c,dct,dt,sl⟩,et,hc,n,hd⟩:=hT;obtain rfl:c=.type "tuple":=hc;obtain rfl:dt=.seq its n:=hd;refine callType_new F.called_enumerate .ab (F.typeCall_enumerate_1 _) (F.newCall_enumerate_1 _) (λobj=>F.args_object_init_2 obj _) F.entry_enumerate_new (zui tu its n dct sl) ⟨et,?_⟩;have hz:(s.heap.push {cls:=.type "tuple_iterator",data:=.fields #[.ref tu,.int 0 0]}).objs.size=s.heap.objs.size+1:=qr ..
 show _/\_
 rw[hz]
 have he:IsEnum ((s.heap.push {cls:=.type "tuple_iterator",data:=.fields #[.ref tu,.int 0 0]}).push {cls:=.type "enumerate",data:=.fields #[.none,.bool false,.ref s.heap.objs.size,Vq 0,.none,.none]}) .bB s.heap.objs.size 0 .none:=by
  rw[<- hz];exact wY _ rfl
 exact⟨⟨_,he,rfl⟩,fin _ he ⟨_,wt _ (wY _ rfl),rfl,rfl⟩ λb o x=>wt _ (wt _ x)⟩
end
def pL(K:wa)(a:wf):It :=
 ⟨λi H=>∃xs x,a_ K H a xs/\xs[i]? = some x,λi H y H'=>∃t x,y=.ref t/\H t=none/\(∀xs,a_ K H a xs->xs[i]? = some x)/\H'=upd H t (.tup [.int (i:Int),x]),λi H=>∃xs,a_ K H a xs/\xs.length<=i⟩
theorem zwr{P:wT}{w:wX}{K:wa}{elts:.aG}{k1}{tpos:Pos}(a e it:wf)(hne:e≠it):lD P w K .cP (pL K a) [e,it] e (λi h=>(∃old,IsEnum h e it (i:Int) old)/\h.IsTupleIter it a i) where
 mem:=by simp
 obj:=λi h st b hb=>by
  obtain⟨⟨old,he⟩,o,eo,c,d⟩:=st;rcases wO.mp hb with rfl | hb
  ·exact⟨_,he,λv z=>by cases (show Data.fields _=Data.cell v from z)⟩
  ·rw[wZ.mp hb]
   exact⟨o,eo,λv z=>by rw[d]at z;cases z⟩
 keep:=λi h h' st k=>⟨let ⟨old,he⟩:=st.1;⟨old,k e .u _ he⟩,st.2.at λo eo=>k it .u o eo⟩
 item:=by
  intro X hP hw hK hc i pins s σ H E I hf st hg;subst hP hw hK;obtain⟨⟨old,he⟩,st⟩:=st;obtain⟨xs,x,hq,hx⟩:=hg;obtain⟨its,rv,p,hz⟩:=I.tuple hq;obtain⟨u,hu,ru⟩:=rv.get hx;have p':s.heap.IsTuple a its.toArray:=p
  have hai:a≠it:=λz=>by
   subst z;obtain⟨o,e1,c1,_⟩:=st;obtain⟨o',e2,c2,_⟩:=p';rw[e1]at e2;cases e2;rw[c1]at c2;exact absurd c2 .ab
  have hae:e≠a:=λz=>by
   subst z;obtain⟨o',e2,c2,_⟩:=p';rw[he]at e2;cases e2;exact absurd (show Value.type "enumerate"=Value.type "tuple" from c2) .ab
  have hlt:i<its.toArray.size:=by
   rcases wJ i its.length with z | z
   ·simpa using z
   ·rw[wQ z]at hu;cases hu
  refine wpAny_pyNext_enum_itemD (lK (A:=X.A.in1) .aW it a hai its.toArray) he ⟨st,p'⟩ hlt hne (by simp[hne,hae]) λv h1 tk hv ho hs1 hT hsz hk=>?_
  have hvu:v=u:=by
   have hv':its[i]? = some v:=by simpa using hv
   rw[hu]at hv';exact(w6 hv').symm
  subst hvu
  have I1:Inv X pins σ (upd H s.heap.objs.size (.tup [.int (i:Int),x])) {s with heap:=s.heap.push {cls:=.type "tuple",data:=.seq ([.int (i:Int) tk,v]:List wo).toArray},toks:=tk+1} :=
   I.laid (λb o q=>wt _ q) .ax (show eZ X.prog X.w _ _ _ (.tup [.int (i:Int),x])from⟨sx .u,_,.cons ⟨_,rfl⟩ (.cons ru .nil),Qr _ _⟩)
  have lt1:∀b∈[e,it],b<s.heap.objs.size:=λb hb=>by
   rcases wO.mp hb with rfl | hb
   ·exact wK he
   ·rw[wZ.mp hb]
    obtain⟨o,eo,_⟩:=st;exact wK eo
  have hf1:∀b∈[e,it],fY X pins (upd H s.heap.objs.size (.tup [.int (i:Int),x])) b:=λb hb=>⟨by rw[fP (w8 (lt1 b hb))];exact(hf b hb).1,(hf b hb).2⟩
  refine⟨_,rfl,wpAny_letOwnedTupleGo_enum ho λh2 he2 hs2=>?_⟩;refine⟨.ref s.heap.objs.size,_,Inv.zr (s:={s with heap:=s.heap.push {cls:=.type "tuple",data:=.seq ([.int (i:Int) tk,v]:List wo).toArray},toks:=tk+1}) (ch:=[e,it]) I1 (λb o hb q=>?_) hf1,rfl,⟨_,x,rfl,I.aR.fresh .ax,λys hy=>by rw[I.DD hy hq];exact hx,rfl⟩,⟨⟨_,by simpa using he2⟩,hs1.1.at λo eo=>(hs2.2 it (WN hne)).trans eo⟩,λb hb=>(hf1 b hb).1⟩;have hbe:b≠e:=λz=>hb (by simp[z])
  have hbi:b≠it:=λz=>hb (by simp[z])
  refine(hs2.2 b hbe).trans ?_
  by_cases hb2:b=s.heap.objs.size
  ·subst hb2
   rw[wY _ rfl]at q;cases q;exact hT
  ·exact hk b o hbe hbi (by rw[Q7 _ _ _ hb2]at q;exact q)
 done:=by
  intro X hP hw hK hc i pins s σ H E I hf st hg;subst hP hw hK;obtain⟨⟨old,he⟩,st⟩:=st;obtain⟨xs,hq,hx⟩:=hg;obtain⟨its,rv,p,hz⟩:=I.tuple hq;have p':s.heap.IsTuple a its.toArray:=p
  have hai:a≠it:=λz=>by
   subst z;obtain⟨o,e1,c1,_⟩:=st;obtain⟨o',e2,c2,_⟩:=p';rw[e1]at e2;cases e2;rw[c1]at c2;exact absurd c2 .ab
  have hl:=rv.length;have hT:s.TypeIs (.ref e) "enumerate":=⟨_,he,rfl⟩;unfold pyNext;refine wp (VN (wpAny_callSpecial?_slot (name:=Wn "__next__") hT qx (Wx qx hT xI ?_ (xo _))))
  show wD _ _ (field (.ref e) 2 >>= _) _ _ _;refine wp (vS he rfl (x:=.ref it) rfl ?_)
  refine wp (RV (A:=X.A.in1) .aW st p' .aw λh' y he' hx'=>?_);obtain⟨o,ho,hcl⟩:=hx';refine wp (Vt (T:="StopIteration") (b:=true) ⟨o,ho,hcl⟩ isSubtype_stop (wI ⟨rfl,?_⟩));obtain⟨f0,f1,f2,f3,f4,f5⟩:=hf it .u;exact I.turned (t':=s.toks) (λb o hb e=>he' b o hb e) f0 f1 f3 f4 f5
 self:=λ_ _ _ _ _ st h=>let ⟨_,he⟩:=st.1;wpAny_pyIter_enum he h
def JC(K:wa)(ta:TA):TI:=λσ H R=>ta σ H λvs H1=>∃a,vs=[.ref a]/\(∃xs,a_ K H1 a xs)/\R (pL K a) H1
theorem Te:vX "enumerate"=some (.type "enumerate"):=by decide +kernel
theorem zub{X:Cx}{elts:.aG}{k1}{tpos p pos:Pos}{l:Expr}{ta:TA}(hg:Gl X "enumerate")(hm:X.mg "enumerate"=none)(ha:PA X [l] ta)(hs:w9 [l] X.env=[(false,eval l X.env)]:=by rfl) :
  PI X .cP (.Call (.Name "enumerate" p) [l] [] pos) (JC X.K ta):=by
 intro pins s σ H R I h;refine Call_ (jH I hg hm Te (vQ (aS .cN λus s1 ⟨vs,H1,I1,r1,q1⟩=>?_) hs rfl));obtain⟨a,rfl,⟨xs,hq⟩,q⟩:=q1;obtain⟨u,rfl,ru⟩:=jE r1;cases ru;obtain⟨its,rv,p,hz⟩:=I1.tuple hq;refine zwf (show s1.heap.IsTuple a its.toArray from p) λh' he hit kp=>?_
 refine wpAny_pyIter_enum he ?_;refine⟨s1.heap.objs.size+1,[s1.heap.objs.size+1,s1.heap.objs.size],_,_,H1,rfl,I1.kept (t':=s1.toks) kp,zwr a (s1.heap.objs.size+1) s1.heap.objs.size (um _),⟨⟨_,he⟩,hit⟩,λb hb=>?_,q⟩
 have hb':s1.heap.objs.size<=b:=by
  rcases wO.mp hb with rfl | hb
  ·lia
  ·rw[wZ.mp hb];exact wu _
 exact I1.lT hb' (I1.aR.fresh hb')
def zGN(K:wa)(g:TG)(tb:TS)(D:df)(σ : St)(vs:.x)(H1:Hp):Prop:=∃a,vs=[.ref a]/\(∃xs,a_ K H1 a xs) /\
 ∃W:Nat->Nat->St->Hp->Prop,(∃m,W 0 m σ H1) /\ ∀i m σ H,W i m σ H ->
  ((pL K a).stop i H/\D.nx σ H)\/((pL K a).go i H /\ ∃M:St->Hp->Prop,(∀σ' H',M σ' H'->∃m',m'<m/\W (i+1) m' σ' H') /\ ∀x H',(pL K a).gM i H x H'->g x σ H' λσ2 H2=>tb {D with nx:=M,ct:=M,bk:=D.nx} σ2 H2)
section
variable{K:wa}{ta:TA}{g:TG}{tb:TS}{D:df}{σ : St}{H:Hp}{a:wf}{xs:.x}
theorem zCw(h:ta σ H λvs H1=>zGN K g tb D σ vs H1):oy (JC K ta) g tb D σ H:=h
theorem zzi(hx:a_ K H a xs)(Pv:Nat->St->Hp->Prop)(h0:Pv 0 σ H)(hl:∀i σ H,i<=xs.length->Pv i σ H->a_ K H a xs)
  (hs:∀i x σ H t H',xs[i]? = some x->Pv i σ H->H t=none->au H H'->H' t=some (.tup [.int (i:Int),x])->g (.ref t) σ H' λσ2 H2=>tb {D with nx:=Pv (i+1),ct:=Pv (i+1),bk:=D.nx} σ2 H2) (hd:∀σ H,Pv xs.length σ H->D.nx σ H):zGN K g tb D σ [.ref a] H:=by
 refine⟨a,rfl,⟨xs,hx⟩,λi m σ H=>i+m=xs.length/\Pv i σ H,⟨xs.length,by lia,h0⟩,?_⟩;rintro i m σ H ⟨him,hp⟩;have hq:=hl i σ H .c hp
 by_cases hm:m=0
 ·have e:i=xs.length:=by lia
  subst e;exact .inl ⟨⟨xs,hq,wu _⟩,hd _ _ hp⟩
 ·have hi:i<xs.length:=by lia
  refine .inr ⟨⟨xs,xs[i],hq,by simp[hi]⟩,λσ' H'=>Pv (i+1) σ' H',λσ' H' h=>⟨m-1,by lia,by lia,h⟩,?_⟩;rintro y H' hz;obtain⟨t,x,rfl,hn,hx',rfl⟩:=hz;exact hs i x σ H t _ (hx' xs hq) hp hn (au.upd hn) dR
end
structure ZA(z TI TO i1 i2:wf)(f1 f2:.bZ):Prop where
 a1:TI≠z
 a2:TO≠z
 a3:i1≠z
 a4:i2≠z
 a5:TI≠TO
 a6:TI≠i1
 a7:TI≠i2
 a8:TO≠i1
 a9:TO≠i2
 b0:i1≠i2
 b1:z ∉ f1
 b2:z ∉ f2
 b3:TO ∉ f1
 b4:TO ∉ f2
 b5:i1 ∉ f2
 b6:i2 ∉ f1
section
variable{prog:wT}{w:wX}{A:vB}{E:.n}{s:wq}{z TI TO i1 i2:wf}{f1 f2:.bZ}{n1 n2 k:Nat}{P1 P2:Nat->wo->Prop}{S1 S2:Nat->wS->Prop}{a b:wo}
theorem OX{Q:.n}(D1:Draws prog w A i1 f1 n1 P1 S1)(D2:Draws prog w A i2 f2 n2 P2 S2)(ap:ZA z TI TO i1 i2 f1 f2)(hz:IsZip s.heap z TI TO .none)(hi:WR s.heap TI (.ref i1) (.ref i2))(ho:WR s.heap TO a b)
  (h1:S1 k s.heap) (h2:S2 k s.heap) (l1:k<n1) (l2:k<n2)
  (fin:∀x y h' tk,P1 k x->P2 k y->IsZip h' z TI TO (Vq s.heap.objs.size)->WR h' TO x y->S1 (k+1) h'->S2 (k+1) h'->WR h' s.heap.objs.size x y ->
   (∀c o,c≠z->c≠TO->c≠i1->c≠i2->s.heap.get? c=some o->h'.get? c=some o)->Q .aX {s with heap:=h',toks:=tk}) :
  wD .q A (Builtin.«zip.__next__» ⟨[.ref z],[]⟩) (λr s'=>∃v,r=.done (.ret v)/\Q v s') E s:=by
 show wD _ _ (field .b9 2 >>= _) _ _ _;refine wp (vS hz rfl (x:=.bool false) rfl ?_)
 show wD _ _ (field .b9 3 >>= _) _ _ _;refine wp (vS hz rfl (x:=.ref TI) rfl ?_)
 refine wp (WQ hi rfl ?_);show wD _ _ (Wc .b9 >>= _) _ _ _
 refine wp ?_;unfold Wc;refine wp (vS hz rfl (x:=.none) rfl (wI ?_));simp only[if_true];refine wp (wpAny_rule ?_);refine wp (vS hz rfl (x:=.ref TO) rfl ?_);refine wp (Vf hz .u λg1 zz1 sb1=>?_);have zz1:IsZip g1 z TI TO .ellipsis:=zz1;refine wp ?_;simp only[uo,uJ,qL,QQ];refine wp (wp (wpAny_onRaise ?_));show wD _ _ (We (.ref i1) >>= _) _ _ _
 have h1a:S1 k g1:=D1.frame _ _ _ h1 λc hc o e=>sb1.extBut c o (λq=>ap.b1 .cr) e
 have h2a:S2 k g1:=D2.frame _ _ _ h2 λc hc o e=>sb1.extBut c o (λq=>ap.b2 .cr) e
 refine wp (D1.item k _ _ _ l1 h1a λx g2 t2 px h1b sb2=>wI ?_);have ho2:WR g2 TO a b:=sb2.extBut _ _ ap.a8 (sb1.extBut _ _ ap.a2 ho);have h2b:S2 k g2:=D2.frame _ _ _ h2a λc hc o e=>sb2.extBut c o (λq=>ap.b5 .cr) e
 refine wp (WQ ho2 rfl ?_);refine wp (wpAny_updateSeq_pair ho2 λg3 ho3 sb3=>?_);have ho3:WR g3 TO x b:=ho3;have sb3:Wd TO g2 g3:=sb3;have h1c:S1 (k+1) g3:=D1.frame _ _ _ h1b λc hc o e=>sb3.extBut c o (λq=>ap.b3 .cr) e
 have h2c:S2 k g3:=D2.frame _ _ _ h2b λc hc o e=>sb3.extBut c o (λq=>ap.b4 .cr) e
 refine wp (wpAny_letGo (wI ?_));refine wp (wp (wpAny_onRaise ?_))
 show wD _ _ (We (.ref i2) >>= _) _ _ _;refine wp (D2.item k _ _ _ l2 h2c λy g4 t4 py h2d sb4=>wI ?_)
 have sb4:Wd i2 g3 g4:=sb4;have ho4:WR g4 TO x b:=sb4.extBut _ _ ap.a9 ho3;have h1d:S1 (k+1) g4:=D1.frame _ _ _ h1c λc hc o e=>sb4.extBut c o (λq=>ap.b6 .cr) e
 refine wp (WQ ho4 rfl ?_);refine wp (wpAny_updateSeq_pair ho4 λg5 ho5 sb5=>?_);have ho5:WR g5 TO x y:=ho5;have sb5:Wd TO g4 g5:=sb5;have h1e:S1 (k+1) g5:=D1.frame _ _ _ h1d λc hc o e=>sb5.extBut c o (λq=>ap.b3 .cr) e
 have h2e:S2 (k+1) g5:=D2.frame _ _ _ h2d λc hc o e=>sb5.extBut c o (λq=>ap.b4 .cr) e
 refine wp (wpAny_letGo (wI (wI ?_)));refine wp (WQ ho5 rfl ?_);refine wp (wpAny_newTuple ?_);have sb2:Wd i1 g1 g2:=sb2;have sb1:Wd z s.heap g1:=sb1;have hsz:g5.objs.size=s.heap.objs.size:=by rw[sb5.1,sb4.1,sb3.1,sb2.1,sb1.1]
 have zz5:IsZip g5 z TI TO .ellipsis:=sb5.extBut _ _ ap.a2.symm (sb4.extBut _ _ ap.a4.symm (sb3.extBut _ _ ap.a2.symm (sb2.extBut _ _ ap.a3.symm zz1)));have kept:∀c o,c≠z->c≠TO->c≠i1->c≠i2->s.heap.get? c=some o->g5.get? c=some o:=λc o c1 c2 c3 c4 e=>sb5.extBut _ _ c2 (sb4.extBut _ _ c4 (sb3.extBut _ _ c2 (sb2.extBut _ _ c3 (sb1.extBut _ _ c1 e))))
 have zlt:z<g5.objs.size:=wK zz5
 show wD _ _ (qS .b9 (.ref g5.objs.size) >>= _) _ _ _;refine wp ?_;unfold qS
 have zz6:IsZip (g5.push {cls:=.type "tuple",data:=.seq #[x,y]}) z TI TO .ellipsis:=wt _ zz5;refine wp (Vf zz6 .u λg7 zz7 sb7=>?_);have zz7:IsZip g7 z TI TO (Vq g5.objs.size):=zz7;refine Vf zz7 .u λg8 zz8 sb8=>?_
 have zz8:IsZip g8 z TI TO (Vq g5.objs.size):=zz8;have sb7:Wd z (g5.push {cls:=.type "tuple",data:=.seq #[x,y]}) g7:=sb7;have sb8:Wd z g7 g8:=sb8;have up:∀c o,c≠z->g5.get? c=some o->g8.get? c=some o:=λc o c1 e=>sb8.extBut _ _ c1 (sb7.extBut _ _ c1 (wt _ e))
 have new8:WR g8 g5.objs.size x y:=sb8.extBut _ _ (vH zlt) (sb7.extBut _ _ (vH zlt) (wY _ rfl));rw[hsz]at zz8 new8;refine wI ⟨_,rfl,?_⟩
 show Q (.ref g5.objs.size) _
 rw[hsz];exact fin x y g8 _ px py zz8 (up _ _ ap.a2 ho5) (D1.frame _ _ _ h1e λc hc o e=>up c o (λq=>ap.b1 .cr) e) (D2.frame _ _ _ h2e λc hc o e=>up c o (λq=>ap.b2 .cr) e) new8 λc o c1 c2 c3 c4 e=>up c o c1 (kept c o c1 c2 c3 c4 e)
theorem OS{Q:Fin->wq->Prop}(D1:Draws prog w A i1 f1 n1 P1 S1)(D2:Draws prog w A i2 f2 n2 P2 S2)(ap:ZA z TI TO i1 i2 f1 f2)(hz:IsZip s.heap z TI TO .none)(hi:WR s.heap TI (.ref i1) (.ref i2))(ho:WR s.heap TO a b)
  (h1:S1 k s.heap) (h2:S2 k s.heap) (hk:k=n1\/(k<n1/\k=n2))
  (fin:∀h' e tk,(∀c o,c≠z->c≠TO->c≠i1->c≠i2->s.heap.get? c=some o->h'.get? c=some o)->(∃o,h'.get? e=some o/\o.cls=.type "StopIteration")->E (.ref e) {s with heap:=h',toks:=tk}) :
  wD .q A (Builtin.«zip.__next__» ⟨[.ref z],[]⟩) Q E s:=by
 show wD _ _ (field .b9 2 >>= _) _ _ _;refine wp (vS hz rfl (x:=.bool false) rfl ?_)
 show wD _ _ (field .b9 3 >>= _) _ _ _;refine wp (vS hz rfl (x:=.ref TI) rfl ?_)
 refine wp (WQ hi rfl ?_);show wD _ _ (Wc .b9 >>= _) _ _ _
 refine wp ?_;unfold Wc;refine wp (vS hz rfl (x:=.none) rfl (wI ?_));simp only[if_true];refine wp (wpAny_rule ?_);refine wp (vS hz rfl (x:=.ref TO) rfl ?_);refine wp (Vf hz .u λg1 zz1 sb1=>?_);have zz1:IsZip g1 z TI TO .ellipsis:=zz1;have sb1:Wd z s.heap g1:=sb1;refine wp ?_;simp only[uo,uJ,qL,QQ];refine wp (wp (wpAny_onRaise ?_));show wD _ _ (We (.ref i1) >>= _) _ _ _
 have h1a:S1 k g1:=D1.frame _ _ _ h1 λc hc o e=>sb1.extBut c o (λq=>ap.b1 .cr) e
 have h2a:S2 k g1:=D2.frame _ _ _ h2 λc hc o e=>sb1.extBut c o (λq=>ap.b2 .cr) e
 rcases hk with rfl | ⟨l1,rfl⟩
 ·refine wp (D1.done _ _ _ h1a λg2 e sb2 he=>?_)
  obtain⟨oe,hoe,hce⟩:=he;have zz2:IsZip g2 z TI TO .ellipsis:=sb2 _ _ ap.a3.symm zz1;have hez:e≠z:=λq=>by subst q;rw[zz2]at hoe;cases hoe;simp at hce
  exact Vf zz2 .u λg3 _ sb3=>fin g3 e _ (λc o c1 _ c3 _ q=>sb3.extBut _ _ c1 (sb2 _ _ c3 (sb1.extBut _ _ c1 q))) ⟨oe,sb3.extBut _ _ hez hoe,hce⟩
 ·refine wp (D1.item k _ _ _ l1 h1a λx g2 t2 px h1b sb2=>wI ?_)
  have sb2:Wd i1 g1 g2:=sb2;have ho2:WR g2 TO a b:=sb2.extBut _ _ ap.a8 (sb1.extBut _ _ ap.a2 ho);have h2b:S2 k g2:=D2.frame _ _ _ h2a λc hc o e=>sb2.extBut c o (λq=>ap.b5 .cr) e
  refine wp (WQ ho2 rfl ?_);refine wp (wpAny_updateSeq_pair ho2 λg3 ho3 sb3=>?_);have sb3:Wd TO g2 g3:=sb3;have h2c:S2 k g3:=D2.frame _ _ _ h2b λc hc o e=>sb3.extBut c o (λq=>ap.b4 .cr) e
  refine wp (wpAny_letGo (wI ?_));refine wp (wp (wpAny_onRaise ?_))
  show wD _ _ (We (.ref i2) >>= _) _ _ _;refine wp (D2.done _ _ _ h2c λg4 e sb4 he=>?_)
  obtain⟨oe,hoe,hce⟩:=he;have zz4:IsZip g4 z TI TO .ellipsis:=sb4 _ _ ap.a4.symm (sb3.extBut _ _ ap.a2.symm (sb2.extBut _ _ ap.a3.symm zz1));have hez:e≠z:=λq=>by subst q;rw[zz4]at hoe;cases hoe;simp at hce
  exact Vf zz4 .u λg5 _ sb5=>fin g5 e _ (λc o c1 c2 c3 c4 q=>sb5.extBut _ _ c1 (sb4 _ _ c4 (sb3.extBut _ _ c2 (sb2.extBut _ _ c3 (sb1.extBut _ _ c1 q))))) ⟨oe,sb5.extBut _ _ hez hoe,hce⟩
end
variable{t:Bool}{a:wf}
def dC(t:Bool)(K:wa)(H:Hp)(a:wf)(xs:.x):Prop:=match t with
 | true=>a_ K H a xs
 | false=>aF K H a xs
def kU(t:Bool)(h:wS)(it a:wf)(i:Nat):Prop:=match t with
 | true=>h.IsTupleIter it a i
 | false=>h.IsListIter it a i
def UW(t:Bool)(h:wS)(a:wf)(its:.aP):Prop:=match t with
 | true=>h.IsTuple a its
 | false=>h.IsList a its
theorem sN{prog:wT}{w:wX}{A:vB}(t:Bool)(hh:.cQ)(it a:wf)(hne:a≠it)(its:.aP):Draws prog w A it [it,a] its.size (λi v=>its[i]? = some v) (λi h=>kU t h it a i/\UW t h a its):=by
 cases t
 ·exact Draws.list hh it a hne its
 ·exact lK hh it a hne its
theorem Inv.kN{X:Cx}{pins:.j}{σ : L2.St}{H:Hp}{s:wq}{xs:.x}(I:.l)(h:dC t X.K H a xs):∃its:List wo,aZ xs its/\UW t s.heap a its.toArray:=by
 cases t
 ·obtain⟨its,r,p,_⟩:=I.list h
  exact⟨its,r,p.isList⟩
 ·obtain⟨its,r,p,_⟩:=I.tuple h
  exact⟨its,r,p⟩
theorem Inv.N_{X:Cx}{pins:.j}{σ : L2.St}{H:Hp}{s:wq}{xs ys:.x}(I:.l)(h:dC t X.K H a xs)(k:dC t X.K H a ys):xs=ys:=by
 cases t
 ·exact I.DH h k
 ·exact I.DD h k
theorem kU.obj{h:wS}{it:wf}{i:Nat}(st:kU t h it a i):∃o,h.get? it=some o /\ ∀v,o.data≠.cell v:=by
 cases t
 ·obtain⟨o,e,_,d⟩:=st
  exact⟨o,e,λv z=>by rw[d]at z;cases z⟩
 ·obtain⟨o,e,_,d⟩:=st
  exact⟨o,e,λv z=>by rw[d]at z;cases z⟩
theorem kU.at{h h':wS}{it:wf}{i:Nat}(st:kU t h it a i)(k:∀o,h.get? it=some o->h'.get? it=some o):kU t h' it a i:=by
 cases t
 ·exact Heap.IsListIter.at st k
 ·exact Heap.IsTupleIter.at st k
def pb(t u:Bool)(K:wa)(a b:wf):It :=
 ⟨λi H=>∃xs x ys y,dC t K H a xs/\xs[i]? = some x/\dC u K H b ys/\ys[i]? = some y,
  λi H v H'=>∃(c:wf)(x y:V),v=.ref c/\H c=none/\(∀xs,dC t K H a xs->xs[i]? = some x)/\(∀ys,dC u K H b ys->ys[i]? = some y)/\H'=upd H c (.tup [x,y]),
  λi H=>∃xs ys,dC t K H a xs/\dC u K H b ys/\(xs.length=i\/(i<xs.length/\ys.length=i))⟩
theorem zAi{P:wT}{w:wX}{K:wa}{elts:.aG}{k1}{tpos:Pos}{u:Bool}(a b z TI TO i1 i2:wf)(ap:ZA z TI TO i1 i2 [i1,a] [i2,b])(na:a≠i1)(nb:b≠i2) :
  lD P w K .cP (pb t u K a b) [z,TI,TO,i1,i2] z (λi h=>IsZip h z TI TO .none/\WR h TI (.ref i1) (.ref i2)/\(∃p q,WR h TO p q)/\kU t h i1 a i/\kU u h i2 b i) where
 mem:=by simp
 obj:=λi h st c hc=>by
  obtain⟨hz,hi,⟨p,q,ho⟩,s1,s2⟩:=st;simp only[wO,WT,or_false]at hc;rcases hc with rfl | rfl | rfl | rfl | rfl
  ·exact⟨_,hz,λv z=>by cases (show Data.fields _=Data.cell v from z)⟩
  ·exact⟨_,hi,λv z=>by cases (show Data.seq _ _=Data.cell v from z)⟩
  ·exact⟨_,ho,λv z=>by cases (show Data.seq _ _=Data.cell v from z)⟩
  ·exact s1.obj
  ·exact s2.obj
 keep:=λi h h' st k=>by
  obtain⟨hz,hi,⟨p,q,ho⟩,s1,s2⟩:=st;exact⟨k z .u _ hz,k TI .u _ hi,⟨p,q,k TO .u _ ho⟩,s1.at λo e=>k i1 .u o e,s2.at λo e=>k i2 .u o e⟩
 item:=by
  intro X hP hw hK hc i pins s σ H E I hf st hg;subst hP hw hK;obtain⟨hz,hi,⟨p,q,ho⟩,s1,s2⟩:=st;obtain⟨xs,x,ys,y,hq1,hx,hq2,hy⟩:=hg;obtain⟨its,r1,p1⟩:=I.kN hq1;obtain⟨jts,r2,p2⟩:=I.kN hq2;obtain⟨ux,hux,rux⟩:=r1.get hx;obtain⟨uy,huy,ruy⟩:=r2.get hy
  have lt1:i<its.toArray.size:=by
   rcases wJ i its.length with q | q
   ·simpa using q
   ·rw[wQ q]at hux;cases hux
  have lt2:i<jts.toArray.size:=by
   rcases wJ i jts.length with q | q
   ·simpa using q
   ·rw[wQ q]at huy;cases huy
  have hT:s.TypeIs .b9 "zip":=⟨_,hz,rfl⟩;unfold pyNext
  refine wp (VN (wpAny_callSpecial?_slot (name:=Wn "__next__") hT WI (Wx WI hT V4
   (OX (sN (A:=X.A.in1) t .aW i1 a na its.toArray) (sN (A:=X.A.in1) u .aW i2 b nb jts.toArray) ap hz hi ho ⟨s1,p1⟩ ⟨s2,p2⟩ lt1 lt2 λv1 v2 h1 tk e1 e2 hz1 ho1 st1 st2 hT1 hk=>wI ?_) (VQ _))))
  have ev1:v1=ux:=by
   have e1':its[i]? = some v1:=by simpa using e1
   rw[hux]at e1';exact(w6 e1').symm
  have ev2:v2=uy:=by
   have e2':jts[i]? = some v2:=by simpa using e2
   rw[huy]at e2';exact(w6 e2').symm
  subst ev1 ev2
  have I1:Inv X pins σ (upd H s.heap.objs.size (.tup [x,y])) {s with heap:=s.heap.push {cls:=.type "tuple",data:=.seq ([v1,v2]:List wo).toArray},toks:=tk} :=
   I.laid (λc o q=>wt _ q) .ax (show eZ X.prog X.w _ _ _ (.tup [x,y])from⟨sx .u,_,.cons rux (.cons ruy .nil),Qr _ _⟩)
  have ltf:∀c∈[z,TI,TO,i1,i2],c<s.heap.objs.size:=λc hc=>by
   simp only[wO,WT,or_false]at hc;rcases hc with rfl | rfl | rfl | rfl | rfl
   ·exact wK hz
   ·exact wK hi
   ·exact wK ho
   ·obtain⟨o,e,_⟩:=s1.obj;exact wK e
   ·obtain⟨o,e,_⟩:=s2.obj;exact wK e
  have hf1:∀c∈[z,TI,TO,i1,i2],fY X pins (upd H s.heap.objs.size (.tup [x,y])) c:=λc hc=>⟨by rw[fP (w8 (ltf c hc))];exact(hf c hc).1,(hf c hc).2⟩
  refine⟨_,rfl,wpAny_letOwnedTupleGo_zip hz1 λh2 hz2 hs2=>?_⟩;have hs2:Wd z h1 h2:=hs2
  refine⟨.ref s.heap.objs.size,_,Inv.zr (s:={s with heap:=s.heap.push {cls:=.type "tuple",data:=.seq ([v1,v2]:List wo).toArray},toks:=tk}) (ch:=[z,TI,TO,i1,i2]) I1 (λc o hc q=>?_) hf1,rfl,
   ⟨_,x,y,rfl,I.aR.fresh .ax,λzs hzs=>by rw[I.N_ hzs hq1];exact hx,λzs hzs=>by rw[I.N_ hzs hq2];exact hy,rfl⟩,
   ⟨hz2,hs2.extBut _ _ ap.a1 (hk _ _ ap.a1 ap.a5 ap.a6 ap.a7 hi),⟨_,_,hs2.extBut _ _ ap.a2 ho1⟩,st1.1.at λo e=>hs2.extBut _ _ ap.a3 e,st2.1.at λo e=>hs2.extBut _ _ ap.a4 e⟩,λc hc=>(hf1 c hc).1⟩
  have c1:c≠z:=λq=>hc (by simp[q])
  have c2:c≠TO:=λq=>hc (by simp[q])
  have c3:c≠i1:=λq=>hc (by simp[q])
  have c4:c≠i2:=λq=>hc (by simp[q])
  refine hs2.extBut _ _ c1 ?_
  by_cases hcs:c=s.heap.objs.size
  ·subst hcs
   rw[wY _ rfl]at q;cases q;exact hT1
  ·exact hk c o c1 c2 c3 c4 (by rw[Q7 _ _ _ hcs]at q;exact q)
 done:=by
  intro X hP hw hK hc i pins s σ H E I hf st hg;subst hP hw hK;obtain⟨hz,hi,⟨p,q,ho⟩,s1,s2⟩:=st;obtain⟨xs,ys,hq1,hq2,hend⟩:=hg;obtain⟨its,r1,p1⟩:=I.kN hq1;obtain⟨jts,r2,p2⟩:=I.kN hq2;have e1:=r1.length;have e2:=r2.length;have hT:s.TypeIs .b9 "zip":=⟨_,hz,rfl⟩;unfold pyNext
  refine wp (VN (wpAny_callSpecial?_slot (name:=Wn "__next__") hT WI (Wx WI hT V4
   (OS (k:=i) (sN (A:=X.A.in1) t .aW i1 a na its.toArray) (sN (A:=X.A.in1) u .aW i2 b nb jts.toArray) ap hz hi ho ⟨s1,p1⟩ ⟨s2,p2⟩ (by simp only[wR];lia) λh' y tk hk hx'=>?_) (VQ _))))
  obtain⟨o,ho',hcl⟩:=hx';refine wp (Vt (T:="StopIteration") (b:=true) ⟨o,ho',hcl⟩ isSubtype_stop (wI ⟨rfl,?_⟩));exact Inv.zr (ch:=[z,TI,TO,i1,i2]) I (λc o hc e=>hk c o (λq=>hc (by simp[q])) (λq=>hc (by simp[q])) (λq=>hc (by simp[q])) (λq=>hc (by simp[q])) e) hf
 self:=λ_ _ _ _ _ st h=>wpAny_pyIter_zip st.1 h
abbrev BV(h:wS)(a:wf):wS:=h.push {cls:=.type "tuple_iterator",data:=.fields #[.ref a,.int 0 0]}
abbrev Bp(h:wS)(a b:wf):wS:=(BV h a).push {cls:=.type "tuple_iterator",data:=.fields #[.ref b,.int 0 0]}
abbrev Bs(h:wS)(a b:wf):wS:=(Bp h a b).push {cls:=.type "tuple",data:=.seq #[.ref h.objs.size,.ref (BV h a).objs.size]}
abbrev Cq(h:wS)(a b:wf):wS:=(Bs h a b).push {cls:=.type "tuple",data:=.seq #[.none,.none]}
abbrev rM(h:wS)(a b:wf):wS:=(Cq h a b).push {cls:=.type "zip",data:=.fields #[.none,.bool false,.bool false,.ref (Bp h a b).objs.size,.ref (Bs h a b).objs.size]}
theorem zv9(a b:wf)(xs ys:.aP):Meets (Builtin.«zip.__new__» ⟨[.type "zip",.ref a,.ref b],[]⟩) (λ_ R s=>s.heap.IsTuple a xs/\s.heap.IsTuple b ys/\R (.ok (.ret (.ref (Cq s.heap a b).objs.size))) {s with heap:=rM s.heap a b}) :=
 .of_wp λprog w A R s h=>by
  obtain⟨hp,g,d,tk,os⟩:=s;obtain⟨ha,hb,h⟩:=h;have hsub:=sub_zip;have hA:XD (X5 ⟨hp,g,d,tk,os⟩) a xs:=ha;have hB:XD (X5 ⟨hp.push {cls:=.type "tuple_iterator",data:=.fields #[.ref a,.int 0 0]},g,d,tk,os⟩) b ys:=hb.at λo e=>wt _ e
  wp_walk using VE hA,VE hB
  exact⟨_,rfl,h⟩
section
variable{prog:wT}{w:wX}{A:vB}{E:.n}{s:wq}
theorem UZ{a b:wf}{xs ys:.aP}{Q:.n}(ha:s.heap.IsTuple a xs)(hb:s.heap.IsTuple b ys)
  (fin:∀h',IsZip h' (s.heap.objs.size+4) (s.heap.objs.size+2) (s.heap.objs.size+3) .none->WR h' (s.heap.objs.size+2) .aX (.ref .bB)->WR h' (s.heap.objs.size+3) .none .none ->
   h'.IsTupleIter s.heap.objs.size a 0->h'.IsTupleIter .bB b 0->(∀c o,s.heap.get? c=some o->h'.get? c=some o)->Q (.ref (s.heap.objs.size+4)) {s with heap:=h'}):wD .q A (call (.type "zip") [.ref a,.ref b]) Q E s:=by
 refine callType_new F.called_zip .ab (F.typeCall_zip_2 _ _) (F.newCall_zip_2 _ _) (λobj=>F.args_object_init_3 obj _ _) F.entry_zip_new (zv9 a b xs ys) ⟨ha,hb,?_⟩;have z1:(BV s.heap a).objs.size=s.heap.objs.size+1:=qr ..;have z2:(Bp s.heap a b).objs.size=s.heap.objs.size+2:=by rw[qr,z1]
 have z3:(Bs s.heap a b).objs.size=s.heap.objs.size+3:=by rw[qr,z2]
 have z4:(Cq s.heap a b).objs.size=s.heap.objs.size+4:=by rw[qr,z3]
 have g5:(rM s.heap a b).get? (Cq s.heap a b).objs.size=some _:=wY _ rfl;have g4:(rM s.heap a b).get? (Bs s.heap a b).objs.size=some _:=wt _ (wY _ rfl);have g3:(rM s.heap a b).get? (Bp s.heap a b).objs.size=some _:=wt _ (wt _ (wY _ rfl));have g2:(rM s.heap a b).get? (BV s.heap a).objs.size=some _:=wt _ (wt _ (wt _ (wY _ rfl)));have g1:(rM s.heap a b).get? s.heap.objs.size=some _:=wt _ (wt _ (wt _ (wt _ (wY _ rfl))))
 show _/\_
 rw[z2,z3,z4]at g5;rw[z1,z2]at g3;rw[z3]at g4;rw[z1]at g2;rw[z4];exact⟨⟨_,g5,rfl⟩,fin _ g5 g3 g4 ⟨_,g1,rfl,rfl⟩ ⟨_,g2,rfl,rfl⟩ λc o x=>wt _ (wt _ (wt _ (wt _ (wt _ x))))⟩
end
variable{a:wf}{X:Cx}{elts:.aG}{tpos:Pos}
def zE(t u:Bool)(K:wa)(ta:TA):TI:=λσ H R=>ta σ H λvs H1=>∃a b,vs=[.ref a,.ref b]/\(∃xs,dC t K H1 a xs)/\(∃ys,dC u K H1 b ys)/\R (pb t u K a b) H1
theorem Hj :vX "zip"=some (.type "zip"):=by decide +kernel
theorem pQ{x b:wf}(h:x≠a)(k:x≠b):x ∉ [a,b]:=by simp[h,k]
theorem UM{n a b:Nat}(la:a<n)(lb:b<n):ZA (n+4) (n+2) (n+3) n (n+1) [n,a] [n+1,b] where
 a1:=w8 .c
 a2:=w8 .c
 a3:=w8 .c
 a4:=w8 .c
 a5:=w8 .c
 a6:=vH .c
 a7:=vH .c
 a8:=vH .c
 a9:=vH .c
 b0:=w8 .c
 b1:=pQ (vH .c) (vH .c)
 b2:=pQ (vH .c) (vH .c)
 b3:=pQ (vH .c) (vH .c)
 b4:=pQ (vH .c) (vH .c)
 b5:=pQ (w8 .c) (vH .c)
 b6:=pQ (vH .c) (vH .c)
theorem zAM{k1}{pins:.j}{σ : L2.St}{H:Hp}{s:wq}{R:It->Hp->Prop}{h':wS}{E:.n}{t u:Bool}{b:wf}(I:.l)(la:a<s.heap.objs.size)(lb:b<s.heap.objs.size)
  (hz:IsZip h' (s.heap.objs.size+4) (s.heap.objs.size+2) (s.heap.objs.size+3) .none) (hi:WR h' (s.heap.objs.size+2) .aX (.ref .bB)) (ho:WR h' (s.heap.objs.size+3) .none .none)
  (s1:kU t h' s.heap.objs.size a 0) (s2:kU u h' .bB b 0) (kp:∀c o,s.heap.get? c=some o->h'.get? c=some o) (q:R (pb t u X.K a b) H):wD .m X.A (pyIter (.ref (s.heap.objs.size+4))) (EZ X pins σ .cP R) E {s with heap:=h'}:=by
 refine wpAny_pyIter_zip hz ?_;refine⟨s.heap.objs.size+4,[s.heap.objs.size+4,s.heap.objs.size+2,s.heap.objs.size+3,s.heap.objs.size,s.heap.objs.size+1],_,_,H,rfl,I.kept (t':=s.toks) kp,zAi a b _ (s.heap.objs.size+2) (s.heap.objs.size+3) s.heap.objs.size .bB (UM la lb) (w8 la) (w8 (Q6 lb)),⟨hz,hi,⟨_,_,ho⟩,s1,s2⟩,λc hc=>?_,q⟩
 ·have hb':s.heap.objs.size<=c:=by
   simp only[wO,WT,or_false]at hc;rcases hc with rfl | rfl | rfl | rfl | rfl
   ·exact Vs _ 4
   ·exact Vs _ 2
   ·exact Vs _ 3
   ·exact wu _
   ·exact Vs _ 1
  exact I.lT hb' (I.aR.fresh hb')
theorem zCH{k1}{p pos:Pos}{l m:Expr}{ta:TA}(hg:Gl X "zip")(hm:X.mg "zip"=none)(ha:PA X [l,m] ta)(hs:w9 [l,m] X.env=[(false,eval l X.env),(false,eval m X.env)]:=by rfl)(hs2:w9 [m] X.env=[(false,eval m X.env)]:=by rfl) :
  PI X .cP (.Call (.Name "zip" p) [l,m] [] pos) (zE true true X.K ta):=by
 intro pins s σ H R I h;refine Call_ (jH I hg hm Hj (vQ (aS .cN λus s1 ⟨vs,H1,I1,r1,q1⟩=>?_) (by rw[hs,hs2]) (by rw[hs2];rfl)));obtain⟨a,b,rfl,⟨xs,hq1⟩,⟨ys,hq2⟩,q⟩:=q1;obtain⟨u,v,rfl,ru,rv⟩:=nj r1;cases ru;cases rv;obtain⟨its,_,p1⟩:=I1.kN hq1;obtain⟨jts,_,p2⟩:=I1.kN hq2;have la:a<s1.heap.objs.size:=by obtain⟨o,e,_⟩:=(show s1.heap.IsTuple a its.toArray from p1);exact wK e
 have lb:b<s1.heap.objs.size:=by obtain⟨o,e,_⟩:=(show s1.heap.IsTuple b jts.toArray from p2);exact wK e
 exact UZ p1 p2 λh' hz hi ho t1 t2 kp=>zAM (t:=true) (u:=true) I1 la lb hz hi ho t1 t2 kp q
theorem AH{k1}{p pos:Pos}{l m:Expr}{ta:TA}(hg:Gl X "zip")(hm:X.mg "zip"=none)(ha:PA X [l,m] ta)(hs:w9 [l,m] X.env=[(false,eval l X.env),(false,eval m X.env)]:=by rfl)(hs2:w9 [m] X.env=[(false,eval m X.env)]:=by rfl) :
  PI X .cP (.Call (.Name "zip" p) [l,m] [] pos) (zE false false X.K ta):=by
 intro pins s σ H R I h;refine Call_ (jH I hg hm Hj (vQ (aS .cN λus s1 ⟨vs,H1,I1,r1,q1⟩=>?_) (by rw[hs,hs2]) (by rw[hs2];rfl)));obtain⟨a,b,rfl,⟨xs,hq1⟩,⟨ys,hq2⟩,q⟩:=q1;obtain⟨u,v,rfl,ru,rv⟩:=nj r1;cases ru;cases rv;obtain⟨its,_,p1⟩:=I1.kN hq1;obtain⟨jts,_,p2⟩:=I1.kN hq2;have la:a<s1.heap.objs.size:=by obtain⟨o,e,_⟩:=(show s1.heap.IsList a its.toArray from p1);exact wK e
 have lb:b<s1.heap.objs.size:=by obtain⟨o,e,_⟩:=(show s1.heap.IsList b jts.toArray from p2);exact wK e
 exact call_zip_2 p1 p2 λh' hz hi ho t1 t2 _ kp=>zAM (t:=false) (u:=false) I1 la lb hz hi ho t1 t2 kp q
theorem dC.same{t:Bool}{K:wa}{H H':Hp}{xs:.x}(s:au H H')(h:dC t K H a xs):dC t K H' a xs:=by
 cases t
 ·exact s.seq h
 ·exact s.kY h
def HQ(t u:Bool)(K:wa)(g:TG)(tb:TS)(D:df)(σ : L2.St)(vs:.x)(H1:Hp):Prop:=∃a b,vs=[.ref a,.ref b]/\(∃xs,dC t K H1 a xs)/\(∃ys,dC u K H1 b ys) /\
 ∃W:Nat->Nat->L2.St->Hp->Prop,(∃m,W 0 m σ H1) /\ ∀i m σ H,W i m σ H ->
  ((pb t u K a b).stop i H/\D.nx σ H)\/((pb t u K a b).go i H /\ ∃M:L2.St->Hp->Prop,(∀σ' H',M σ' H'->∃m',m'<m/\W (i+1) m' σ' H') /\ ∀x H',(pb t u K a b).gM i H x H'->g x σ H' λσ2 H2=>tb {D with nx:=M,ct:=M,bk:=D.nx} σ2 H2)
def Jc(t u:Bool)(K:wa)(g:TG)(tt:TT)(te:TE)(src:.S)(σ : L2.St)(vs:.x)(H1:Hp)(Q:VK):Prop:=∃a b,vs=[.ref a,.ref b]/\(∃xs,dC t K H1 a xs)/\(∃ys,dC u K H1 b ys) /\
 ∀D,H1 D=none->mD g tt te (pb t u K a b) D (eX src σ) (upd H1 D .cf) (λH'=>Q .bG H')
section
variable{t u:Bool}{K:wa}{ta:TA}{g:TG}{tb:TS}{tt:TT}{te:TE}{D:df}{σ : L2.St}{H:Hp}{Q:VK}{a b:wf}{xs ys:.x}{src:.S}{o0 o0':.bD}{tl:L2.St}
theorem zCK(h:ta σ H λvs H1=>HQ t u K g tb D σ vs H1):oy (zE t u K ta) g tb D σ H:=h
theorem zBl(h:ta σ H λvs H1=>Jc t u K g tt te src σ vs H1 Q):lU src (zE t u K ta) g tt te σ H Q:=h
theorem zzp(hx:dC t K H a xs)(hy:dC u K H b ys)(hxy:.ag)(Pv:Nat->L2.St->Hp->Prop)(h0:Pv 0 σ H)(hl:∀i σ H,i<=xs.length->Pv i σ H->dC t K H a xs/\dC u K H b ys)
  (hs:∀i x y σ H c H',xs[i]? = some x->ys[i]? = some y->Pv i σ H->H c=none->au H H'->H' c=some (.tup [x,y])->g (.ref c) σ H' λσ2 H2=>tb {D with nx:=Pv (i+1),ct:=Pv (i+1),bk:=D.nx} σ2 H2) (hd:∀σ H,Pv xs.length σ H->D.nx σ H):HQ t u K g tb D σ [.ref a,.ref b] H:=by
 refine⟨a,b,rfl,⟨xs,hx⟩,⟨ys,hy⟩,λi m σ H=>i+m=xs.length/\Pv i σ H,⟨xs.length,by lia,h0⟩,?_⟩;rintro i m σ H ⟨him,hp⟩;obtain⟨hq1,hq2⟩:=hl i σ H .c hp
 by_cases hm:m=0
 ·have e:i=xs.length:=by lia
  subst e;exact .inl ⟨⟨xs,ys,hq1,hq2,.inl rfl⟩,hd _ _ hp⟩
 ·have hi:i<xs.length:=by lia
  have hj:i<ys.length:=by lia
  refine .inr ⟨⟨xs,xs[i],ys,ys[i],hq1,by simp[hi],hq2,by simp[hj]⟩,λσ' H'=>Pv (i+1) σ' H',λσ' H' h=>⟨m-1,by lia,by lia,h⟩,?_⟩;rintro v H' hz;obtain⟨c,x,y,rfl,hn,hx',hy',rfl⟩:=hz;exact hs i x y σ H c _ (hx' xs hq1) (hy' ys hq2) hp hn (au.upd hn) dR
def iU(H:Hp)(tl:L2.St)(Rel:Nat->V->Hp->Prop)(D:wf)(i:Nat)(zs:.x)(σ':L2.St)(H':Hp):Prop :=
 (∃o1 o2,σ'=o1::o2::tl)/\H D=none/\au H H'/\H' D=some (.lst zs)/\zs.length=i /\ ∀j y,zs[j]? = some y->Rel j y H'
theorem yk{Rel:Nat->V->Hp->Prop}{D:wf}{i:Nat}{zs:.x}{σ' σ3:L2.St}{H1 H5:Hp}{y:V}(inv:iU H tl Rel D i zs σ' H1)(hi:i<=1000)(hk:∀i v H1 H2,aW H1 H2->Rel i v H1->Rel i v H2)(hσ : ∃o1 o2,σ3=o1::o2::tl)(s:au H1 H5)(r:Rel i y H5):tN (iU H tl Rel) D i σ3 y H5:=by
 obtain⟨_,hn,s1,hD,hl,hr⟩:=inv;have hD5:=s _ _ hD;refine kF hD5 .c λH6 E6 e6=>⟨hσ,hn,(s1.trans s).grow hn E6,e6,by simp[hl],λj z hz=>?_⟩
 have k6:aW H5 H6:=E6.keep hD5;rcases wJ j zs.length with hj | hj
 ·rw[vO hj]at hz
  exact hk _ _ _ _ (s.keep.trans k6) (hr j z hz)
 ·have hj':j=zs.length:=by
   rcases wJ zs.length j with q | q
   ·rw[wQ .aw]at hz;cases hz
   ·lia
  subst hj';rw[vC .ax,W6]at hz;cases hz;rw[hl];exact hk _ _ _ _ k6 r
theorem Ue(hx:dC t K H a xs)(hy:dC u K H b ys)(hxy:.ag)(hsrc:eX src σ = o0::o0'::tl)(Rel:Nat->V->Hp->Prop)(hk:∀i v H1 H2,aW H1 H2->Rel i v H1->Rel i v H2)
  (hs:∀D i x y zs o1 o2 H1 c,xs[i]? = some x->ys[i]? = some y->iU H tl Rel D i zs (o1::o2::tl) H1->H1 c=some (.tup [x,y])->j4 (iU H tl Rel) g tt te D i (.ref c) (o1::o2::tl) H1)
  (hd:∀D zs H',H D=none->au H H'->H' D=some (.lst zs)->zs.length=xs.length->(∀j y,zs[j]? = some y->Rel j y H')->Q .bG H'):Jc t u K g tt te src σ [.ref a,.ref b] H Q:=by
 refine⟨a,b,rfl,⟨xs,hx⟩,⟨ys,hy⟩,λD hD=>⟨λi m σ' H'=>i+m=xs.length /\ ∃zs,iU H tl Rel D i zs σ' H',⟨xs.length,by lia,[],⟨o0,o0',hsrc⟩,hD,au.upd hD,dR,rfl,λj y z=>by simp at z⟩,?_⟩⟩;rintro i m σ' H' ⟨him,zs,inv⟩;have hq1:=dC.same inv.2.2.1 hx;have hq2:=dC.same inv.2.2.1 hy
 by_cases hm:m=0
 ·have e:i=xs.length:=by lia
  subst e;obtain⟨_,n,s,e,hl,r⟩:=inv;exact .inl ⟨⟨xs,ys,hq1,hq2,.inl rfl⟩,hd D zs H' n s e hl r⟩
 ·have hi:i<xs.length:=by lia
  have hj:i<ys.length:=by lia
  refine .inr ⟨⟨xs,xs[i],ys,ys[i],hq1,by simp[hi],hq2,by simp[hj]⟩,λσ2 H2=>∃zs,iU H tl Rel D (i+1) zs σ2 H2,λσ2 H2 h=>⟨m-1,by lia,by lia,h⟩,?_⟩;rintro v H2 hz;obtain⟨c,x,y,rfl,hn,hx',hy',rfl⟩:=hz;obtain⟨⟨o1,o2,rfl⟩,n,s,e,hl,r⟩:=inv;have su:=au.upd (o:=.tup [x,y]) hn;exact hs D i x y zs o1 o2 _ c (hx' xs hq1) (hy' ys hq2) ⟨⟨o1,o2,rfl⟩,n,s.trans su,su _ _ e,hl,λj y hy=>hk _ _ _ _ su.keep (r j y hy)⟩ dR
end
def K_(K:wa):List V->Hp->VK->Prop:=λxs H Q=>∃(p:wf)(ns:.p),xs=[.ref p]/\a_ K H p .aC/\Q (.int ns.sum) H
theorem Br:vX "sum"=some (.builtin "sum"):=by decide +kernel
open PyProof.V PySem.Calls in
theorem zzt{X:Cx}(hc:.bE):bN X (.builtin "sum") (K_ X.K):=by
 intro pins s σ H xs us Q I r h;obtain⟨p,ns,rfl,hq,q⟩:=h;obtain⟨u,rfl,rx⟩:=jE r;cases rx;obtain⟨its,r',pl,hz⟩:=I.tuple hq;have hI:=BP r';have hT:s.heap.IsTuple p its.toArray:=pl;obtain⟨zs,hx⟩:=hI.allInts.items;have hn:numsOf its.toArray.toList=ns:=by rw[show its.toArray.toList=its from rfl,hI.numsOf]
 rw[hx]at hT hn;rw[nums_intItems]at hn;refine PySem.W.ktm_sumG .aW hT λh' tk t' hk=>?_
 rw[preSum_eq,WJ .u,hn];exact⟨.int ns.sum,H,I.kept (t':=tk) hk,⟨_,rfl⟩,q⟩
theorem zBZ{K:wa}{H:Hp}{Q:VK}{v:V}{ns:.p}(h:Is K H v (TZ ns))(q:Q (.int ns.sum) H):K_ K [v] H Q:=by
 obtain⟨a,rfl,hs⟩:=yC.mp h;exact⟨a,ns,rfl,hs,q⟩
theorem yY{α : Type}(xs:.cc)(k:Nat):cutD xs none (some (k:Int))=xs.take k:=by
 unfold cutD;rw[HT.sJ,HT.pF,xQ,Nat.sub_zero];rcases Nat.le_total k xs.length with h | h
 ·rw[Qy h]
 ·rw[Nat.min_eq_right h,Wm,WJ h]
theorem Eu{α : Type}(xs:.cc)(k:Nat)(h:k<=xs.length):cutD xs (some (k:Int)) none=xs.drop k:=by
 unfold cutD;rw[HT.sJ,HT.pF,Qy h];exact WJ (by rw[Wg];lia)
def mX(K:wa):List V->Hp->VK->Prop:=λxs H Q=>∃(p:wf)(bs:.cF),xs=[.ref p]/\aF K H p (bs.map V.bl)/\Q (.bl (bs.all id)) H
theorem pO:vX "all"=some (.builtin "all"):=by decide +kernel
theorem Um{bs:.cF} : ∀{us:.Y},aZ (bs.map V.bl) us->us=bs.map Value.bool:=by
 induction bs with
 | nil=>intro us r;rw[Qt]at r;cases r;rfl
 | cons b bs ih =>
  intro us r;rw[vi]at r;cases r with
  | cons r1 r2 =>
   cases r1;rw[vi,ih r2]
theorem zwj(bs:.cF):((wr bs.length).all λi=>(bs[i]?).getD true)=bs.all id:=by
 rw[vI,Wq,Wq]
 constructor
 ·intro h b hb
  obtain⟨i,hi,rfl⟩:=vA hb;have:=h i (wN.mpr hi);rw[we hi]at this;exact this
 ·intro h i hi
  rw[wN]at hi;rw[we hi];exact h _ (vF hi)
open PyProof.V PySem.Calls in
theorem pR{X:Cx}(hc:.bE):bN X (.builtin "all") (mX X.K):=by
 intro pins s σ H xs us Q I r h;obtain⟨p,bs,rfl,hq,q⟩:=h;obtain⟨u,rfl,rx⟩:=jE r;cases rx;obtain⟨its,r',pl,hz⟩:=I.list hq;have hi:its=bs.map Value.bool:=Um r';have hl:s.heap.IsList p its.toArray:=pl.isList;have hlt:p<s.heap.objs.size:=by obtain⟨_,e,_⟩:=hl;exact wK e
 refine call_all_walk (qm hl ?_)
 refine⟨s.heap.objs.size,[s.heap.objs.size,p],[s.heap.objs.size],its.toArray.size,_,_,λi=>(bs[i]?).getD true,rfl,uK (A:=X.A.in1) .aW _ p (w8 hlt) its.toArray,
  ⟨⟨_,wY _ rfl,rfl,rfl⟩,hl.push _⟩,λi v s' Q' E' hP hQ=>?_,λh' tk hk=>?_⟩
 ·have hP:its.toArray[i]? = some v:=hP
  rw[hi]at hP;simp only[xR,wA,Vu]at hP;obtain⟨b,e,rfl⟩:=hP;simp only[e,xj]at hQ;exact WD hQ
 ·have e:((wr its.toArray.size).all λi=>(bs[i]?).getD true)=bs.all id:=by
   rw[wR,hi,wn];exact zwj bs
  rw[e];exact⟨.bl (bs.all id),H,I.kept (t':=tk) (λb x e=>hk b x (λhm=>by rw[wZ.mp hm]at e;exact Vj _ (wK e)) (wt _ e)),rfl,q⟩
theorem oK{K:wa}{H:Hp}{Q:VK}{p:wf}{bs:.cF}(h:aF K H p (bs.map V.bl))(q:Q (.bl (bs.all id)) H):mX K [.ref p] H Q:=⟨p,bs,rfl,h,q⟩
section
variable{t u:Bool}{K:wa}{g:TG}{tt:TT}{te:TE}{σ : L2.St}{H:Hp}{Q:VK}{a b:wf}{xs ys:.x}{src:.S}{o0 o0':.bD}{tl:L2.St}
theorem zBW(hx:dC t K H a xs)(hy:dC u K H b ys)(hxy:ys.length<xs.length)(hsrc:eX src σ = o0::o0'::tl)(Rel:Nat->V->Hp->Prop)(hk:∀i v H1 H2,aW H1 H2->Rel i v H1->Rel i v H2)
  (hs:∀D i x y zs o1 o2 H1 c,xs[i]? = some x->ys[i]? = some y->iU H tl Rel D i zs (o1::o2::tl) H1->H1 c=some (.tup [x,y])->j4 (iU H tl Rel) g tt te D i (.ref c) (o1::o2::tl) H1)
  (hd:∀D zs H',H D=none->au H H'->H' D=some (.lst zs)->zs.length=ys.length->(∀j y,zs[j]? = some y->Rel j y H')->Q .bG H'):Jc t u K g tt te src σ [.ref a,.ref b] H Q:=by
 refine⟨a,b,rfl,⟨xs,hx⟩,⟨ys,hy⟩,λD hD=>⟨λi m σ' H'=>i+m=ys.length /\ ∃zs,iU H tl Rel D i zs σ' H',⟨ys.length,by lia,[],⟨o0,o0',hsrc⟩,hD,au.upd hD,dR,rfl,λj y z=>by simp at z⟩,?_⟩⟩;rintro i m σ' H' ⟨him,zs,inv⟩;have hq1:=dC.same inv.2.2.1 hx;have hq2:=dC.same inv.2.2.1 hy
 by_cases hm:m=0
 ·have e:i=ys.length:=by lia
  subst e;obtain⟨_,n,s,e,hl,r⟩:=inv;exact .inl ⟨⟨xs,ys,hq1,hq2,.inr ⟨hxy,rfl⟩⟩,hd D zs H' n s e hl r⟩
 ·have hi:i<xs.length:=by lia
  have hj:i<ys.length:=by lia
  refine .inr ⟨⟨xs,xs[i],ys,ys[i],hq1,by simp[hi],hq2,by simp[hj]⟩,λσ2 H2=>∃zs,iU H tl Rel D (i+1) zs σ2 H2,λσ2 H2 h=>⟨m-1,by lia,by lia,h⟩,?_⟩;rintro v H2 hz;obtain⟨c,x,y,rfl,hn,hx',hy',rfl⟩:=hz;obtain⟨⟨o1,o2,rfl⟩,n,s,e,hl,r⟩:=inv;have su:=au.upd (o:=.tup [x,y]) hn;exact hs D i x y zs o1 o2 _ c (hx' xs hq1) (hy' ys hq2) ⟨⟨o1,o2,rfl⟩,n,s.trans su,su _ _ e,hl,λj y hy=>hk _ _ _ _ su.keep (r j y hy)⟩ dR
end
variable{H:Hp}
def RF(g:TG)(tb:TS)(D:df)(σ : L2.St)(vs:.x)(H1:Hp):Prop:=∃i j:Int,vs=[.int i,.int j]/\(-(2^62)<=i/\i<2^62 /\ -(2^62)<=j/\j<2^62) /\
 ∃W:Nat->Nat->L2.St->Hp->Prop,(∃m,W 0 m σ H1) /\ ∀k m σ H,W k m σ H ->
  ((iY i (j-i).toNat).stop k H/\D.nx σ H)\/((iY i (j-i).toNat).go k H /\ ∃M:L2.St->Hp->Prop,(∀σ' H',M σ' H'->∃m',m'<m/\W (k+1) m' σ' H') /\ ∀x H',(iY i (j-i).toNat).gM k H x H'->g x σ H' λσ2 H2=>tb {D with nx:=M,ct:=M,bk:=D.nx} σ2 H2)
theorem zBC{ta:TA}{g:TG}{tb:TS}{D:df}{σ : L2.St}(h:ta σ H λvs H1=>RF g tb D σ vs H1):oy (zDT ta) g tb D σ H:=h
theorem zwK{g:TG}{tb:TS}{D:df}{σ : L2.St}{lo hi:Int}(h0 : -1000000000<=lo)(h1:lo<1000000000)(h2 : -1000000000<=hi)(h3:hi<1000000000)(Pv:Nat->L2.St->Hp->Prop)(p:Pv 0 σ H)
  (hs:∀(i:Nat) σ H,i<(hi-lo).toNat->Pv i σ H->g (.int (lo+(i:Int))) σ H λσ2 H2=>tb {D with nx:=Pv (i+1),ct:=Pv (i+1),bk:=D.nx} σ2 H2)
  (hd:∀σ H,Pv (hi-lo).toNat σ H->D.nx σ H):RF g tb D σ [.int lo,.int hi] H :=
 ⟨lo,hi,rfl,⟨by lia,by lia,by lia,by lia⟩,RL (lo:=lo) Pv p hs hd⟩
def FI(K:wa):List V->Hp->VK->Prop:=λxs H Q=>∃x tp S T d b,xs=[x,.ref tp]/\a_ K H tp [.ty S,.ty T]/\Is K H x d/\uU K (.type (kindOf d)) [.type S,.type T]=some b/\Q (.bl b) H
theorem zvU{X:Cx} : bN X .ao (FI X.K):=by
 intro pins s σ H xs us Q I r h;obtain⟨x,tp,S,T,d,b,rfl,ht,hd,e,q⟩:=h;obtain⟨u,w',rfl,rx,rt⟩:=nj r;cases (show w'=Value.ref tp from rt);obtain⟨tts,rv,⟨ot,ht1,ht2,n,ht3⟩,_⟩:=I.tuple ht;obtain⟨t1,t2,rfl,r1,r2⟩:=nj rv;cases (show t1=Value.type S from r1);cases (show t2=Value.type T from r2);obtain⟨c,dd,da,sl⟩:=ot;cases ht2;cases ht3;have fin:∀tk,EP X pins σ Q (.bool b) {s with toks:=tk}:=λtk=>⟨.bl b,H,I.tok _,rfl,q⟩
 cases d with
 | none =>
  cases nT.mp hd;cases (show u=Value.none from rx);exact VI XT I.eU True.intro ht1 e .bY fin
 | bool y =>
  cases mh.mp hd;cases (show u=Value.bool y from rx);exact VI XU I.eU True.intro ht1 e .bY fin
 | int i =>
  cases cj.mp hd;obtain⟨t,q⟩:=(show ∃t,u=Value.int i t from rx);cases q;exact VI ui I.eU True.intro ht1 e .bY fin
 | str y =>
  cases cN.mp hd;obtain⟨t,q⟩:=(show ∃t,u=Value.str y t from rx);cases q;exact VI uj I.eU True.intro ht1 e .bY fin
 | tuple ds =>
  obtain⟨a,xs,e1,hq,_⟩:=cA.mp hd;subst e1;cases (show u=Value.ref a from rx);obtain⟨its,_,⟨o,h1,h2,_⟩,_⟩:=I.tuple hq;exact VI XA I.eU ⟨o,h1,h2⟩ ht1 e .bY fin
 | list ds =>
  obtain⟨a,xs,e1,hq,_⟩:=bY.mp hd;subst e1;cases (show u=Value.ref a from rx);obtain⟨its,_,⟨o,n,h1,h2,_⟩,_⟩:=I.list hq;exact VI XV I.eU ⟨o,h1,h2⟩ ht1 e .bY fin
 | dict kv =>
  obtain⟨a,kvs,e1,hq⟩:=B0.mp hd;subst e1;cases (show u=Value.ref a from rx);obtain⟨_,_,vs,_,o,es,ep,h1,h2,_⟩:=(show eZ X.prog X.w H s.heap a (.dK kvs)from I.aR a _ hq);exact VI XW I.eU ⟨o,h1,h2.1⟩ ht1 e .bY fin
theorem zC0{K:wa}(d:wF):uU K (.type (kindOf d)) [.type "list",.type "tuple"]=some (mV d || kD d):=by cases d<;>rfl
theorem Ef{K:wa}{Q:VK}{v:V}{tp:wf}{d:wF}(h:.bA)(t:H tp=some (.tup [.ty "list",.ty "tuple"]))(q:Q (.bl (mV d || kD d)) H):FI K [v,.ref tp] H Q :=
 ⟨v,tp,"list","tuple",d,_,rfl,.of t,h,zC0 d,q⟩
section
variable{X:Cx}{tg:Expr}
def KY(K:wa)(tl:TE):TI:=λσ H R=>tl σ H λx H1=>(∃a,x=.ref a/\(∃xs,aF K H1 a xs)/\R (k9 K a) H1)\/(∃a,x=.ref a/\(∃xs,a_ K H1 a xs)/\R (kX K a) H1)
theorem Ho{l:Expr}{tl:TE}(hl:PE X l tl):PI X tg l (KY X.K tl):=by
 intro pins s σ H R I h;refine aS (hl pins s σ H _ I h) λv s1 ⟨x,H1,I1,r1,q1⟩=>?_
 rcases q1 with⟨a,e,⟨xs,hq⟩,q⟩ | ⟨a,e,⟨xs,hq⟩,q⟩
 ·subst e
  cases r1;obtain⟨its,rv,p,hz⟩:=I1.list hq;refine qm p.isList ?_;refine⟨s1.heap.objs.size,[s1.heap.objs.size],_,_,H1,rfl,I1.kept (t':=s1.toks) λb o e=>wt _ e,zry a _,⟨_,wY _ rfl,rfl,rfl⟩,λb hb=>?_,q⟩;have e:b=s1.heap.objs.size:=by simpa using hb
  subst e;exact I1.lT .ax (I1.aR.fresh .ax)
 ·subst e
  cases r1;obtain⟨its,rv,p,hz⟩:=I1.tuple hq;refine VE (show s1.heap.IsTuple a its.toArray from p) ?_;refine⟨s1.heap.objs.size,[s1.heap.objs.size],_,_,H1,rfl,I1.kept (t':=s1.toks) λb o e=>wt _ e,UA a _,⟨_,wY _ rfl,rfl,rfl⟩,λb hb=>?_,q⟩;have e:b=s1.heap.objs.size:=by simpa using hb
  subst e;exact I1.lT .ax (I1.aR.fresh .ax)
end
section
variable{K:wa}{g:TG}{tt:TT}{te ta tb' tc:TE}{tb:TS}{D:df}{src:.S}{σ : St}{H:Hp}{Q:VK}{r r':R2}
theorem zAa(h:ta σ H λx H1=>Dc K g tt te src σ x H1 Q\/AN K g tt te src σ x H1 Q):lU src (KY K ta) g tt te σ H Q:=h
theorem zDh(h:te σ H λx H1=>B8 K g tb D σ x H1\/Sx K g tb D σ x H1):oy (KY K te) g tb D σ H:=h
theorem dq28:(Kk r r' ta tb' tc σ H Q)=(ta σ H λx H1=>tb' σ H1 λy H2=>r x y H2 λz H3=>∃k,z=.bl k/\(if k=true then tc σ H3 λw' H4=>r' y w' H4 Q else Q .cn H3)):=rfl
theorem zB4(h:ta σ H λx H1=>tb' σ H1 λy H2=>r x y H2 λz H3=>∃k,z=.bl k/\(if k=true then tc σ H3 λw' H4=>r' y w' H4 Q else Q .cn H3)):Kk r r' ta tb' tc σ H Q:=h
theorem zFo{b:Bool}{P:Bool->Prop}(h:P b):∃k,V.bl b=.bl k/\P k:=⟨b,rfl,h⟩
end
variable{K:wa}{H:Hp}{tpos:Pos}
def bG(a b:Rat)(xs:.a):wF:=.tuple [R a b,TN xs]
theorem AX(a b:Rat)(xs:.a):c_ (bG a b xs)=true:=by rw[bG,c_,aT,aT,aT,Ae,d6];rfl
theorem zF6{x y:Rat}(h:N x=N y):x=y:=by
 have h':PyData.tuple [.int x.num,.int .ac]=PyData.tuple [.int y.num,.int .bF]:=h
 injection h' with h1
 injection h1 with h2 h3
 injection h2 with h4
 injection h3 with h5 _
 injection h5 with h6
 exact uT h4 .c
theorem kl{us:.x}{ds:.bP}{i:Nat}{x:V}(t:ah K H us ds)(h:us[i]? = some x):i<ds.length/\Is K H x (ds.getD i .none):=by
 have hl:=t.length
 have hi:i<ds.length:=by
  rcases wJ i ds.length with z | z
  ·exact z
  ·rw[wQ .c]at h;cases h
 obtain⟨y,e,k⟩:=t.get (i:=i) (d:=ds.getD i .none) (by rw[wb,we hi];rfl);rw[e]at h;cases h;exact⟨hi,k⟩
theorem Zl(a b:Rat)(xs:.a):vM (bG a b xs)=true:=by
 unfold vM bG R TN;rw[vD,vK,vK,vK,vD,vK,vK,vK,Fh,Fh,vD,pM,WC,Wa,Wa,Wa,WC,Wa,Wa,Wa,IS,IS,WC];have:=AA xs;simp only[W3,Q2];exact decide_eq_true .c
theorem RH(a b c d:Rat)(xs ys:.a):wP (bG a b xs) (bG c d ys)=(decide (a=c)&&decide (b=d)&&decide (xs=ys)):=by
 unfold bG;rw[wP,Ww,Ww,Ww,zGF,BG];simp
theorem zFJ{Q:VK}{v w:V}{a b c d:Rat}{xs ys:.a}(h:Is K H v (bG a b xs))(k:Is K H w (bG c d ys))(q:Q (.bl (!(decide (a=c)&&decide (b=d)&&decide (xs=ys)))) H):md K v w H Q :=
 yM h k (Zl a b xs) (Zl c d ys) (by rw[RH];exact q)
def Ci:List V->Hp->VK->Prop:=λxs H Q=>∃i j,xs=[.int i,.int j]/\Q (.int (if j<i then j else i)) H
theorem YO{X:Cx}(hc:.bE):bN X (.builtin "min") Ci:=zyQ hc
theorem zBi :vX "min"=some (.builtin "min"):=by decide +kernel
theorem zDC{i j:Int}{Q:VK}(q:∀m:Int,m<=i->m<=j->(m=i\/m=j)->Q .cB H):Ci [.int i,.int j] H Q:=⟨i,j,rfl,by
 split
 ·exact q j .c .c (.inr rfl)
 ·exact q i .c .c .aI⟩
def IA(K:wa)(a:wf):It :=
 ⟨λi H=>∃xs x,aF K H a xs/\xs[i]? = some x,λi H y H'=>∃t x,y=.ref t/\H t=none/\(∀xs,aF K H a xs->xs[i]? = some x)/\H'=upd H t (.tup [.int (i:Int),x]),λi H=>∃xs,aF K H a xs/\xs.length<=i⟩
theorem zw8{P:wT}{w:wX}{elts:.aG}{k1}(a e it:wf)(hne:e≠it):lD P w K .cP (IA K a) [e,it] e (λi h=>(∃old,IsEnum h e it (i:Int) old)/\h.IsListIter it a i) where
 mem:=by simp
 obj:=λi h st b hb=>by
  obtain⟨⟨old,he⟩,o,eo,c,d⟩:=st;rcases wO.mp hb with rfl | hb
  ·exact⟨_,he,λv z=>by cases (show Data.fields _=Data.cell v from z)⟩
  ·rw[wZ.mp hb]
   exact⟨o,eo,λv z=>by rw[d]at z;cases z⟩
 keep:=λi h h' st k=>⟨let ⟨old,he⟩:=st.1;⟨old,k e .u _ he⟩,st.2.at λo eo=>k it .u o eo⟩
 item:=by
  intro X hP hw hK hc i pins s σ H E I hf st hg;subst hP hw hK;obtain⟨⟨old,he⟩,st⟩:=st;obtain⟨xs,x,hq,hx⟩:=hg;obtain⟨its,rv,p,hz⟩:=I.list hq;obtain⟨u,hu,ru⟩:=rv.get hx;have p':s.heap.IsList a its.toArray:=p.isList
  have hai:a≠it:=λz=>by
   subst z;obtain⟨o,e1,c1,_⟩:=st;obtain⟨o',e2,c2,_⟩:=p';rw[e1]at e2;cases e2;rw[c1]at c2;exact absurd c2 .ab
  have hae:e≠a:=λz=>by
   subst z;obtain⟨o',e2,c2,_⟩:=p';rw[he]at e2;cases e2;exact absurd (show Value.type "enumerate"=Value.type "list" from c2) .ab
  have hlt:i<its.toArray.size:=by
   rcases wJ i its.length with z | z
   ·simpa using z
   ·rw[wQ z]at hu;cases hu
  refine wpAny_pyNext_enum_itemD (Draws.list (A:=X.A.in1) .aW it a hai its.toArray) he ⟨st,p'⟩ hlt hne (by simp[hne,hae]) λv h1 tk hv ho hs1 hT hsz hk=>?_
  have hvu:v=u:=by
   have hv':its[i]? = some v:=by simpa using hv
   rw[hu]at hv';exact(w6 hv').symm
  subst hvu
  have I1:Inv X pins σ (upd H s.heap.objs.size (.tup [.int (i:Int),x])) {s with heap:=s.heap.push {cls:=.type "tuple",data:=.seq ([.int (i:Int) tk,v]:List wo).toArray},toks:=tk+1} :=
   I.laid (λb o q=>wt _ q) .ax (show eZ X.prog X.w _ _ _ (.tup [.int (i:Int),x])from⟨sx .u,_,.cons ⟨_,rfl⟩ (.cons ru .nil),Qr _ _⟩)
  have lt1:∀b∈[e,it],b<s.heap.objs.size:=λb hb=>by
   rcases wO.mp hb with rfl | hb
   ·exact wK he
   ·rw[wZ.mp hb]
    obtain⟨o,eo,_⟩:=st;exact wK eo
  have hf1:∀b∈[e,it],fY X pins (upd H s.heap.objs.size (.tup [.int (i:Int),x])) b:=λb hb=>⟨by rw[fP (w8 (lt1 b hb))];exact(hf b hb).1,(hf b hb).2⟩
  refine⟨_,rfl,wpAny_letOwnedTupleGo_enum ho λh2 he2 hs2=>?_⟩;refine⟨.ref s.heap.objs.size,_,Inv.zr (s:={s with heap:=s.heap.push {cls:=.type "tuple",data:=.seq ([.int (i:Int) tk,v]:List wo).toArray},toks:=tk+1}) (ch:=[e,it]) I1 (λb o hb q=>?_) hf1,rfl,⟨_,x,rfl,I.aR.fresh .ax,λys hy=>by rw[I.DH hy hq];exact hx,rfl⟩,⟨⟨_,by simpa using he2⟩,hs1.1.at λo eo=>(hs2.2 it (WN hne)).trans eo⟩,λb hb=>(hf1 b hb).1⟩;have hbe:b≠e:=λz=>hb (by simp[z])
  have hbi:b≠it:=λz=>hb (by simp[z])
  refine(hs2.2 b hbe).trans ?_
  by_cases hb2:b=s.heap.objs.size
  ·subst hb2
   rw[wY _ rfl]at q;cases q;exact hT
  ·exact hk b o hbe hbi (by rw[Q7 _ _ _ hb2]at q;exact q)
 done:=by
  intro X hP hw hK hc i pins s σ H E I hf st hg;subst hP hw hK;obtain⟨⟨old,he⟩,st⟩:=st;obtain⟨xs,hq,hx⟩:=hg;obtain⟨its,rv,p,hz⟩:=I.list hq;have p':s.heap.IsList a its.toArray:=p.isList;have hl:=rv.length;have hT:s.TypeIs (.ref e) "enumerate":=⟨_,he,rfl⟩;unfold pyNext;refine wp (VN (wpAny_callSpecial?_slot (name:=Wn "__next__") hT qx (Wx qx hT xI ?_ (xo _))))
  show wD _ _ (field (.ref e) 2 >>= _) _ _ _;refine wp (vS he rfl (x:=.ref it) rfl ?_)
  refine wp (wpAny_nextOf_list_end (A:=X.A.in1) .aW st p' .aw λh' y he' hx'=>?_);obtain⟨o,ho,hcl⟩:=hx';refine wp (Vt (T:="StopIteration") (b:=true) ⟨o,ho,hcl⟩ isSubtype_stop (wI ⟨rfl,?_⟩));obtain⟨f0,f1,f2,f3,f4,f5⟩:=hf it .u;exact I.turned (t':=s.toks) (λb o hb e=>he' b o hb e) f0 f1 f3 f4 f5
 self:=λ_ _ _ _ _ st h=>let ⟨_,he⟩:=st.1;wpAny_pyIter_enum he h
def Zu(K:wa)(ta:TA):TI:=λσ H R=>ta σ H λvs H1=>∃a,vs=[.ref a]/\(∃xs,aF K H1 a xs)/\R (IA K a) H1
theorem zBs{X:Cx}{elts:.aG}{k1}{p pos:Pos}{l:Expr}{ta:TA}(hg:Gl X "enumerate")(hm:X.mg "enumerate"=none)(ha:PA X [l] ta)(hs:w9 [l] X.env=[(false,eval l X.env)]:=by rfl) :
  PI X .cP (.Call (.Name "enumerate" p) [l] [] pos) (Zu X.K ta):=by
 intro pins s σ H R I h;refine Call_ (jH I hg hm Te (vQ (aS .cN λus s1 ⟨vs,H1,I1,r1,q1⟩=>?_) hs rfl));obtain⟨a,rfl,⟨xs,hq⟩,q⟩:=q1;obtain⟨u,rfl,ru⟩:=jE r1;cases ru;obtain⟨its,rv,p,hz⟩:=I1.list hq;refine call_enumerate_list p.isList λh' he hit _ kp=>?_
 refine wpAny_pyIter_enum he ?_;refine⟨s1.heap.objs.size+1,[s1.heap.objs.size+1,s1.heap.objs.size],_,_,H1,rfl,I1.kept (t':=s1.toks) kp,zw8 a (s1.heap.objs.size+1) s1.heap.objs.size (um _),⟨⟨_,he⟩,hit⟩,λb hb=>?_,q⟩
 have hb':s1.heap.objs.size<=b:=by
  rcases wO.mp hb with rfl | hb
  ·lia
  ·rw[wZ.mp hb];exact wu _
 exact I1.lT hb' (I1.aR.fresh hb')
def zBY(K:wa)(g:TG)(tt:TT)(te:TE)(src:.S)(σ : St)(vs:.x)(H1:Hp)(Q:VK):Prop:=∃a,vs=[.ref a]/\(∃xs,aF K H1 a xs) /\
 ∀D,H1 D=none->mD g tt te (IA K a) D (eX src σ) (upd H1 D .cf) (λH'=>Q .bG H')
section
variable{K:wa}{ta:TA}{g:TG}{tb:TS}{tt c:TT}{te:TE}{D:df}{σ : St}{H:Hp}{Q:VK}{a:wf}{xs:.x}{src:.S}{o0 o0':.bD}{tl:St}
theorem zzv(h:ta σ H λvs H1=>zBY K g tt te src σ vs H1 Q):lU src (Zu K ta) g tt te σ H Q:=h
theorem zz3(hx:aF K H a xs)(hsrc:eX src σ = o0::o0'::tl)(Rel:Nat->V->Hp->Prop)(hk:∀i v H1 H2,aW H1 H2->Rel i v H1->Rel i v H2)
  (hs:∀D i x zs o1 o2 H1 c,xs[i]? = some x->iU H tl Rel D i zs (o1::o2::tl) H1->H1 c=some (.tup [.int (i:Int),x])->j4 (iU H tl Rel) g tt te D i (.ref c) (o1::o2::tl) H1)
  (hd:∀D zs H',H D=none->au H H'->H' D=some (.lst zs)->zs.length=xs.length->(∀j y,zs[j]? = some y->Rel j y H')->Q .bG H'):zBY K g tt te src σ [.ref a] H Q:=by
 refine⟨a,rfl,⟨xs,hx⟩,λD hD=>⟨λi m σ' H'=>i+m=xs.length /\ ∃zs,iU H tl Rel D i zs σ' H',⟨xs.length,by lia,[],⟨o0,o0',hsrc⟩,hD,au.upd hD,dR,rfl,λj y z=>by simp at z⟩,?_⟩⟩;rintro i m σ' H' ⟨him,zs,inv⟩;have hq1:=inv.2.2.1.seq hx
 by_cases hm:m=0
 ·have e:i=xs.length:=by lia
  subst e;obtain⟨_,n,s,e,hl,r⟩:=inv;exact .inl ⟨⟨xs,hq1,wu _⟩,hd D zs H' n s e hl r⟩
 ·have hi:i<xs.length:=by lia
  refine .inr ⟨⟨xs,xs[i],hq1,by simp[hi]⟩,λσ2 H2=>∃zs,iU H tl Rel D (i+1) zs σ2 H2,λσ2 H2 h=>⟨m-1,by lia,by lia,h⟩,?_⟩;rintro v H2 hz;obtain⟨c,x,rfl,hn,hx',rfl⟩:=hz;obtain⟨⟨o1,o2,rfl⟩,n,s,e,hl,r⟩:=inv;have su:=au.upd (o:=.tup [.int (i:Int),x]) hn;exact hs D i x zs o1 o2 _ c (hx' xs hq1) ⟨⟨o1,o2,rfl⟩,n,s.trans su,su _ _ e,hl,λj y hy=>hk _ _ _ _ su.keep (r j y hy)⟩ dR
def zyt(Pv:Nat->St->Hp->Prop)(m:Nat)(tb:TS)(D:df)(σ':St)(H1:Hp):Prop :=
 ∃M:St->Hp->Prop,(∀σ2 H2,M σ2 H2->∃m',m'<m/\Pv m' σ2 H2)/\tb {D with nx:=M,ct:=M,bk:=D.nx} σ' H1
theorem rN(Pv:Nat->St->Hp->Prop)(m0:Nat)(h0:Pv m0 σ H)(hs:∀m σ' H',Pv m σ' H'->c σ' H' λb H1=>if b=true then zyt Pv m tb D σ' H1 else D.nx σ' H1):Fo c tb D σ H:=⟨Pv,⟨m0,h0⟩,hs⟩
theorem rV{Pv:Nat->St->Hp->Prop}{m:Nat}{σ':St}{H1:Hp}(h:tb {D with nx:=λσ2 H2=>∃m',m'<m/\Pv m' σ2 H2,ct:=λσ2 H2=>∃m',m'<m/\Pv m' σ2 H2,bk:=D.nx} σ' H1):zyt Pv m tb D σ' H1:=⟨_,λ_ _ q=>q,h⟩
def BH(K:wa)(x:V)(H:Hp)(Q:Bool->Hp->Prop):Prop:=∃k,FE K x H k/\Q k H
def Yh(K:wa)(te:TE):TT:=λσ H Q=>te σ H λx H'=>BH K x H' Q
theorem AR{X:Cx}{e:Expr}{t:TE}(h:PE X e t)(he:∀whole,isTrue e X.env whole=(do let v <- whole;standAt e.pos;holding [v] (truthy v)):=by intro _;rfl):PT X e (Yh X.K t):=zBb h he
theorem dq24{QB:Bool->Hp->Prop}:(Yh K te σ H QB)=(te σ H λx H'=>BH K x H' QB):=rfl
theorem zEP{QB:Bool->Hp->Prop}(h:te σ H λx H'=>BH K x H' QB):Yh K te σ H QB:=h
theorem zDl{QB:Bool->Hp->Prop}{v:V}{ds:.bP}(h:Is K H v .aH)(q:QB (!ds.isEmpty) H):BH K v H QB:=by
 obtain⟨p,us,rfl,hs,t⟩:=cA.mp h;have hl:=t.length;refine⟨_,.inr (.inl ⟨us,hs,rfl⟩),?_⟩
 have e:us.isEmpty=ds.isEmpty:=by
  cases us<;>cases ds<;>simp_all
 rw[e];exact q
theorem Fv{QB:Bool->Hp->Prop}{v:V}{ds:.bP}(h:Is K H v .cq)(q:QB (!ds.isEmpty) H):BH K v H QB:=by
 obtain⟨p,us,rfl,hs,t⟩:=bY.mp h;have hl:=t.length;refine⟨_,.inl ⟨us,hs,rfl⟩,?_⟩
 have e:us.isEmpty=ds.isEmpty:=by
  cases us<;>cases ds<;>simp_all
 rw[e];exact q
end
theorem PR:∀(ys:.x)(us:.Y),ys.length=us.length->(∀(i:Nat) y u,ys[i]? = some y->us[i]? = some u->bW y u)->aZ ys us
 | [],[],_,_=>.nil
 | [],_::_,h,_=>by simp at h
 | _::_,[],h,_=>by simp at h
 | y::ys,u::us,h,r=>.cons (r 0 y u rfl rfl) (PR ys us (by simpa using h) λi y u h1 h2=>r (i+1) y u h1 h2)
def vz(l:.bi):List V:=l.map λ(w:Nat)=>V.int (w:Int)
theorem iW(l:.bi):(vz l).length=l.length:=wn ..
def Jh(vs:.x)(H1:Hp)(Q:VK):Prop:=∃j:Int,vs=[.int j]/\0<=j/\j<=1000 /\ ∀l,H1 l=none->Q .az (upd H1 l (.lst (vz (wr j.toNat))))
def Ti(ta:TA):TE:=λσ H Q=>ta σ H λvs H1=>Jh vs H1 Q
theorem zsM{X:Cx}{a:Expr}{ta:TA}{p p2 pos pos2:Pos}(hc:.bE)(hg:Gl X "list")(hm:X.mg "list"=none)(hg2:Gl X "range")(hm2:X.mg "range"=none)(ha:PA X [a] ta)(hs:w9 [a] X.env=[(false,eval a X.env)]:=by rfl)
  (hs2:w9 [Expr.Call (.Name "range" p2) [a] [] pos2] X.env=[(false,eval (.Call (.Name "range" p2) [a] [] pos2) X.env)]:=by rfl):PE X (.Call (.Name "list" p) [.Call (.Name "range" p2) [a] [] pos2] [] pos) (Ti ta):=by
 intro pins s σ H Q I h;refine Call_ (jH I hg hm fS ?_);refine vQ ?_ hs2 rfl;rw[hs2]
 show wD _ _ (spliced ((false,eval _ X.env)::VR pos [])) _ _ s
 refine QU ?_;refine Call_ (jH I hg2 hm2 boot_range (vQ (aS (ha pos2 pins s σ H _ I h) λus s1 ⟨vs,H1,I1,r1,q1⟩=>?_) hs rfl));obtain⟨j,e,j0,j1,q⟩:=q1;subst e;obtain⟨u,rfl,ru⟩:=jE r1;obtain⟨t,rfl⟩:=ru;refine call_range_1 ?_;refine Q4 ?_;have I2:Inv X pins σ H1 {s1 with heap:=s1.heap.push {cls:=.type "range",data:=.fields #[.int 0 s1.toks,.int j t,.int 1 (s1.toks+1)]},toks:=s1.toks+1+1}:=I1.kept λb o e=>wt _ e
 refine call_list_range (n:=j.toNat) (I1.ok.hd hc) (Ua ..) (small_one .c .c .c .c) (by rw[rangeSize_one];split<;>lia) .c λh' tk acc c hk hD hI=>?_
 refine⟨.ref _,_,I2.laid (t':=tk) hk .ax ?_,rfl,q _ (I2.aR.fresh .ax)⟩;refine⟨sx (by rw[iW,vv];lia),acc.toList,c,PR _ _ (by rw[iW,vv,Vn,hI.1]) λi y u hy hu=>?_,by simpa using hD⟩;have hu':acc[i]? = some u:=by simpa using hu
 obtain⟨t',e'⟩:=hI.2 i u hu'
 have hi:i<j.toNat:=by
  have:=(W9.mp hu').1;rw[hI.1]at this;exact this
 have hy':y=V.int (i:Int):=by
  unfold vz at hy;rw[wA,vZ hi]at hy;exact(w6 hy).symm
 subst hy';exact⟨t',by rw[e'];congr 1;lia⟩
theorem dq25{ta:TA}{σ : St}{H:Hp}{Q:VK}:(Ti ta σ H Q)=(ta σ H λvs H1=>Jh vs H1 Q):=rfl
theorem zsw{ta:TA}{σ : St}{H:Hp}{Q:VK}(h:ta σ H λvs H1=>Jh vs H1 Q):Ti ta σ H Q:=h
theorem zy1{n:Nat}{H:Hp}{Q:VK}(hn:n<=1000)(q:∀l H',H l=none->au H H'->H' l=some (.lst (vz (wr n)))->Q .az H'):Jh [V.int (n:Int)] H Q :=
 ⟨_,rfl,by lia,by lia,λl hl=>q l _ hl (au.upd hl) (by rw[wE];exact dR)⟩
theorem Jk(w:Nat)(l:.bi):sC (.int (w:Int)) (vz l)=decide (w∈l):=by
 unfold sC vz
 induction l with
 | nil=>rfl
 | cons x l ih =>
  rw[vi,Qn,ih]
  show((x:Int) == (w:Int) || _)=_
  by_cases h:w=x
  ·subst h;simp
  ·have h':¬ (x:Int)=(w:Int):=λz=>h .c
   simp[h,h']
theorem Gx(l:.bi):(vz l).all kR=true:=by
 unfold vz;rw[Wq];intro y hy;obtain⟨w,_,rfl⟩:=wW.mp hy
 rfl
section
variable{K:wa}{H H':Hp}{Q:VK}{v:V}{p:wf}{l:.bi}{w:Nat}
theorem zwQ(h:a_ K H p (vz l))(q:Q (.bl (!decide (w∈l))) H):iM K true (.int (w:Int)) .ay H Q:=⟨p,vz l,rfl,.inr h,rfl,Gx l,by rw[Jk];exact q⟩
theorem Yg(h:aF K H p (vz l))(q:Q (.bl (decide (w∈l))) H):iM K false (.int (w:Int)) .ay H Q:=⟨p,vz l,rfl,.inl h,rfl,Gx l,by rw[Jk];exact q⟩
theorem Sj(h:aF K H p (vz l))(q:Q (.bl (!decide (w∈l))) H):iM K true (.int (w:Int)) .ay H Q:=⟨p,vz l,rfl,.inl h,rfl,Gx l,by rw[Jk];exact q⟩
def TW(l:.bi):wF:=TZ (l.map λ(w:Nat)=>(w:Int))
theorem CJ :Is K H v (TW l) ↔ ∃a,v=.ref a/\a_ K H a (vz l):=by
 unfold TW vz;rw[yC,VB];exact XJ
theorem Ag(l:.bi):c_ (TW l)=true:=zFQ _
def p7(ws:.be):wF:=.tuple (ws.map TW)
theorem rq:∀ws:List (List Nat),aT (ws.map TW)=true
 | []=>rfl
 | w::ws=>by rw[vi,aT,Ag,rq ws];rfl
theorem zDi(ws:.be):c_ (p7 ws)=true:=by rw[p7,c_];exact rq ws
theorem JA{i:Nat}{x:V}(h:(vz l)[i]? = some x):∃hi:i<l.length,x=.int ((l[i]:Nat):Int):=by
 have hi:i<l.length:=by
  rcases wJ i l.length with z | z
  ·exact z
  ·rw[wQ (by rw[iW];exact z)]at h;cases h
 refine⟨hi,?_⟩;unfold vz at h;rw[wA,we hi]at h;exact(w6 h).symm
def GD(a b:Rat)(xs:.a):wF:=.tuple [N (1-bQ xs),p7 (cE a b xs),bG a b (dH a b xs)]
def zQ(h:Rat)(ws:.be)(xs:.a):wF:=.tuple [N h,p7 ws,TN xs]
theorem zvp(h:Rat)(ws:.be)(xs:.a):c_ (zQ h ws xs)=true:=by rw[zQ,c_,aT,aT,aT,aT,ee,zDi,d6];rfl
def Z1(a b:Rat)(xs:.a)(k:Nat):wF:=zQ (aE a b xs (k+1)) (cE a b .bW) (ai a b xs (k+1))
def j2(a b:Rat)(xs:.a)(n:Nat):List wF:=(wr n).map (Z1 a b xs)
theorem w_{α : Type}(f : α -> wF)(hf:∀x,c_ (f x)=true):∀l:List α,aT (l.map f)=true
 | []=>rfl
 | x::l=>by rw[vi,aT,hf,w_ f hf l];rfl
theorem ah.snoc{vs:.x}{ds:.bP}{d:wF}(h:ah K H vs ds)(k:.bA):ah K H (vs++[v]) (ds++[d]):=h.append (.cons k .nil)
theorem ym{i:Nat}(h:i<l.length):l.take (i+1)=l.take i++[l[i]]:=by
 rw[Qd,we h];rfl
theorem gf{ds:.bP}{d:wF}{j:Nat}(h:Is K H v .cq)(e:ds[j]? = some d)(q:∀x,Is K H x d->Q x H):dM K v (.int (j:Int)) H Q:=by
 obtain⟨a,xs,rfl,h,t⟩:=bY.mp h;obtain⟨x,e1,hx⟩:=t.get e;exact jf h (m4 e1) (q x hx)
theorem zuY(h:Is K H v (TW l))(q:Q (.int (l.length:Int)) H):lB K [v] H Q:=J7 h (by rw[wn];exact q)
end
variable{l:.bi}{n w:Nat}{ds:.bP}
theorem zkJ:∀ns:List Int,vK (ns.map PyData.int)=true
 | []=>by simp[vK]
 | n::ns=>by rw[vi,vK,zkJ ns];simp[vD]
theorem PL:∀ns:List Int,Wa (ns.map PyData.int)<=1
 | []=>by simp[Wa]
 | n::ns=>by
  have:=PL ns;rw[vi,Wa];simp[WC]
  lia
theorem zyP(a b:Rat)(xs:.a)(n:Nat):(j2 a b xs n).length=n:=by simp[j2]
theorem K0(a b:Rat)(xs:.a)(n:Nat):j2 a b xs (n+1)=j2 a b xs n++[Z1 a b xs n]:=by
 unfold j2;rw[Qz,wU];rfl
theorem zs4(a b:Rat)(xs:.a)(n:Nat):aT (j2 a b xs n)=true:=w_ _ (λk=>zvp _ _ _) _
theorem zAw{ps:.a}(h:¬ ps.getD w 0<1):aC ps (l++[w])=aC ps l++[w]:=by
 unfold aC;rw[Wy,WB,decide_eq_false h];rfl
theorem zyN{ps:.a}(h:ps.getD w 0<1):aC ps (l++[w])=aC ps l:=by
 unfold aC;rw[Wy,WB,decide_eq_true h];exact Wh _
theorem zzk{wave:.bi}(h:¬ w∈wave):cg (l++[w]) wave=cg l wave++[w]:=by
 unfold cg;rw[Wy];simp[WB,h]
theorem zwb{wave:.bi}(h:w∈wave):cg (l++[w]) wave=cg l wave:=by
 unfold cg;rw[Wy];simp[WB,h]
theorem u_(l:.bi)(w:Nat):vz (l++[w])=vz l++[V.int (w:Int)]:=by unfold vz;rw[wU];rfl
theorem DX{xs:.a}{j:Nat}(h:j<xs.length):(cb xs).getD j 0=xs.getD j 0+(1-bQ xs):=by
 unfold cb;rw[wb,wA,we h,wb,we h];rfl
theorem Hl:∀ds:List wF,(∀d∈ds,wP d d=true)->Ww ds ds=true
 | [],_=>by simp[Ww]
 | d::ds,h=>by rw[Ww,h d .bH,Hl ds λe he=>h e (wH _ he)];rfl
theorem TU(h:∀d∈ds,wP d d=true):wP .aH .aH=true:=by rw[wP];exact Hl ds h
theorem zE2(h:∀d∈ds,wP d d=true):wP .cq .cq=true:=by rw[wP];exact Hl ds h
theorem ZQ(x:Rat):wP (N x) (N x)=true:=by rw[p6];exact decide_eq_true rfl
theorem zDS(xs:.a):wP (TN xs) (TN xs)=true:=by rw[BG];exact decide_eq_true rfl
theorem zG4(a b:Rat)(xs:.a):wP (bG a b xs) (bG a b xs)=true:=by rw[RH];simp
theorem Il{P:wF->Prop}{a b:wF}(ha:P a)(hb:P b):∀d∈[a,b],P d:=λd hd=>by
 simp only[wO,WT,or_false]at hd;rcases hd with rfl | rfl
 ·exact ha
 ·exact hb
def Sh(n:Nat)(d:wF):Prop:=d.canLay0=true/\d.depth<=n
theorem FR{n:Nat} : ∀ds:List wF,(∀d∈ds,Sh n d)->vK ds=true/\Wa ds<=n
 | [],_=>by simp[vK,Wa]
 | d::ds,h=>by
  have h1:=h d .bH;have h2:=FR ds λe he=>h e (wH _ he)
  rw[vK,Wa,h1.1,h2.1];exact⟨rfl,by have:=h1.2;have:=h2.2;lia⟩
theorem oP(h:∀d∈ds,Sh n d):Sh (n+1) .aH:=by
 have:=FR ds h;unfold Sh;rw[vD,WC];exact⟨this.1,by have:=this.2;lia⟩
theorem J1(h:∀d∈ds,Sh n d):Sh (n+1) .cq:=by
 have:=FR ds h;unfold Sh;rw[vD,WC];exact⟨this.1,by have:=this.2;lia⟩
theorem Sh.mono{m:Nat}{d:wF}(h:Sh m d)(e:m<=n):Sh n d:=⟨h.1,Wt h.2 e⟩
theorem Sh.shaped{d:wF}(h:Sh n d)(e:n<=64):vM d=true:=by
 unfold vM;rw[h.1,W3];exact decide_eq_true (Wt h.2 e)
theorem sV(i:Int):Sh 1 (.int i):=⟨by simp[vD],by simp[WC]⟩
theorem m_(x:Rat):Sh 2 (N x):=oP (Il (sV _) (sV _))
theorem JV(xs:.a):Sh 3 (TN xs):=oP λd hd=>by
 obtain⟨x,_,rfl⟩:=wW.mp hd;exact m_ x
theorem zGS(a b:Rat)(xs:.a):Sh 5 (bG a b xs):=oP (Il ((oP (Il (m_ a) (m_ b))).mono .ab) ((JV xs).mono .ab))
theorem zEI :vX "max"=some (.builtin "max"):=by decide +kernel
section
variable{K:wa}{H H':Hp}{Q:VK}{D:df}{σ : St}{td ty tv:TE}{a:wf}{kvs:List (Key × V)}{k:Int}{v:V}
theorem zEJ{p r:wf}{l:.bi}(h:H p=some (.lst (vz l)))(e:H r=some .cf)(q:Q (.bl (decide (l≠[]))) H):md K .ay (.ref r) H Q:=by
 have i1:Is K H .ay (.list ((l.map λ(w:Nat)=>(w:Int)).map PyData.int)):=bY.mpr ⟨p,vz l,rfl,.of h,by
  have e1:vz l=(l.map λ(w:Nat)=>(w:Int)).map V.int:=by unfold vz;rw[VB];rfl
  rw[e1];exact oF.mpr rfl⟩
 have i2:Is K H (.ref r) (.list []):=bY.mpr ⟨r,[],rfl,.of e,.nil⟩;refine yM i1 i2 ?_ rfl ?_
 ·unfold vM
  rw[vD,zkJ,WC,W3];have:=PL (l.map λ(w:Nat)=>(w:Int));exact decide_eq_true .c
 ·cases l with
  | nil=>simpa [wP,Ww] using q
  | cons x l=>simpa [wP,Ww] using q
end
theorem Ug:∀{ts:.p}{ys:.x},ys.length=ts.length->(∀(j:Nat)(y:V),ys[j]? = some y->y=V.int (ts.getD j 0))->ys=ts.map V.int
 | [],[],_,_=>rfl
 | [],_::_,h,_=>by simp at h
 | _::_,[],h,_=>by simp at h
 | t::ts,y::ys,h,e=>by
  rw[vi,e 0 y rfl,Ug (ts:=ts) (ys:=ys) (by simpa using h) λj z hz=>e (j+1) z hz]
  rfl
theorem mf{n:Nat}(p:Nat->Bool)(i:Nat):(wr (i+1)).filter p=(wr i).filter p++(if p i then [i]else []):=by
 rw[Qz,Wy];cases h:p i<;>simp[h]
def Rf(K:wa)(g:TG)(tt:TT)(te:TE)(src:.S)(σ : St)(vs:.x)(H1:Hp)(Q:VK):Prop:=∃a,vs=[.ref a]/\(∃xs,a_ K H1 a xs) /\
 ∀D,H1 D=none->mD g tt te (pL K a) D (eX src σ) (upd H1 D .cf) (λH'=>Q .bG H')
section
variable{K:wa}{ta:TA}{g:TG}{tt:TT}{te:TE}{σ : St}{H:Hp}{Q:VK}{a:wf}{xs:.x}{src:.S}
theorem zzB(h:ta σ H λvs H1=>Rf K g tt te src σ vs H1 Q):lU src (JC K ta) g tt te σ H Q:=h
theorem zvM(hx:a_ K H a xs)(Pv:wf->Nat->List V->St->Hp->Prop)(h0:∀D H',H D=none->au H H'->H' D=some .cf->Pv D 0 [] (eX src σ) H')(hl:∀D i ys σ' H',Pv D i ys σ' H'->a_ K H' a xs)
  (hs:∀D i x ys σ' H1 c H2,xs[i]? = some x->Pv D i ys σ' H1->H1 c=none->au H1 H2->H2 c=some (.tup [.int (i:Int),x])->j4 Pv g tt te D i (.ref c) σ' H2) (hd:∀D ys σ' H',Pv D xs.length ys σ' H'->Q .bG H'):Rf K g tt te src σ [.ref a] H Q:=by
 refine⟨a,rfl,⟨xs,hx⟩,λD hD=>⟨λi m σ' H'=>i+m=xs.length /\ ∃ys,Pv D i ys σ' H',⟨xs.length,by lia,[],h0 D _ hD (au.upd hD) dR⟩,?_⟩⟩;rintro i m σ' H' ⟨him,ys,inv⟩;have hq:=hl _ _ _ _ _ inv
 by_cases hm:m=0
 ·have e:i=xs.length:=by lia
  subst e;exact .inl ⟨⟨xs,hq,wu _⟩,hd _ _ _ _ inv⟩
 ·have hi:i<xs.length:=by lia
  refine .inr ⟨⟨xs,xs[i],hq,by simp[hi]⟩,λσ2 H2=>∃ys,Pv D (i+1) ys σ2 H2,λσ2 H2 h=>⟨m-1,by lia,by lia,h⟩,?_⟩;rintro v H2 hz;obtain⟨c,x,rfl,hn,hx',rfl⟩:=hz;exact hs D i x ys σ' H' c _ (hx' xs hq) inv hn (au.upd hn) dR
end
def tH(K:wa):R2:=λx y H Q=>∃d ds,Is K H x d/\Is K H y .aH/\Sh 60 d/\vD .aH=true/\Q (.bl (ds.any λe=>wP e d)) H
theorem O1{X:Cx}(hu:X.A.units+64<WW):bV X (vR .In) (tH X.K):=by
 intro pins s σ H x y v u Q I rx ry h;obtain⟨d,ds,hd,he,sd,se,q⟩:=h;obtain⟨as,h1⟩:=I.reads d x v sd.1 hd rx;obtain⟨bs,h2⟩:=I.reads .aH y u se he ry;have sd2:=sd.2;have hm:=xc (Wa ds) d.depth;exact SeqAt.in_tuple_reads h2 h1 (by rw[vD]at se;exact se) sd.1 .c ⟨.bl _,H,I,rfl,q⟩
theorem Tz(xs:.a)(x:Rat):((xs.map N).any λe=>wP e (N x))=decide (x∈xs):=by
 induction xs with
 | nil=>rfl
 | cons y xs ih =>
  rw[vi,Qn,ih,p6]
  by_cases h:x=y
  ·subst h;simp
  ·have h':¬ y=x:=λz=>h z.symm
   simp[h,h']
theorem zCI{K:wa}{H:Hp}{Q:VK}{v w:V}{xs:.a}{x:Rat}(h:Is K H v (N x))(k:Is K H w (TN xs))(q:Q (.bl (decide (x∈xs))) H):tH K v w H Q :=
 ⟨N x,xs.map N,h,k,(m_ x).mono .ab,by rw[vD];exact pM xs,by rw[Tz];exact q⟩
def mJ(xs:.a)(v:Rat):wF:=.tuple [N v,TW (fm xs v)]
theorem zx5(xs:.a)(v:Rat):c_ (mJ xs v)=true:=by rw[mJ,c_,aT,aT,aT,ee,Ag];rfl
theorem zzE(xs:.a)(l:.a):aT (l.map (mJ xs))=true:=w_ _ (zx5 xs) l
theorem zAd(ds:.bP):wP .cq (.list [])=ds.isEmpty:=by cases ds<;>simp[wP,Ww]
section
variable{K:wa}{H:Hp}{Q:VK}{v w:V}{ds:.bP}{n:Nat}{l b:wf}{xs zs:.x}
theorem zzY(h:Is K H v .cq)(k:Is K H w (.list []))(s:Sh n .cq)(e:n<=64)(q:Q (.bl (!ds.isEmpty)) H):md K v w H Q :=
 yM h k (s.shaped e) ((J1 (n:=1) (ds:=[]) .u).shaped .ab) (by rw[zAd];exact q)
theorem J6{d:wF}(h:.bA)(k:Is K H w d)(s:Sh n d)(e:n<=64)(r:wP d d=true)(q:Q .cJ H):jo K v w H Q:=nu h k (s.shaped e) (s.shaped e) (by rw[r];exact q)
theorem zAF(a b:Bool):wP (.bool a) (.bool b)=(a == b):=by rw[wP]
theorem UR(b:Bool):Sh 1 (.bool b):=⟨by simp[vD],by simp[WC]⟩
theorem YQ{a b:Bool}(q:Q (.bl (a == b)) H):jo K (.bl a) (.bl b) H Q:=nu (mh.mpr rfl) (mh.mpr rfl) ((UR a).shaped .ab) ((UR b).shaped .ab) (by rw[zAF];exact q)
theorem Py{k:Int}(h:H l=some .b7)(h0 : -1000<=k)(h1:k<=1000)(z:xs.length*k.toNat<=1000)(q:∀p H',H p=none->au H H'->H' p=some (.lst (vy k.toNat xs).flatten)->Q .ay H'):oH .az (.int k) H Q :=
 ⟨l,k,xs,rfl,rfl,h,by lia,by lia,by have:=iS z;lia,λp hp=>q p _ hp (au.upd hp) dR⟩
theorem ah.OZ{d:wF}(h:.bA):∀n:Nat,ah K H (vy n v) (vy n d)
 | 0=>.nil
 | n+1=>.cons h (ah.OZ h n)
end
theorem jW{K:wa}{H:Hp}{Q:VK}{v:V}{ds:.bP}{d:wF}(h:Is K H v (.list (ds++[d])))(q:∀x,Is K H x d->Q x H):dM K v (.int (-1)) H Q:=by
 obtain⟨a,xs,rfl,hs,t⟩:=bY.mp h;have hl:=t.length;rw[wM,vL]at hl;obtain⟨x,e1,hx⟩:=t.get (i:=ds.length) (d:=d) (by rw[vC .ax,W6];rfl);exact jf hs (Hx (by rw[hl];exact e1)) (q x hx)
def GS(K:wa):List V->Hp->VK->Prop:=λxs H Q=>∃(p:wf)(bs:.cF),xs=[.ref p]/\aF K H p (bs.map V.bl)/\Q (.bl (bs.any id)) H
theorem zFS:vX "any"=some (.builtin "any"):=by decide +kernel
theorem zvZ(bs:.cF):((wr bs.length).any λi=>(bs[i]?).getD true)=bs.any id:=by
 rw[vI,Qq,Qq]
 constructor
 ·rintro ⟨i,hi,h⟩
  rw[wN]at hi;rw[we hi]at h;exact⟨bs[i],vF hi,h⟩
 ·rintro ⟨b,hb,h⟩
  obtain⟨i,hi,rfl⟩:=vA hb;exact⟨i,wN.mpr hi,by rw[we hi];exact h⟩
open PyProof.V PySem.Calls in
theorem zzF{X:Cx}(hc:.bE):bN X (.builtin "any") (GS X.K):=by
 intro pins s σ H xs us Q I r h;obtain⟨p,bs,rfl,hq,q⟩:=h;obtain⟨u,rfl,rx⟩:=jE r;cases rx;obtain⟨its,r',pl,hz⟩:=I.list hq;have hi:its=bs.map Value.bool:=Um r';have hl:s.heap.IsList p its.toArray:=pl.isList;have hlt:p<s.heap.objs.size:=by obtain⟨_,e,_⟩:=hl;exact wK e
 refine call_any_walk (qm hl ?_)
 refine⟨s.heap.objs.size,[s.heap.objs.size,p],[s.heap.objs.size],its.toArray.size,_,_,λi=>(bs[i]?).getD true,rfl,uK (A:=X.A.in1) .aW _ p (w8 hlt) its.toArray,
  ⟨⟨_,wY _ rfl,rfl,rfl⟩,hl.push _⟩,λi v s' Q' E' hP hQ=>?_,λh' tk hk=>?_⟩
 ·have hP:its.toArray[i]? = some v:=hP
  rw[hi]at hP;simp only[xR,wA,Vu]at hP;obtain⟨b,e,rfl⟩:=hP;simp only[e,xj]at hQ;exact WD hQ
 ·have e:((wr its.toArray.size).any λi=>(bs[i]?).getD true)=bs.any id:=by
   rw[wR,hi,wn];exact zvZ bs
  rw[e];exact⟨.bl (bs.any id),H,I.kept (t':=tk) (λb x e=>hk b x (λhm=>by rw[wZ.mp hm]at e;exact Vj _ (wK e)) (wt _ e)),rfl,q⟩
theorem zDL{K:wa}{H:Hp}{Q:VK}{p:wf}{bs:.cF}(h:aF K H p (bs.map V.bl))(q:Q (.bl (bs.any id)) H):GS K [.ref p] H Q:=⟨p,bs,rfl,h,q⟩
def tR(K:wa):List V->Hp->VK->Prop:=λxs H Q=>∃(p:wf)(ns:.p),xs=[.ref p]/\aF K H p .aC/\Q (.int ns.sum) H
section
open PyProof.V PySem.Calls PySem.W
variable{prog:wT}{w:wX}{A:vB}{E:.n}{s:wq}
theorem zCC{t:wf}{xs:Array (Int × Tok)}{Q:.n}(hh:.cQ)(ht:s.heap.IsList t (intItems xs))
  (h:∀h' tk t',(∀b o,s.heap.get? b=some o->h'.get? b=some o)->Q (.int (preSum (numAt xs) xs.size) t') {s with heap:=h',toks:=tk}) :
  wD .q A (call (.builtin "sum") [.ref t]) Q E s:=by
 obtain⟨o,ho,hc,n,hd⟩:=id ht;have hne:t≠s.heap.objs.size:=w8 (wK ho);have hsz:(intItems xs).size=xs.size:=by simp[intItems]
 have W:=(uK (prog:=prog) (w:=w) (A:=A.in1) hh s.heap.objs.size t hne (intItems xs)).toS;rw[hsz]at W;refine call_sum_walkAnyS (qm ht ?_);refine⟨s.heap.objs.size,_,_,_,_,_,_,numAt xs,rfl,W,⟨⟨_,wY _ rfl,rfl,rfl⟩,ht.at λo e=>wt _ e⟩,λb hb=>?_,λi v hP=>intItems_at hP,λs' t' hm=>?_⟩
 ·rcases wO.mp hb with rfl | hb
  ·exact wK (wY _ rfl)
  ·obtain rfl:=wZ.mp hb
   exact wK (wt _ ho)
 ·obtain⟨h',g',d',tk',os'⟩:=s'
  have e1:g'=s.gens:=hm.gens;have e2:d'=s.drawn:=hm.drawn;have e3:os'=s.os:=hm.os;subst e1 e2 e3;exact h h' tk' t' λb o e=>hm.heap b o (λhb=>absurd (wK e) ((wZ.mp hb) ▸ Vj _)) (wt _ e)
theorem FJ{X:Cx}(hc:.bE):bN X (.builtin "sum") (tR X.K):=by
 intro pins s σ H xs us Q I r h;obtain⟨p,ns,rfl,hq,q⟩:=h;obtain⟨u,rfl,rx⟩:=jE r;cases rx;obtain⟨its,r',pl,hz⟩:=I.list hq;have hI:=BP r';have hT:s.heap.IsList p its.toArray:=pl.isList;obtain⟨zs,hx⟩:=hI.allInts.items;have hn:numsOf its.toArray.toList=ns:=by rw[show its.toArray.toList=its from rfl,hI.numsOf]
 rw[hx]at hT hn;rw[nums_intItems]at hn;refine zCC .aW hT λh' tk t' hk=>?_
 rw[preSum_eq,WJ .u,hn];exact⟨.int ns.sum,H,I.kept (t':=tk) hk,⟨_,rfl⟩,q⟩
end
theorem Fz{K:wa}{H:Hp}{Q:VK}{p:wf}{ns:.p}(h:aF K H p .aC)(q:Q (.int ns.sum) H):tR K [.ref p] H Q:=⟨p,ns,rfl,h,q⟩
abbrev Td(h:wS)(a:wf):wS:=h.push {cls:=.type "tuple_iterator",data:=.fields #[.ref a,.int 0 0]}
abbrev T_(h:wS)(a b:wf):wS:=(Td h a).push {cls:=.type "list_iterator",data:=.fields #[.ref b,.int 0 0]}
abbrev YR(h:wS)(a b:wf):wS:=(T_ h a b).push {cls:=.type "tuple",data:=.seq #[.ref h.objs.size,.ref (Td h a).objs.size]}
abbrev zM4(h:wS)(a b:wf):wS:=(YR h a b).push {cls:=.type "tuple",data:=.seq #[.none,.none]}
abbrev zM5(h:wS)(a b:wf):wS:=(zM4 h a b).push {cls:=.type "zip",data:=.fields #[.none,.bool false,.bool false,.ref (T_ h a b).objs.size,.ref (YR h a b).objs.size]}
section
variable{prog:wT}{w:wX}{A:vB}{E:.n}{s:wq}
end
theorem pS{K:wa}{H:Hp}{Q:VK}{v:V}{ds:.bP}(h:Is K H v .cq\/Is K H v .aH)(q:∀l H' ys,H l=none->au H H'->H' l=some .cj->ah K H' ys ds->Q .az H'):fB K [v] H Q:=by
 rcases h with h | h
 ·exact zK h q
 ·exact mj h q
def Tw(K:wa)(G:wo)(tb:(St->XK)->TS)(th:TS):TS:=λD σ H=>∃W:St->XK,tb W D σ H /\ ∀σ' C o H',W σ' C o H'->qz K C G=some true/\th D σ' H'
section
variable{X:Cx}{x:Str}{G:wo}{b₀ : vc}{body suite:List vc}{np hpos pos:Pos}{tb:(St->XK)->TS}{th:TS}
theorem zDy(hs:X.stack=X.env::X.outer)(hf:X.env.frame=some X.env.locals)(hg:Gl X x)(hG:X.mg x=some G)
  (hb:∀(W:St->XK)(pn:.j)(E':.n),Y5 (gB X.prog X.w) (X.at pn E') W->gW (X.at pn E') body (tb W))
  (hh:∀(pn:.j)(ex:wf)(oe:Obj),gW (X.zx pn ex oe) (b₀ :: suite) th) (hdb:.ai=false:=by decide) :
  PS X (.Try body [.ExceptHandler (some (.Name x np)) none (b₀ :: suite) hpos] [] [] pos) (Tw X.K G tb th):=by
 intro pins s σ H D I h;obtain⟨W,hB,hH⟩:=h;refine wpAny_Try_except ?_;have I':=I.aaH λe s1=>∃σ1 H1 s0,Inv X pins σ1 H1 s0/\gB X.prog X.w X.stack H1 s0 (W σ1) e s1
 have key:=hb W (X.pn++pins) (λe s1=>∃σ1 H1 s0,Inv X pins σ1 H1 s0/\gB X.prog X.w X.stack H1 s0 (W σ1) e s1) (λpins1 σ1 H1 s0 e s1 I1 q=>⟨σ1,H1,s0,I1.sP,q⟩) [] s σ H D I' hB;refine WU key (λf s1 hq=>?_) λe s1 he=>?_
 ·cases f with
  | next=>obtain⟨σ',H',J,q⟩:=hq;exact qM ⟨σ',H',J.sP,q⟩
  | brk=>obtain⟨σ',H',J,q⟩:=hq;exact⟨σ',H',J.sP,q⟩
  | cont=>obtain⟨σ',H',J,q⟩:=hq;exact⟨σ',H',J.sP,q⟩
  | ret u=>obtain⟨v,σ',H',J,r,q⟩:=hq;exact⟨v,σ',H',J.sP,r,q⟩
 obtain⟨σ1,H1,s0,I1,ex,C,H',B,rfl,os,bare,un,aR,F,ov,q⟩:=he;obtain⟨hm,hS⟩:=hH σ1 C none H' q;have hfs:∀b∈fo X.stack,H1 b=none /\ ∃o,s0.heap.get? b=some o /\ ∀vs,o.data≠.fields vs:=λb hb=>⟨I1.zt b hb,(I1.stack.mem hb).2⟩
 have hfr:=I.ok.frames.trans (congrArg some hs)
 have hex:H' ex=none:=by
  obtain⟨_,_,_,_,_,_,_,_,_,_,_,_,_,be,_⟩:=F;cases z:H' ex with
  | none=>rfl
  | some o =>
   obtain⟨u,e1⟩:=ov.kC ex o z;rw[be]at e1;cases e1
 have st1:=F.st;rw[hs]at F
 have exc:∀{h4:wS},gC B (X.env::X.outer) ex C .none h4->s1.heap.UpToSlots h4->∃oe,h4.get? ex=some oe/\zDY C oe/\Inv (X.zx (X.pn++pins) ex oe) [] σ1 H' {s1 with heap:=h4}:=λ{h4} F4 sm=>by
  have J:Inv X pins σ1 H' {s1 with heap:=h4}:=I1.OP (s':={s1 with heap:=h4}) (ch:=[]) os (ov.un un hfs F4.st sm) (ov.aR aR st1 F4.st) bare (λ_ z=>nomatch z);obtain⟨_,_,oe,vs,T,oT,ts,he,hc,hd,h1,h2,hdi,_⟩:=F4;refine⟨oe,he,⟨hc,⟨vs,hd,h2⟩,hdi⟩,J.aaz he hex (λz=>?_) (λz=>?_) λv z=>?_⟩
  ·obtain⟨m,⟨o,es,ep,ho,hdd,_⟩,_⟩:=J.loc
   rw[<- z]at ho;have:(some oe:Option Obj)=some o:=he.symm.trans ho;cases this;rw[hd]at hdd;cases hdd
  ·obtain⟨_,o,ho,nr⟩:=J.gA.mem z
   have:(some oe:Option Obj)=some o:=he.symm.trans ho;cases this;exact nr vs hd
  ·rw[hd]at z;cases z
 refine F.note hfr hf λh2 F2 sm2=>F2.land λh3 F3 sm3=>?_
 obtain⟨oe3,g3,x3,K3⟩:=exc F3 (sm2.trans sm3);refine wpAny_handleBy_cons (codeAny_handlers_test (yo K3 hg hG ?_ hdb)) (by intro z;cases z);have LT:PySem.W.Looks .m h3 (typeOf (.ref ex)) C:=x3.cls ▸ (Ud g3).andThen .now;refine(PySem.W.exm_one (h:=h3) K3.eU LT hm).here ?_;refine codeAny_handlers_suite ?_;refine F3.land λh4 F4 sm4=>?_
 obtain⟨oe,g4,x4,K4⟩:=exc F4 ((sm2.trans sm3).trans sm4);refine WU (hh _ ex oe [] _ _ H' _ K4 hS) (λf s6 h6=>?_) λ_ _ z=>z.elim
 cases f with
 | next=>obtain⟨σ',H6,J,q6⟩:=h6;exact⟨_,H6,J.zC I.ok,q6⟩
 | brk=>obtain⟨σ',H6,J,q6⟩:=h6;exact⟨_,H6,J.zC I.ok,q6⟩
 | cont=>obtain⟨σ',H6,J,q6⟩:=h6;exact⟨_,H6,J.zC I.ok,q6⟩
 | ret u=>obtain⟨v,σ',H6,J,r,q6⟩:=h6;exact⟨v,_,H6,J.zC I.ok,r,q6⟩
end
theorem zDo{K:wa}{σ : St}{H:Hp}{D:df}{G:wo}{tb:(St->XK)->TS}{th:TS}(W:St->XK)(h:tb W D σ H)(k:∀σ' C o H',W σ' C o H'->qz K C G=some true/\th D σ' H'):Tw K G tb th D σ H:=⟨W,h,k⟩
theorem ju{K:wa}{H:Hp}{Q:VK}(s t:.am)(r:Bool)(e:wP (.str (Wn s)) (.str (Wn t))=r)(q:Q (.bl r) H):jo K (.str (Wn s)) (.str (Wn t)) H Q :=
 nu (d:=.str (Wn s)) (e:=.str (Wn t)) .aY .aY (Bl s) (Bl t) (by rw[e];exact q)
section
variable{K:wa}{H:Hp}{Q:VK}{p:wf}{ns:.p}
end
def zl(l:.bi):List Int:=l.map λ(w:Nat)=>(w:Int)
def LZ(ns:.p):wF:=.list (ns.map .int)
theorem zGf{K:wa}{H:Hp}{l:wf}{ns:.p}(h:H l=some (.lst .aC)):Is K H .az (LZ ns):=bY.mpr ⟨l,_,rfl,.of h,oF.mpr rfl⟩
abbrev YL(h:wS)(a:wf):wS:=h.push {cls:=.type "list_iterator",data:=.fields #[.ref a,.int 0 0]}
abbrev zN2(h:wS)(a b:wf):wS:=(YL h a).push {cls:=.type "tuple_iterator",data:=.fields #[.ref b,.int 0 0]}
abbrev Sq(h:wS)(a b:wf):wS:=(zN2 h a b).push {cls:=.type "tuple",data:=.seq #[.ref h.objs.size,.ref (YL h a).objs.size]}
abbrev zN4(h:wS)(a b:wf):wS:=(Sq h a b).push {cls:=.type "tuple",data:=.seq #[.none,.none]}
abbrev zN5(h:wS)(a b:wf):wS:=(zN4 h a b).push {cls:=.type "zip",data:=.fields #[.none,.bool false,.bool false,.ref (zN2 h a b).objs.size,.ref (Sq h a b).objs.size]}
section
variable{prog:wT}{w:wX}{A:vB}{E:.n}{s:wq}
end
def KP:List V->Hp->VK->Prop:=λxs H Q=>∃i j,xs=[.int i,.int j]/\Q (.int (if i<j then j else i)) H
theorem zwq{X:Cx}(hc:.bE):bN X (.builtin "max") KP:=zzn hc
theorem zCO{i j:Int}{H:Hp}{Q:VK}(q:∀m:Int,i<=m->j<=m->(m=i\/m=j)->Q .cB H):KP [.int i,.int j] H Q:=⟨i,j,rfl,by
 split
 ·exact q j .c .c (.inr rfl)
 ·exact q i .c .c .aI⟩
end L2
namespace TB
open PySem PySem.W PyProof.Rows
section
variable{prog:wT}{w:wX}{A:vB}{E:.n}{s:wq}
end
end TB
namespace L2
open PySem PySem.Spec PyProof.Rows GM
def KN(K:wa)(H:Hp)(v:V)(k:.p):Prop:=∃q,v=.ref q/\a_ K H q (k.map V.int)
theorem items_int{P:wT}{w:wX} : ∀{us:.Y}{ns:.p},IntsAre us ns->ItemsAre (intKind P w) ns us
 | _,_,.nil=>.nil
 | _,_,.cons n t r=>.cons (by show X0 n (Value.int n t)=true;simp[X0]) (items_int r)
theorem Inv.key{X:Cx}{pins:.j}{σ : List (Option V)}{H:Hp}{s:wq}(I:.l){q:wf}{k:.p}(h:a_ X.K H q (k.map V.int)):IsTupleKey (intKind X.prog X.w) s.heap k q:=by
 obtain⟨its,r,⟨o,e,hc,n,hd⟩,_⟩:=I.tuple h;exact⟨o,its.toArray,n,e,hc,hd,items_int (BP r)⟩
theorem zrY:∀{ws:.x}{us:.Y},aZ ws us->∀{i:Nat}{q:wf},ws[i]? = some (.ref q)->us[i]? = some (.ref q)
 | _,_,.nil,i,q,h=>by simp at h
 | _,_,.cons r1 r2,0,q,h=>by
  simp only[xp,Qe]at h ⊢;subst h;exact r1
 | _,_,.cons r1 r2,i+1,q,h=>by
  simp only[xq]at h ⊢;exact zrY r2 h
end L2
namespace TB
open PySem PySem.W PyProof.Rows MeetsSeq
section
variable{prog:wT}{w:wX}{A:vB}{s:wq}{R:Result->wq->Prop}
end
end TB
namespace L2
open PySem PySem.Spec PyProof.Rows GM
section
variable{K:wa}{w:wX}{H H':Hp}{Q:VK}{v:V}{p l:wf}{xs ys:.a}{us ws:.x}
theorem zGp{r:Rat} : Is K H v (N r) ↔ KN K H v [r.num,(r.den:Int)]:=rH
theorem zDH{r s:Rat}(h:([r.num,(r.den:Int)]:List Int)=[s.num,(s.den:Int)]):r=s:=by
 simp only[uI,and_true]at h;exact uT h.1 .c
end
end L2
namespace GM
def O2(c:Int)(u:.p):Nat->Int->Int
 | 0,p=>p
 | k+1,p=>if c<=p then p else O2 c u k (p+u.getD p.toNat 0)
def zG1(g:.bi)(w d:Nat)(t:.p):Bool:=decide ((t.getD 0 0).toNat∈g)&&(decide (t.getD 1 0=(w:Int))&&decide (t.getD 2 0=(d:Int)))
def zG2(ts:.bm)(g:.bi)(w d:Nat):Nat:=(ts.filter (zG1 g w d)).length
section
variable(rs:.p)(us ts:.bm)(ps cs:.p)
def phG(g:.bi)(w:Nat):Int:=O2 (rs.getD w 0) (us.getD w []) ((cs.getD w 0).toNat+zG2 ts g w 0) (ps.getD w 0+1)
def fresh(g:.bi):List Nat:=(wr rs.length).filter λw=>!decide (w∈g)&&decide (rs.getD w 0<=phG rs us ts ps cs g w)
end
section
variable{rs:.p}{us ts:.bm}{ps cs:.p}
end
section
variable(rs:.p)(us ts:.bm)(ps cs:.p)
end
section
variable{rs:.p}{us ts:.bm}{ps cs:.p}{f:Nat}{g:.bi}{acc:.be}
end
section
variable(rs:.p)(us ts:.bm)(ps:.p)(cm:.bm)
end
section
variable{rs:.p}{us ts:.bm}{ps:.p}{cm:.bm}
end
end GM
namespace L2
open PySem PySem.Spec PyProof.Rows GM
section
variable{K:wa}{H H':Hp}{Q:VK}{v:V}{rs ps:.p}{us ts cm rows:.bm}{m:Int}{ws:.be}
end
theorem zFi{i:Nat}{te:TE}{ti:tU}{D:df}{σ : L2.St}{H:Hp}(h:∃x,σ[i]? = some (some x)/\te σ H λy H1=>ti x y H1 λz H2=>D.nx (σ.set i (some z)) H2):YZ i te ti D σ H:=h
theorem zCy{v:V}{P:V->Prop}{o:Option (Option V)}(h:o=some (some v))(q:P v):∃x,o=some (some x)/\P x:=⟨v,h,q⟩
theorem zFw{f:Int->Int->Int}{m n:Int}{H:Hp}{Q:VK}(q:Q (.int (f m n)) H):U4 f .cB (.int n) H Q:=⟨m,n,rfl,rfl,q⟩
end L2
namespace TB
open PySem PySem.W PyProof.Rows
inductive fD{α β : Type}(R : α -> β -> Prop):List α -> List β -> Prop
 | nil:fD R [] []
 | cons {a : α} {b : β} {l:.cc} {m:List β} : R a b->fD R l m->fD R (a::l) (b::m)
structure HV(prog:wT)(w:wX)(K:Type)[DecidableEq K] where
 is:wS->K->wo->Prop
 hash:K->Int
 draws:K->Nat
 deep:Nat
 inj:∀{h:wS}{v:wo}{x y:K},is h x v->is h y v->x=y
 keeps:∀{h h':wS}{k:K}{v:wo}{d:wf}{o:Obj}{es ep},is h k v->h.get? d=some o->o.data=.dict es ep->Wd d h h'->is h' k v
 pyHash:∀{A:vB}{E:.n}{s:wq}{k:K}{v:wo}{Q:Int->wq->Prop},A.units+deep<WW->is s.heap k v->Q (hash k) {s with toks:=s.toks+draws k}->wD .q A (PySem.pyHash v) Q E s
 eqBool:∀{A:vB}{E:.n}{s:wq}{x y:K}{u v:wo}{Q:Bool->wq->Prop},A.units+deep<WW->is s.heap x u->is s.heap y v->Q (decide (x=y)) s->wD .q A (PySem.eqBool u v) Q E s
 quiet:∀{A:vB}{E:.n}{s:wq}{k:K}{v:wo}{Q:Bool->wq->Prop}(n:Nat),deep<=n->is s.heap k v->Q true s->wD .q A (eqIsQuiet n v) Q E s
section
variable{prog:wT}{w:wX}{A:vB}{E:.n}{s:wq}
variable{a:wf}
theorem zup{o:Obj}{items:.aP}{n:Nat}{hs:List (Int × Nat)}{Q:Int->wq->Prop}(hu:A.units<WW)(ho:s.heap.get? a=some o)(hc:o.cls=.type "tuple")(hd:o.data=.seq items n)
  (hi:fD (λv (x:Int × Nat)=>∀(E:.n)(Q:Int->wq->Prop)(s':wq),s'.heap=s.heap->Q x.1 {s' with toks:=s'.toks+x.2}->wD .q A.in1 (pyHash v) Q E s') items.toList hs)
  (h:Q (reduceHash (Wp (hs.map (·.1)))) {s with toks:=s.toks+((hs.map (·.2)).sum+1)}) :
  wD .q A (pyHash .bu) Q E s:=by
 have hT:s.TypeIs .bu "tuple":=⟨o,ho,hc⟩;unfold pyHash
 first | unfold pyHashByItsType | skip
 first | refine wp (wpAny_cRoomFor_or (.inr hu) ?_) | skip
 refine wp (wpAny_specialOf hT Qf.lookup ?_)
 show wD _ _ (if(some (Value.builtin "tuple.__hash__") == some Value.none)=true then _ else _) Q E s
 rw[if_neg (by rw[beq_builtin_none];exact vU)];refine wp (wpAny_specialOf hT Qf.lookup ?_)
 show wD _ _ (callSpecialIfBoundUnlessNone? .bu "__hash__" _ >>= _) Q E s
 refine wp (wpAny_callSpecialIfBoundUnlessNone?_slot hT Qf (Wx Qf hT F.entry_tuple_hash ?_ (F.args_tuple_hash_1 _)))
 show wD _ _ (QZ .bu >>= _) _ _ s
 refine wp (wpAny_tupleItemsOf ho hd ?_);refine wp ?_;rw[<- qT]
 refine wpAny_forIn_list _
  (λgc (b:Array Int) s'=>∃done left,hs=done++left/\fD (λv (x:Int × Nat)=>∀(E:.n)(Q:Int->wq->Prop)(s':wq),s'.heap=s.heap->Q x.1 {s' with toks:=s'.toks+x.2}->wD .q A.in1 (pyHash v) Q E s') gc left/\b.toList=done.map (·.1)/\s' = {s with toks:=s.toks+(done.map (·.2)).sum})
  _ ?_ ?_ _ _ ⟨[],hs,rfl,hi,rfl,rfl⟩
 ·rintro x gc b s' hz;obtain⟨done,left,rfl,hl,hb,rfl⟩:=hz
  cases hl with
  | @cons _ k _ ks' h1 hl' =>
   refine wp (h1 _ _ _ rfl ?_)
   first
    | exact wI ⟨done++[k],ks',by simp,hl',by simp[hb],by simp[VL]⟩
    | exact wp (wI (wI ⟨done++[k],ks',by simp,hl',by simp[hb],by simp[VL]⟩))
 ·rintro b s' hz;obtain⟨done,left,rfl,hl,hb,rfl⟩:=hz
  cases hl;rw[Wh]at h
  show wD _ _ (retInt (Wp b.toList)) _ _ _
  rw[hb];refine wpAny_ret_mkInt ?_
  show wD _ _ (if(decide (-(2:Int)^63<=Wp (done.map (·.1)))&&decide (Wp (done.map (·.1))<2^63))=true then _ else _) Q E _
  unfold reduceHash at h
  by_cases hr:(decide (-(2:Int)^63<=Wp (done.map (·.1)))&&decide (Wp (done.map (·.1))<2^63))=true
  ·rw[if_pos hr]
   rw[if_pos hr]at h;exact wI (by simpa [VL] using h)
  ·rw[if_neg hr]
   rw[if_neg hr]at h;exact wp (wpAny_rule (wI (by simpa [VL] using h)))
theorem zFH{b:wf}{oa ob:Obj}{xs ys:.aP}{na nb:Nat}{bs:.cF}{P:PySem.Fin->wq->Prop}(hoa:s.heap.get? a=some oa)(hda:oa.data=.seq xs na)(hob:s.heap.get? b=some ob)(hcb:ob.cls=.type "tuple")(hdb:ob.data=.seq ys nb)
  (hi:fD (λ(p:wo × wo)(c:Bool)=>∀(E:.n)(Q:Bool->wq->Prop),Q c s->wD .q A (eqBool p.1 p.2) Q E s) (xs.toList.zip ys.toList) bs)
  (h:P (.done (.ret (.bool (bs.all id&&xs.size == ys.size)))) s) :
  wD .q A (Builtin.«tuple.__eq__» ⟨[.ref a,.ref b],[]⟩) P E s:=by
 have hTb:s.TypeIs (.ref b) "tuple":=⟨ob,hob,hcb⟩
 show wD _ _ (isInstance (.ref b) (.type "tuple") >>= _) _ _ s
 refine wp (Vt hTb isSubtype_tuple_tuple ?_);simp only[qH,WH,if_false];refine wp (wpAny_tupleItemsOf hoa hda ?_);refine wp (wpAny_tupleItemsOf hob hdb ?_);refine wp ?_
 refine wpAny_forIn_list _
  (λgc r s'=>r.1=none/\s'=s /\ ∃cs,fD (λ(p:wo × wo)(c:Bool)=>∀(E:.n)(Q:Bool->wq->Prop),Q c s->wD .q A (eqBool p.1 p.2) Q E s) gc cs/\bs.all id=cs.all id)
  _ ?_ ?_ _ _ ⟨rfl,rfl,bs,hi,rfl⟩
 ·rintro ⟨u,v⟩ gc r s' ⟨hr,rfl,cs,hcs,hall⟩
  cases hcs with
  | @cons _ c _ cs' h1 h2 =>
   refine wp (h1 _ _ ?_);cases c with
   | true =>
    simp only[qH,WH,if_false];exact wI ⟨rfl,rfl,cs',h2,by rw[hall];simp⟩
   | false =>
    simp only[xO,if_true];have hf:bs.all id=false:=by rw[hall];simp
    rw[hf,WO]at h;exact wp (wI (wI (wI h)))
 ·rintro ⟨r1,r2⟩ s' ⟨hr,rfl,cs,hcs,hall⟩
  simp only at hr;subst hr;refine wI ?_;cases hcs;rw[hall]at h;have h':P (.done (.ret (.bool (xs.size == ys.size)))) s':=by simpa using h
  exact h'
theorem zrX{o:Obj}{items:.aP}{n m:Nat}{Q:Bool->wq->Prop}(ho:s.heap.get? a=some o)(hc:o.cls=.type "tuple")(hd:o.data=.seq items n)
  (hi:∀v∈items.toList,∀(E:.n)(Q:Bool->wq->Prop),Q true s->wD .q A (eqIsQuiet m v) Q E s) (h:Q true s):wD .q A (eqIsQuiet (m+1) .bu) Q E s:=by
 have hT:s.TypeIs .bu "tuple":=⟨o,ho,hc⟩;unfold eqIsQuiet;refine wp (wpAny_specialOf hT xw.lookup ?_)
 show wD _ _ (isInstance .bu (.type "tuple") >>= _) _ _ s
 refine wp (Vt hT isSubtype_tuple_tuple ?_);simp only[qH,WH,if_false];refine wp (WQ ho hd ?_);refine wp ?_
 show wD _ _ (forIn items _ _) _ _ s
 rw[<- qT];refine wpAny_forIn_list _ (λgc r s'=>r.1=none/\s'=s /\ ∀v∈gc,v∈items.toList) _ ?_ ?_ _ _ ⟨rfl,rfl,λ_ h=>h⟩
 ·rintro v gc r s' ⟨hr,rfl,hall⟩
  refine wp (hi v (hall v wL) _ _ ?_);simp only[qH,WH,if_false];exact wI ⟨rfl,rfl,λu hu'=>hall u (wH _ hu')⟩
 ·rintro ⟨r1,r2⟩ s' ⟨hr,rfl,_⟩
  simp only at hr;subst hr;exact wI h
theorem Us{b:wf}{oa ob:Obj}{xs ys:.aP}{na nb:Nat}{bs:.cF}{Q:Bool->wq->Prop}(hu:A.units<WW)(hoa:s.heap.get? a=some oa)(hca:oa.cls=.type "tuple")(hda:oa.data=.seq xs na)(hob:s.heap.get? b=some ob)(hcb:ob.cls=.type "tuple")(hdb:ob.data=.seq ys nb)
  (he:a=b->(bs.all id&&xs.size == ys.size)=true)
  (hi:fD (λ(p:wo × wo)(c:Bool)=>∀(E:.n)(Q:Bool->wq->Prop),Q c s->wD .q A.in1 (eqBool p.1 p.2) Q E s) (xs.toList.zip ys.toList) bs)
  (h:Q (bs.all id&&xs.size == ys.size) s):wD .q A (eqBool .bu (.ref b)) Q E s:=by
 unfold eqBool
 try with_reducible refine Va ?_
 show wD _ _ (if(Value.ref a == Value.ref b)=true then _ else _) Q E s
 by_cases hab:(Value.ref a == Value.ref b)=true
 ·rw[if_pos hab]
  have e:a=b:=by have:=eq_of_beq hab;injection this
  rw[he e]at h;exact wp (wpAny_rule (wI h))
 ·rw[if_neg hab]
  have ta:s.TypeIs .bu "tuple":=⟨oa,hoa,hca⟩;have tb:s.TypeIs (.ref b) "tuple":=⟨ob,hob,hcb⟩
  exact wp (wpAny_richCompare_same_room (op:=.Eq) ta tb xw
   (Wx xw ta F.entry_tuple_eq (zFH hoa hda hob hcb hdb hi ⟨_,rfl,(λe=>nomatch e),WD h⟩) (F.args_tuple_eq_2 _ _)) hu)
end
def m7(R:List wo->Prop)(h:wS)(v:wo):Prop:=∃a o items n,v=.ref a/\h.get? a=some o/\o.cls=.type "tuple"/\o.data=.seq items n/\R items.toList
theorem m7.inj{R S:List wo->Prop}{h:wS}{v:wo}(x:m7 R h v)(y:m7 S h v):∃l,R l/\S l:=by
 obtain⟨a,o,items,n,rfl,ho,_,hd,hi⟩:=x;obtain⟨a',o',items',n',e,ho',_,hd',hi'⟩:=y;cases e;obtain rfl:o=o':=w6 (ho.symm.trans ho');rw[hd]at hd'
 injection hd' with h1 _
 subst h1;exact⟨_,hi,hi'⟩
theorem m7.keeps{R S:List wo->Prop}{h h':wS}{v:wo}{d:wf}{o:Obj}{es ep}(x:m7 R h v)(ho:h.get? d=some o)(hd:o.data=.dict es ep)(hs:Wd d h h')(r:∀l,R l->S l):m7 S h' v:=by
 obtain⟨a,o',items,n,rfl,ho',hc,hd',hi⟩:=x
 have hne:a≠d:=by
  rintro rfl;obtain rfl:o'=o:=w6 (ho'.symm.trans ho);rw[hd]at hd';exact nomatch hd'
 exact⟨a,o',items,n,rfl,(hs.2 a hne).trans ho',hc,hd',r _ hi⟩
def hW(prog:wT)(w:wX):HV prog w Int where
 is:=λ_ k v=>∃t,v=.int k t
 hash:=hashInt
 draws:=λ_=>1
 deep:=0
 inj:=λ⟨t,e⟩ ⟨u,f⟩=>by subst e;injection f
 keeps:=λh _ _ _=>h
 pyHash:=λ_ ⟨t,e⟩ h=>by subst e;exact wpAny_pyHash_int h
 eqBool:=λ_ ⟨t,e⟩ ⟨u,f⟩ h=>by subst e f;exact wpAny_eqBool_int h
 quiet:=λn _ ⟨t,e⟩ h=>by subst e;rw[eqIsQuiet_byValue n rfl];exact wI h
section
variable{prog:wT}{w:wX}{K:Type}[DecidableEq K](e:HV prog w K)
theorem zuX{A:vB}{s:wq}(hu:A.in1.units+e.deep<WW):∀{ks:List K}{vs:.Y},fD (e.is s.heap) ks vs ->
  fD (λv (x:Int × Nat)=>∀(E:.n)(Q:Int->wq->Prop)(s':wq),s'.heap=s.heap->Q x.1 {s' with toks:=s'.toks+x.2}->wD .q A.in1 (pyHash v) Q E s') vs (ks.map λk=>(e.hash k,e.draws k))
 | _,_,.nil=>.nil
 | _,_,.cons h t=>.cons (λE Q s' he q=>e.pyHash hu (he ▸ h) q) (zuX hu t)
theorem Ym{A:vB}{s:wq}(hu:A.in1.units+e.deep<WW):∀{ks js:List K}{us vs:.Y},fD (e.is s.heap) ks us->fD (e.is s.heap) js vs ->
  ∃bs,fD (λ(p:wo × wo)(c:Bool)=>∀(E:.n)(Q:Bool->wq->Prop),Q c s->wD .q A.in1 (eqBool p.1 p.2) Q E s) (us.zip vs) bs/\(bs.all id&&us.length == vs.length)=decide (ks=js)
 | _,_,_,_,.nil,.nil=>⟨[],.nil,by simp⟩
 | _,_,_,_,.nil,.cons _ _=>⟨[],.nil,by simp⟩
 | _,_,_,_,.cons _ _,.nil=>⟨[],.nil,by simp⟩
 | k::ks,j::js,_,_,.cons h t,.cons h' t'=>by
  obtain⟨bs,b1,b2⟩:=Ym hu t t';refine⟨decide (k=j)::bs,.cons (λE Q q=>e.eqBool hu h h' q) b1,?_⟩;rw[Xe,Bool.and_assoc,Wi,Wi,show ∀a b:Nat,(a+1 == b+1)=(a == b)from λa b=>by simp,b2]
  by_cases h1:k=j<;>by_cases h2:ks=js<;>simp[h1,h2]
theorem JZ{h:wS} : ∀{ks js:List K}{vs:.Y},fD (e.is h) ks vs->fD (e.is h) js vs->ks=js
 | _,_,_,.nil,.nil=>rfl
 | _,_,_,.cons h t,.cons h' t'=>by rw[e.inj h h',JZ t t']
theorem Yu{α β : Type}{R S : α -> β -> Prop}(f:∀a b,R a b->S a b):∀{l:.cc}{m:List β},fD R l m->fD S l m
 | _,_,.nil=>.nil
 | _,_,.cons h t=>.cons (f _ _ h) (Yu f t)
theorem Ta{α β : Type}{R : α -> β -> Prop} : ∀{l:.cc}{m:List β},fD R l m->∀y∈m,∃x,R x y
 | _,_,.nil,y,hy=>by cases hy
 | _,_,.cons h t,y,hy=>by
  rcases wO.mp hy with rfl | hy
  ·exact⟨_,h⟩
  ·exact Ta t y hy
def ie:HV prog w (List K) where
 is:=λh ks v=>m7 (fD (e.is h) ks) h v
 hash:=λks=>reduceHash (Wp ((ks.map λk=>(e.hash k,e.draws k)).map (·.1)))
 draws:=λks=>((ks.map λk=>(e.hash k,e.draws k)).map (·.2)).sum+1
 deep:=e.deep+1
 inj:=λx y=>by
  obtain⟨l,h1,h2⟩:=x.inj y;exact JZ e h1 h2
 keeps:=λx ho hd hs=>x.keeps ho hd hs λl h=>Yu (λa b r=>e.keeps r ho hd hs) h
 pyHash:=λ{A E s k v Q} hu x h=>by
  obtain⟨a,o,items,n,rfl,ho,hc,hd,hi⟩:=x;exact zup .c ho hc hd (zuX e (show A.units+1+e.deep<WW by lia) hi) h
 eqBool:=λ{A E s x y u v Q} hu hx hy h=>by
  have hj:u=v->x=y:=λev=>by
   subst ev;obtain⟨l,h1,h2⟩:=hx.inj hy;exact JZ e h1 h2
  obtain⟨a,o,items,n,rfl,ho,hc,hd,hi⟩:=hx;obtain⟨a',o',items',n',rfl,ho',hc',hd',hi'⟩:=hy;obtain⟨bs,b1,b2⟩:=Ym e (A:=A) (show A.units+1+e.deep<WW by lia) hi hi';have b3:(bs.all id&&items.size == items'.size)=decide (x=y):=by rw[<- b2];rfl
  refine Us .c ho hc hd ho' hc' hd' (λea=>?_) b1 (by rw[b3];exact h);rw[b3];exact decide_eq_true (hj (by rw[ea]))
 quiet:=λ{A E s k v Q} n hn x h=>by
  obtain⟨a,o,items,m,rfl,ho,hc,hd,hi⟩:=x;obtain⟨j,rfl⟩:∃j,n=j+1:=⟨n-1,by lia⟩
  exact zrX ho hc hd (λu hu E Q q=>by
   obtain⟨x,hx⟩:=Ta hi u hu;exact e.quiet j .c hx q) h
end
section
variable{prog:wT}{w:wX}{J K:Type}[DecidableEq J][DecidableEq K](d:HV prog w J)(e:HV prog w K)
def Two(h:wS)(k:J × K)(l:.Y):Prop:=∃u v,l=[u,v]/\d.is h k.1 u/\e.is h k.2 v
def Z4:HV prog w (J × K) where
 is:=λh k v=>m7 (Two d e h k) h v
 hash:=λk=>reduceHash (Wp ([(d.hash k.1,d.draws k.1),(e.hash k.2,e.draws k.2)].map (·.1)))
 draws:=λk=>([(d.hash k.1,d.draws k.1),(e.hash k.2,e.draws k.2)].map (·.2)).sum+1
 deep:=max d.deep e.deep+1
 inj:=λ{h v x y} hx hy=>by
  obtain⟨l,⟨u,v,rfl,h1,h2⟩,u',v',e',h3,h4⟩:=hx.inj hy;cases e';exact qj (d.inj h1 h3) (e.inj h2 h4)
 keeps:=λx ho hd hs=>x.keeps ho hd hs λl ⟨u,v,r,h1,h2⟩=>⟨u,v,r,d.keeps h1 ho hd hs,e.keeps h2 ho hd hs⟩
 pyHash:=λ{A E s k v Q} hu x h=>by
  obtain⟨a,o,items,n,rfl,ho,hc,hd,u,v,hl,h1,h2⟩:=x
  exact zup .c ho hc hd (by
   rw[hl];exact .cons (λE Q s' he q=>d.pyHash (show A.units+1+d.deep<WW by lia) (he ▸ h1) q) (.cons (λE Q s' he q=>e.pyHash (show A.units+1+e.deep<WW by lia) (he ▸ h2) q) .nil)) h
 eqBool:=λ{A E s x y u v Q} hu hx hy h=>by
  have hj:u=v->x=y:=λev=>by
   subst ev;obtain⟨l,⟨u,v,rfl,h1,h2⟩,u',v',e',h3,h4⟩:=hx.inj hy;cases e';exact qj (d.inj h1 h3) (e.inj h2 h4)
  obtain⟨a,o,items,n,rfl,ho,hc,hd,u,v,hl,h1,h2⟩:=hx;obtain⟨a',o',items',n',rfl,ho',hc',hd',u',v',hl',h1',h2'⟩:=hy
  have b3:([decide (x.1=y.1),decide (x.2=y.2)].all id&&items.size == items'.size)=decide (x=y):=by
   rw[<- Vn,<- Vn,hl,hl'];obtain⟨x1,x2⟩:=x;obtain⟨y1,y2⟩:=y
   by_cases h1:x1=y1<;>by_cases h2:x2=y2<;>simp[h1,h2]
  refine Us (bs:=[decide (x.1=y.1),decide (x.2=y.2)]) .c ho hc hd ho' hc' hd' (λea=>?_) ?_ (by rw[b3];exact h)
  ·rw[b3]
   exact decide_eq_true (hj (by rw[ea]))
  ·rw[hl,hl']
   exact .cons (λE Q q=>d.eqBool (show A.units+1+d.deep<WW by lia) h1 h1' q) (.cons (λE Q q=>e.eqBool (show A.units+1+e.deep<WW by lia) h2 h2' q) .nil)
 quiet:=λ{A E s k v Q} n hn x h=>by
  obtain⟨a,o,items,m,rfl,ho,hc,hd,u,v,hl,h1,h2⟩:=x;obtain⟨j,rfl⟩:∃j,n=j+1:=⟨n-1,by lia⟩
  exact zrX ho hc hd (λu hu E Q q=>by
   rw[hl]at hu;rcases wO.mp hu with rfl | hu
   ·exact d.quiet j .c h1 q
   ·rw[wZ]at hu
    subst hu;exact e.quiet j .c h2 q) h
end
abbrev SK:=List Int × List (List Int)
def lZ(prog:wT)(w:wX):HV prog w SK:=Z4 (ie (hW prog w)) (ie (ie (hW prog w)))
def zFg(prog:wT)(w:wX):HeapKind prog w SK where
 is:=λh k a=>(lZ prog w).is h k .bu
 hash:=(lZ prog w).hash
 draws:=(lZ prog w).draws
 room:=λA=>A.units+3<WW
 inj:=λx y=>(lZ prog w).inj x y
 keeps:=λx ho hd hs=>(lZ prog w).keeps x ho hd hs
 pyHash:=λhu hk h=>(lZ prog w).pyHash hu hk h
 eqBool:=λhu hx hy h=>(lZ prog w).eqBool hu hx hy h
 quiet:=λhk h=>(lZ prog w).quiet 8 (by show 3<=8;decide) hk h
end TB
namespace L2
open PySem PySem.Spec PyProof.Rows GM
open TB (SK zFg lZ ie hW Z4 fD)
theorem zuZ{P:wT}{w:wX}{h:wS} : ∀{us:.Y}{ns:.p},IntsAre us ns->fD ((hW P w).is h) ns us
 | _,_,.nil=>.nil
 | _,_,.cons n t r=>.cons ⟨t,rfl⟩ (zuZ r)
section
variable{X:Cx}{pins:.j}{σ : St}{H:Hp}{s:wq}
theorem Inv.aaK(I:.l){v:V}{u:wo}{k:.p}(h:Is X.K H v (TZ k))(r:bW v u):(ie (hW X.prog X.w)).is s.heap k u:=by
 obtain⟨q,rfl,hs⟩:=yC.mp h;obtain⟨its,r',⟨o,e,hc,n,hd⟩,_⟩:=I.tuple hs;cases (show u=Value.ref q from r);exact⟨q,o,its.toArray,n,rfl,e,hc,hd,zuZ (BP r')⟩
end
def zF4(l:List (Int × Nat)):Int:=reduceHash (Wp (l.map (·.1)))
def zGy(ks:.p):Int:=zF4 (ks.map λk=>(hashInt k,1))
section
variable{X:Cx}{pins:.j}{σ : St}{H:Hp}{s:wq}{a b:wf}{xs:List (SK × wf × Int)}{ps:.p}{cm:.bm}{A:vB}{E:.n}
end
section
variable{X:Cx}{pos pos':Pos}{i o value:Expr}{ty td tv:TE}
end
section
variable{K:wa}{H H':Hp}{Q:VK}{D:df}{σ : St}{td ty tv:TE}{a b:wf}{xs:List (SK × wf × Int)}{ps:.p}{cm:.bm}{n:Int}
end
section
variable{X:Cx}{N':.U}{scope:Scope}{cl:.bf}{src:.S}{elt tgt iter:Expr}{ifs:.aG}{pos:Pos}{wi:TI}{g:TG}{tt:TT}{te:TE}
end
end L2
namespace TB
open PySem PySem.Spec PyProof.Rows
def eQ(prog:wT)(w:wX):HeapKind prog w (List Int) where
 is:=λh k a=>(ie (hW prog w)).is h k .bu
 hash:=(ie (hW prog w)).hash
 draws:=(ie (hW prog w)).draws
 room:=λA=>A.units+1<WW
 inj:=λx y=>(ie (hW prog w)).inj x y
 keeps:=λx ho hd hs=>(ie (hW prog w)).keeps x ho hd hs
 pyHash:=λhu hk h=>(ie (hW prog w)).pyHash hu hk h
 eqBool:=λhu hx hy h=>(ie (hW prog w)).eqBool hu hx hy h
 quiet:=λhk h=>(ie (hW prog w)).quiet 8 (by show 1<=8;decide) hk h
section
variable{prog:wT}{w:wX}{K:Type}[DecidableEq K]{knd:HeapKind prog w K}{A:vB}{E:.n}{s:wq}
end
end TB
namespace L2
open PySem PySem.Spec PyProof.Rows GM
open TB (eQ ie hW)
abbrev NE:=List Int × wf × wf
def yc(x:NE)(e:DictEntry):Prop:=e=⟨zGy x.1,.ref x.2.1,.ref x.2.2⟩
def jZ(a:wf)(ep:Nat)(xs:List NE):HO:=.ext λh=>xs.length<=1000/\(a == sysModules)=false/\(xs.map (·.1)).Nodup /\ ∃o es,h.get? a=some o/\o.ExactDict/\o.data=.dict es ep/\Paired yc xs es.toList
def Bb(K:wa)(H:Hp)(xs:List NE):Prop:=∀x∈xs,Is K H (.ref x.2.1) (TZ x.1)
def om(xs:List NE)(k:.p):Option wf:=(xs.find? λx=>decide (x.1=k)).map (·.2.2)
theorem zCS{P:wT}{w:wX}{H:Hp}{h:wS}{a:wf}{ep:Nat}{xs:List NE}(z:xs.length<=1000)(hd:(a == sysModules)=false)(nd:(xs.map (·.1)).Nodup){o:Obj}{es:Array DictEntry}(ho:h.get? a=some o)(hx:o.ExactDict)(hda:o.data=.dict es ep)(r:Paired yc xs es.toList) :
  eZ P w H h a (jZ a ep xs):=⟨⟨z,hd,nd,o,es,ho,hx,hda,r⟩,⟨o,ho⟩,λh1 h2 ⟨z,hd,nd,o,es,ho,q⟩ k=>⟨z,hd,nd,o,es,k _ ho,q⟩⟩
def kB(xs:List NE):List (List Int × wf × wo):=xs.map λx=>(x.1,x.2.1,.ref x.2.2)
theorem zGu{P:wT}{w:wX}{xs:List NE}{es:List DictEntry}(r:Paired yc xs es):es=(kB xs).map (entryOfKey (eQ P w)):=by
 induction r with
 | nil=>rfl
 | @cons x e xs es hx r ih =>
  show e::es=_::(kB xs).map (entryOfKey (eQ P w))
  rw[<- ih,show e=_ from hx]
  rfl
theorem YH{P:wT}{w:wX} : ∀xs:List NE,Paired yc xs ((kB xs).map (entryOfKey (eQ P w)))
 | []=>.nil
 | x::xs=>.cons rfl (YH xs)
theorem zER(xs:List NE)(k:.p):(atKey (kB xs) k).map (·.2)=(om xs k).map Value.ref:=by
 induction xs with
 | nil=>rfl
 | cons x xs ih =>
  unfold atKey om kB at *;rw[vi,uL,uL]
  by_cases e:x.1=k
  ·simp[e]
  ·simp only[e,decide_false]
   exact ih
section
variable{X:Cx}{pins:.j}{σ : St}{H:Hp}{s:wq}{a b q:wf}{ep:Nat}{xs:List NE}{k:.p}{A:vB}{E:.n}
theorem Inv.nK(I:.l)(h:Is X.K H (.ref b) (TZ k)):(eQ X.prog X.w).is s.heap k b:=I.aaK h rfl
theorem Inv.OV(I:.l)(e:H a=some (jZ a ep xs)):xs.length<=1000/\(a == sysModules)=false/\(xs.map (·.1)).Nodup /\ ∃o es,s.heap.get? a=some o/\o.ExactDict/\o.data=.dict es ep/\Paired yc xs es.toList :=
 (show eZ X.prog X.w H s.heap a (jZ a ep xs)from I.aR a _ e).1
end
section
variable{X:Cx}{o e f:Expr}{apos cpos pos:Pos}{td ty tx:TE}{tg:Expr}
end
section
variable{K:wa}{H H':Hp}{Q:VK}{D:df}{σ : St}{td ty tx te:TE}{g:TG}{tt:TT}{a b q:wf}{ep:Nat}{xs:List NE}{k:.p}{src:.S}
end
section
variable{X:Cx}{N':.U}{scope:Scope}{cl:.bf}{src:.S}{elt tgt iter:Expr}{ifs:.aG}{pos:Pos}{wi:TI}{g:TG}{tt:TT}{te:TE}
end
end L2
namespace TB
open PySem PySem.W PyProof.Rows
theorem TR:entryFor table "dict.update.loop"=some Builtin.«dict.update.loop»:=entryFor_of_tree (by kernel_rfl)
theorem BW:plainId "dict.update.loop"=true:=by decide +kernel
theorem zxl:typeLookup (.type "zip") "keys"=pure none:=am_miss_of_fast .bQ
theorem zm7:typeLookup (.type "zip") "__getattr__"=pure none:=by rw[typeLookup_type,builtinLookup_eq_fast];kernel_rfl
theorem zhW:entryFor table "zip.__getattribute__"=some Builtin.«object.__getattribute__» :=
 entryFor_alias (id':="object.__getattribute__") (by kernel_rfl) .bQ .bQ (by kernel_rfl)
theorem zuj(a:wf)(fs:.aP)(sl:.bx)(name:Str)(u:Tok)(hmiss:typeLookup (.type "zip") name=pure none)(hname:(["__module__","__name__","__qualname__","__doc__","__annotations__"]:List Str).contains name=false)(hsz:name.length+100<=vn:=by size_fits) :
  Meets (Builtin.«object.__getattribute__» ⟨[.ref a,.str name u],[]⟩) (λA R s=>s.heap.get? a=some {cls:=.type "zip",dict:=none,data:=.fields fs,slots:=sl}/\raisesAttr .bu name A R s) :=
 Meets.of_wp λprog w A R s hs=>by
  obtain⟨hp,g,d,tk,os⟩:=s;obtain⟨hx,hs⟩:=hs;have hT:(⟨hp,g,d,tk,os⟩:wq).TypeIs .bu "zip":=⟨_,hx,rfl⟩;unfold Builtin.«object.__getattribute__»
  repeat(any_goals(first | assumption | wp_step))
  simp only[hname,WH,if_false]
  repeat(any_goals(first | assumption | wp_step))
  exact wpAny_raiseAttrError hs.1 hs.2 (attrMsg_fits .bQ hsz)
section
variable{prog:wT}{w:wX}{A:vB}{E:.n}{s:wq}
theorem zDk{a:wf}{fs:.aP}{sl:.bx}{Q:Option wo->wq->Prop}
  (hx:s.heap.get? a=some {cls:=.type "zip",dict:=none,data:=.fields fs,slots:=sl}) (hA:.cQ)
  (q:∀h' tk,(∀b ob,s.heap.get? b=some ob->h'.get? b=some ob)->Q none {s with heap:=h',toks:=tk}) :
  wD .q A (getAttr? .bu "keys") Q E s:=by
 obtain⟨hp,g,d,tk,os⟩:=s;have hT:∀tk',(⟨hp,g,d,tk',os⟩:wq).TypeIs .bu "zip":=λ_=>⟨_,hx,rfl⟩
 have f1:=sub_AttributeError;have f3:=qk.lookup;have f4:=qk.bind .bu;have f5:=zm7;unfold getAttr? getAttrBy? getAttrBy
 repeat(any_goals(first | assumption | exact hT _ | ((with_reducible show wD _ _ (call (Value.builtin "zip.__getattribute__") _ _) _ _ _);refine call_meets qk (hT _) zhW (PySem.F.args_zip_getattribute_2 _ _) (zuj a fs sl "keys" _ zxl .bQ) ⟨hx,hA,λh' tk' e hx'=>?_⟩) | wp_step))
 obtain⟨t',u',he⟩:=hx'.there
 show wD _ _ (getattributeRaised _ _ _ _ _ _ _) _ _ _
 unfold getattributeRaised
 repeat(any_goals(first | assumption | wp_step))
 exact q _ _ hx'.keeps
theorem zBj{p:wf}{x y:wo}(h:WR s.heap p x y){Q:List wo->wq->Prop}(q:Q [x,y] s):wD .q A (xJ .ay) Q E s:=by
 have hT:s.TypeIs .ay "tuple":=⟨_,h,rfl⟩;unfold xJ;refine wp (wpAny_typeOf hT ?_);rw[if_pos .ab];refine wp (WQ h rfl ?_);exact wI q
abbrev oO(h:wS)(z TI TO p:wf)(f:Bool):Prop :=
 h.get? z=some {cls:=.type "zip",dict:=none,data:=.fields #[Vq p,.bool f,.bool false,.ref TI,.ref TO],slots:=#[]}
end
section
variable{prog:wT}{w:wX}{A:vB}{E:.n}{s:wq}{z TI TO i1 i2 p:wf}{f:Bool}{f1 f2:.bZ}{n1 n2 k:Nat}{P1 P2:Nat->wo->Prop}{S1 S2:Nat->wS->Prop}{a b:wo}
variable{op:Obj}
theorem Tn{Q:Bool->wq->Prop}(hz:oO s.heap z TI TO p f)(hp:s.heap.get? p=some op)
  (q:∀g,oO g z TI TO p true->Wd z s.heap g->Q false {s with heap:=g}):wD .q A (Wc .b9) Q E s:=by
 unfold Wc;refine wp (vS hz rfl (x:=Vq p) rfl ?_)
 show wD _ _ (loadIfAlive ((p:Int).toNat) >>= _) _ _ _
 rw[wE];refine wp (kdx_alive hp ?_);simp only[Option.isNone_some,WH,if_false];refine wp (vS hz rfl (x:=.bool f) rfl ?_);cases f with
 | true =>
  rw[if_neg (show ¬ ((Value.bool true != Value.bool true)=true)from vU)];exact wI (q _ hz (Heap.SameBut.refl _ _))
 | false =>
  rw[if_pos (show(Value.bool false != Value.bool true)=true from rfl)];refine wp (Vf hz .u λg hg sb=>?_);exact wI (q g hg sb)
theorem zGW{Q:.n}(D1:Draws prog w A i1 f1 n1 P1 S1)(D2:Draws prog w A i2 f2 n2 P2 S2)(ap:L2.ZA z TI TO i1 i2 f1 f2)(hz:oO s.heap z TI TO p f)(hi:WR s.heap TI (.ref i1) (.ref i2))(hp:s.heap.get? p=some op)
  (h1:S1 k s.heap) (h2:S2 k s.heap) (l1:k<n1) (l2:k<n2)
  (fin:∀x y h' tk,P1 k x->P2 k y->oO h' z TI TO p true->S1 (k+1) h'->S2 (k+1) h'->WR h' s.heap.objs.size x y ->
   (∀c o,c≠z->c≠i1->c≠i2->s.heap.get? c=some o->h'.get? c=some o)->Q .aX {s with heap:=h',toks:=tk}) :
  wD .q A (Builtin.«zip.__next__» ⟨[.ref z],[]⟩) (λr s'=>∃v,r=.done (.ret v)/\Q v s') E s:=by
 show wD _ _ (field .b9 2 >>= _) _ _ _;refine wp (vS hz rfl (x:=.bool false) rfl ?_)
 show wD _ _ (field .b9 3 >>= _) _ _ _;refine wp (vS hz rfl (x:=.ref TI) rfl ?_)
 refine wp (WQ hi rfl ?_);show wD _ _ (Wc .b9 >>= _) _ _ _
 refine wp (Tn hz hp λg0 hz0 sb0=>?_);have sb0:Wd z s.heap g0:=sb0;simp only[WH,if_false];refine wp ?_;rw[<- qT];simp only[qL,QQ];have h1a:S1 k g0:=D1.frame _ _ _ h1 λc hc o e=>sb0.extBut c o (λq=>ap.b1 .cr) e
 have h2a:S2 k g0:=D2.frame _ _ _ h2 λc hc o e=>sb0.extBut c o (λq=>ap.b2 .cr) e
 refine wp (wp (Va ?_))
 show wD _ _ (We (.ref i1) >>= _) _ _ _
 refine wp (D1.item k _ _ _ l1 h1a λx g1 t1 px h1b sb1=>wI ?_);have sb1:Wd i1 g0 g1:=sb1;have h2b:S2 k g1:=D2.frame _ _ _ h2a λc hc o e=>sb1.extBut c o (λq=>ap.b5 .cr) e
 refine wI ?_;refine wp (wp (Va ?_))
 show wD _ _ (We (.ref i2) >>= _) _ _ _
 refine wp (D2.item k _ _ _ l2 h2b λy g2 t2 py h2c sb2=>wI ?_);have sb2:Wd i2 g1 g2:=sb2;have h1c:S1 (k+1) g2:=D1.frame _ _ _ h1b λc hc o e=>sb2.extBut c o (λq=>ap.b6 .cr) e
 refine wI (wI ?_);refine wp (wpAny_newTuple (hsz:=by show 2<=vn;rw[W7];decide) ?_);have hsz:g2.objs.size=s.heap.objs.size:=by rw[sb2.1,sb1.1,sb0.1]
 have kept:∀c o,c≠z->c≠i1->c≠i2->s.heap.get? c=some o->g2.get? c=some o:=λc o c1 c3 c4 e=>sb2.extBut _ _ c4 (sb1.extBut _ _ c3 (sb0.extBut _ _ c1 e))
 have zz:oO g2 z TI TO p true:=sb2.extBut _ _ ap.a4.symm (sb1.extBut _ _ ap.a3.symm hz0);refine wI ⟨_,rfl,?_⟩
 show Q (.ref g2.objs.size) _
 have new:WR (g2.push {cls:=.type "tuple",data:=.seq #[x,y]}) g2.objs.size x y:=wY _ rfl;rw[hsz]at new ⊢;exact fin x y _ _ px py (wt _ zz) (D1.frame _ _ _ h1c λc hc o e=>wt _ e) (D2.frame _ _ _ h2c λc hc o e=>wt _ e) new λc o c1 c3 c4 e=>wt _ (kept c o c1 c3 c4 e)
theorem zF2{Q:Fin->wq->Prop}(D1:Draws prog w A i1 f1 n1 P1 S1)(ap:L2.ZA z TI TO i1 i2 f1 f2)(hz:oO s.heap z TI TO p f)(hi:WR s.heap TI (.ref i1) (.ref i2))(hp:s.heap.get? p=some op)(h1:S1 n1 s.heap)
  (fin:∀h' e tk,(∀c o,c≠z->c≠i1->s.heap.get? c=some o->h'.get? c=some o)->(∃o,h'.get? e=some o/\o.cls=.type "StopIteration")->E (.ref e) {s with heap:=h',toks:=tk}) :
  wD .q A (Builtin.«zip.__next__» ⟨[.ref z],[]⟩) Q E s:=by
 show wD _ _ (field .b9 2 >>= _) _ _ _;refine wp (vS hz rfl (x:=.bool false) rfl ?_)
 show wD _ _ (field .b9 3 >>= _) _ _ _;refine wp (vS hz rfl (x:=.ref TI) rfl ?_)
 refine wp (WQ hi rfl ?_);show wD _ _ (Wc .b9 >>= _) _ _ _
 refine wp (Tn hz hp λg0 hz0 sb0=>?_);have sb0:Wd z s.heap g0:=sb0;simp only[WH,if_false];refine wp ?_;rw[<- qT];simp only[qL,QQ];have h1a:S1 n1 g0:=D1.frame _ _ _ h1 λc hc o e=>sb0.extBut c o (λq=>ap.b1 .cr) e
 refine wp (wp (Va ?_))
 show wD _ _ (We (.ref i1) >>= _) _ _ _
 exact wp (D1.done _ _ _ h1a λg1 e sb1 he=>fin g1 e _ (λc o c1 c3 q=>sb1 _ _ c3 (sb0.extBut _ _ c1 q)) he)
end
theorem sO{prog:wT}{w:wX}{h h':wS}{k:.p}{a:wf}(x:(eQ prog w).is h k a)(e:∀o,h.get? a=some o->h'.get? a=some o):(eQ prog w).is h' k a:=by
 obtain⟨a',o,items,n,ea,ho,hc,hd,r⟩:=x;cases ea;exact⟨a,o,items,n,rfl,e o ho,hc,hd,r⟩
def mv(base:wf)(h h':wS):Prop:=∀b o,b<base->h.get? b=some o->h'.get? b=some o
theorem mv.trans{base:wf}{h h' h'':wS}(x:mv base h h')(y:mv base h' h''):mv base h h'':=λb o hb e=>y b o hb (x b o hb e)
structure ZB(base z TI TO i1 i2 d a b:wf):Prop where
 ap:L2.ZA z TI TO i1 i2 [i1,a] [i2,b]
 na:a≠i1
 nb:b≠i2
 bz:base<=z
 bO:base<=TO
 b1:base<=i1
 b2:base<=i2
 bd:base<=d
 dz:d≠z
 dI:d≠TI
 dO:d≠TO
 d1:d≠i1
 d2:d≠i2
 la:a<base
 lb:b<base
def oC(z TI TO i1 i2 d a b:wf)(its jts:.aP)(i:Nat)(h:wS):Prop:=WR h TI (.ref i1) (.ref i2)/\(h.IsTupleIter i1 a i/\h.IsTuple a its)/\(h.IsTupleIter i2 b i/\h.IsTuple b jts) /\
 ((∃x y,IsZip h z TI TO .none/\WR h TO x y) \/ ∃p f op,oO h z TI TO p f/\h.get? p=some op/\p≠z/\p≠i1/\p≠i2/\p≠d)
section
variable{prog:wT}{w:wX}{A:vB}{E:.n}{s:wq}{base z TI TO i1 i2 d a b:wf}{its jts:.aP}{i:Nat}
theorem lK(hh:.cQ)(it l:wf)(hne:l≠it)(items:.aP):Draws prog w A it [it,l] items.size (λi v=>items[i]? = some v) (λi h=>h.IsTupleIter it l i/\h.IsTuple l items):=L2.sN true hh it l hne items
theorem zGM(B:ZB base z TI TO i1 i2 d a b)(hh:A.in1.handled=none)(st:oC z TI TO i1 i2 d a b its jts i s.heap)(hd:d<s.heap.objs.size){x y:wo}(hx:its[i]? = some x)(hy:jts[i]? = some y){Q:Option wo->wq->Prop}
  (q:∀(h':wS) tk,WR h' s.heap.objs.size x y->oC z TI TO i1 i2 d a b its jts (i+1) h'->(∀c o,c≠z->c≠TO->c≠i1->c≠i2->s.heap.get? c=some o->h'.get? c=some o)->Q (some .aX) {s with heap:=h',toks:=tk}) :
  wD .q A (pyNext .b9) Q E s:=by
 obtain⟨hi,s1,s2,hz⟩:=st
 have lt1:i<its.size:=by
  rcases wJ i its.size with z | z
  ·exact z
  ·rw[xK z]at hx;cases hx
 have lt2:i<jts.size:=by
  rcases wJ i jts.size with z | z
  ·exact z
  ·rw[xK z]at hy;cases hy
 have ap:=B.ap;unfold pyNext;rcases hz with⟨x0,y0,hz,ho⟩ | ⟨p,f,op,hz,hp,p1,p2,p3,p4⟩
 ·have hT:s.TypeIs .b9 "zip":=⟨_,hz,rfl⟩
  have ltz:=wK hz
  refine wp (VN (wpAny_callSpecial?_slot (name:=Wn "__next__") hT WI (Wx WI hT V4
   (L2.OX (lK (A:=A.in1) hh i1 a B.na its) (lK (A:=A.in1) hh i2 b B.nb jts) ap hz hi ho s1 s2 lt1 lt2 λv1 v2 h1 tk e1 e2 hz1 ho1 st1 st2 hT1 hk=>wI ?_) (VQ _))))
  rw[hx]at e1;cases e1;rw[hy]at e2;cases e2;have l1:i1<s.heap.objs.size:=by obtain⟨o,e,_⟩:=s1.1;exact wK e
  have l2:i2<s.heap.objs.size:=by obtain⟨o,e,_⟩:=s2.1;exact wK e
  exact q h1 tk hT1 ⟨hk _ _ ap.a1 ap.a5 ap.a6 ap.a7 hi,st1,st2,.inr ⟨s.heap.objs.size,false,_,hz1,hT1,vH ltz,vH l1,vH l2,vH hd⟩⟩ hk
 ·have hT:s.TypeIs .b9 "zip":=⟨_,hz,rfl⟩
  refine wp (VN (wpAny_callSpecial?_slot (name:=Wn "__next__") hT WI (Wx WI hT V4
   (zGW (lK (A:=A.in1) hh i1 a B.na its) (lK (A:=A.in1) hh i2 b B.nb jts) ap hz hi hp s1 s2 lt1 lt2 λv1 v2 h1 tk e1 e2 hz1 st1 st2 hT1 hk=>wI ?_) (VQ _))))
  rw[hx]at e1;cases e1;rw[hy]at e2;cases e2;exact q h1 tk hT1 ⟨hk _ _ ap.a1 ap.a6 ap.a7 hi,st1,st2,.inr ⟨p,true,op,hz1,hk _ _ p1 p2 p3 hp,p1,p2,p3,p4⟩⟩ λc o c1 _ c3 c4 e=>hk c o c1 c3 c4 e
theorem zGR(B:ZB base z TI TO i1 i2 d a b)(hh:A.in1.handled=none)(st:oC z TI TO i1 i2 d a b its jts its.size s.heap){Q:Option wo->wq->Prop}
  (q:∀(h':wS) tk,(∀c o,c≠z->c≠TO->c≠i1->c≠i2->s.heap.get? c=some o->h'.get? c=some o)->Q none {s with heap:=h',toks:=tk}) :
  wD .q A (pyNext .b9) Q E s:=by
 obtain⟨hi,s1,s2,hz⟩:=st;have ap:=B.ap;unfold pyNext;rcases hz with⟨x0,y0,hz,ho⟩ | ⟨p,f,op,hz,hp,p1,p2,p3,p4⟩
 ·have hT:s.TypeIs .b9 "zip":=⟨_,hz,rfl⟩
  refine wp (VN (wpAny_callSpecial?_slot (name:=Wn "__next__") hT WI (Wx WI hT V4
   (L2.OS (k:=its.size) (lK (A:=A.in1) hh i1 a B.na its) (lK (A:=A.in1) hh i2 b B.nb jts) ap hz hi ho s1 s2 .aI λh' y tk hk hx'=>?_) (VQ _))))
  obtain⟨o,ho',hcl⟩:=hx';exact wp (Vt (T:="StopIteration") (b:=true) ⟨o,ho',hcl⟩ isSubtype_stop (wI (q h' tk hk)))
 ·have hT:s.TypeIs .b9 "zip":=⟨_,hz,rfl⟩
  refine wp (VN (wpAny_callSpecial?_slot (name:=Wn "__next__") hT WI (Wx WI hT V4
   (zF2 (lK (A:=A.in1) hh i1 a B.na its) ap hz hi hp s1 λh' y tk hk hx'=>?_) (VQ _))))
  obtain⟨o,ho',hcl⟩:=hx';exact wp (Vt (T:="StopIteration") (b:=true) ⟨o,ho',hcl⟩ isSubtype_stop (wI (q h' tk λc o c1 _ c3 _ e=>hk c o c1 c3 e)))
end
theorem oC.but{base z TI TO i1 i2 d a b:wf}{its jts:.aP}{i:Nat}{h g:wS}(st:oC z TI TO i1 i2 d a b its jts i h)(B:ZB base z TI TO i1 i2 d a b)(sb:Wd d h g):oC z TI TO i1 i2 d a b its jts i g:=by
 obtain⟨hi,s1,s2,hz⟩:=st;have da:a≠d:=w8 (vd B.la B.bd);have db:b≠d:=w8 (vd B.lb B.bd);refine⟨sb.extBut _ _ B.dI.symm hi,⟨s1.1.at λo e=>sb.extBut _ _ B.d1.symm e,s1.2.at λo e=>sb.extBut _ _ da e⟩,⟨s2.1.at λo e=>sb.extBut _ _ B.d2.symm e,s2.2.at λo e=>sb.extBut _ _ db e⟩,?_⟩;rcases hz with⟨x0,y0,hz,ho⟩ | ⟨p,f,op,hz,hp,p1,p2,p3,p4⟩
 ·exact .inl ⟨x0,y0,sb.extBut _ _ B.dz.symm hz,sb.extBut _ _ B.dO.symm ho⟩
 ·exact .inr ⟨p,f,op,sb.extBut _ _ B.dz.symm hz,sb.extBut _ _ p4 hp,p1,p2,p3,p4⟩
section
variable{prog:wT}{w:wX}{A:vB}{R:Result->wq->Prop}{base z TI TO i1 i2 d a b:wf}{its jts:.aP}{key:Nat->List Int}{ka:Nat->wf}{val:Nat->wo}
theorem zFX(B:ZB base z TI TO i1 i2 d a b)(hh:A.in1.in1.handled=none)(hu:A.in1.units+1<WW)(hl:jts.size=its.size)(hn:its.size<=999)(hx:∀i,i<its.size->its[i]? = some (.ref (ka i)))(hy:∀i,i<its.size->jts[i]? = some (val i))
  (lk:∀i,i<its.size->ka i<base) (hk:∀i j,i<its.size->j<its.size->key i=key j->i=j) :
  ∀(c i:Nat)(s:wq),its.size-i=c->i<=its.size->oC z TI TO i1 i2 d a b its jts i s.heap->(∀j,j<its.size->(eQ prog w).is s.heap (key j) (ka j))->s.heap.DictOfH (eQ prog w) d ((wr i).map λj=>(key j,ka j,val j)) ->
   (∀(g:wS)(tk:Nat),mv base s.heap g->g.DictOfH (eQ prog w) d ((wr its.size).map λj=>(key j,ka j,val j))->R (.ok (.ret .none)) {s with heap:=g,toks:=tk}) ->
   codeAny .q A (.builtin "dict.update.loop" ⟨[.ref d,.ref z,Vq i,.none],[]⟩) R s:=by
 have lift:∀{h h':wS}{xs:List (List Int × wf × wo)},h.DictOfH (eQ prog w) d xs->(∀x∈xs,x.2.1<base)->mv base h h'->(∀o,h.get? d=some o->h'.get? d=some o)->h'.DictOfH (eQ prog w) d xs:=λx hb bl hd=>by
  obtain⟨o,es,ep,ho,hc,hda,he,his,hn⟩:=x;exact⟨o,es,ep,hd o ho,hc,hda,he,λx hx=>sO (his x hx) λo e=>bl _ o (hb x hx) e,hn⟩
 have lo:∀{h h':wS},(∀c o,c≠z->c≠TO->c≠i1->c≠i2->h.get? c=some o->h'.get? c=some o)->mv base h h':=λhk c o hc e=>hk c o (w8 (vd hc B.bz)) (w8 (vd hc B.bO)) (w8 (vd hc B.b1)) (w8 (vd hc B.b2)) e
 intro c
 induction c with
 | zero =>
  intro i s ec ei st ht hs r;obtain rfl:i=its.size:=by omega
  refine codeAny_builtin TR ?_;rw[qF BW _];refine wp (m:=pyNext .b9) (zGR B hh st λh' tk hk'=>?_);refine wp (wI ?_);refine wI (r h' tk (lo hk') (lift hs (λx hx=>?_) (lo hk') λo e=>hk' d o B.dz B.dO B.d1 B.d2 e));obtain⟨j,hj,rfl⟩:=wW.mp hx;exact lk j (wN.mp hj)
 | succ c ih =>
  intro i s ec ei st ht hs r;have lt:i<its.size:=by omega
  have hdl:d<s.heap.objs.size:=by obtain⟨o,_,_,ho,_⟩:=hs;exact wK ho
  refine codeAny_builtin TR ?_;rw[qF BW _];refine wp (m:=pyNext .b9) (zGM B hh st hdl (hx i lt) (hy i lt) λh' tk hp st' hk'=>?_);have bl:=lo hk'
  have hs':h'.DictOfH (eQ prog w) d ((wr i).map λj=>(key j,ka j,val j)):=lift hs (λx hx=>by
   obtain⟨j,hj,rfl⟩:=wW.mp hx;have:=wN.mp hj;exact lk j .cC) bl λo e=>hk' d o B.dz B.dO B.d1 B.d2 e
  have ht':∀j,j<its.size->(eQ prog w).is h' (key j) (ka j):=λj hj=>sO (ht j hj) λo e=>bl _ o (lk j hj) e
  refine wp (Va (wp (wpAny_tryCatch (zBj hp ?_))));refine Va (wpAny_dictSet_heap (knd:=eQ prog w) (k:=key i) hu (ht' i lt) hs' (λh2 hd2 sb=>?_) (by rw[wn,vv,W7];omega))
  have e2:storedH ((wr i).map λj=>(key j,ka j,val j)) (key i) (ka i) (val i)=(wr (i+1)).map λj=>(key j,ka j,val j):=by
   rw[storedH_new,Qz,wU]
   ·rfl
   ·cases e:atKey ((wr i).map λj=>(key j,ka j,val j)) (key i)with
    | none=>rfl
    | some p =>
     unfold atKey at e;rw[Vu]at e;obtain⟨y,hy',_⟩:=e;have hm:=xb hy';have hp':=uM hy';obtain⟨j,hj,rfl⟩:=wW.mp hm;have hj:=wN.mp hj;have:=hk j i .cC lt (of_decide_eq_true hp');omega
  rw[e2]at hd2;have sb:Wd d h' h2:=sb;refine wI ⟨plainId_quiet BW _,?_⟩;have bl2:mv base h' h2:=λc o hc e=>sb.extBut c o (w8 (vd hc B.bd)) e
  have:=ih (i+1) {s with heap:=h2,toks:=tk+(eQ prog w).draws (key i)} .cC lt (st'.but B sb) (λj hj=>sO (ht' j hj) λo e=>bl2 _ o (lk j hj) e) hd2 λg tk' bl3 dd=>r g tk' (bl.trans (bl2.trans bl3)) dd
  exact this
end
section
variable{prog:wT}{w:wX}{A:vB}{E:.n}{s:wq}{base z TI TO i1 i2 a b:wf}{its jts:.aP}{key:Nat->List Int}{ka:Nat->wf}{val:Nat->wo}{x0 y0:wo}
theorem aal(B:ZB base z TI TO i1 i2 s.heap.objs.size a b)(hh:.cQ)(hu:A.units+3<WW)(hl:jts.size=its.size)(hn:its.size<=999)(hx:∀i,i<its.size->its[i]? = some (.ref (ka i)))(hy:∀i,i<its.size->jts[i]? = some (val i))
  (lk:∀i,i<its.size->ka i<base) (hk:∀i j,i<its.size->j<its.size->key i=key j->i=j) (hz:IsZip s.heap z TI TO .none) (hi:WR s.heap TI (.ref i1) (.ref i2)) (ho:WR s.heap TO x0 y0) (s1:s.heap.IsTupleIter i1 a 0) (t1:s.heap.IsTuple a its) (s2:s.heap.IsTupleIter i2 b 0) (t2:s.heap.IsTuple b jts)
  (hK:∀j,j<its.size->(eQ prog w).is s.heap (key j) (ka j)) {Q:.n}
  (q:∀(g:wS)(tk:Nat),mv base s.heap g->g.DictOfH (eQ prog w) s.heap.objs.size ((wr its.size).map λj=>(key j,ka j,val j))->Q .aX {s with heap:=g,toks:=tk}) :
  wD .q A (call (.type "dict") [.ref z]) Q E s:=by
 refine callType_codes (Q₁:=λobj s₁=>obj=.ref s.heap.objs.size/\s₁ = {s with heap:=s.heap.push {cls:=.type "dict",data:=.dict #[]}}) PySem.F.kt_called_dict (PySem.F.kt_typeCall_dict_1 _) PySem.F.entry_dict_init (kt_code_dict_new _ ⟨rfl,rfl⟩) ?_;rintro obj s₁ ⟨rfl,rfl⟩;have hnew:(s.heap.push {cls:=.type "dict",data:=.dict #[]}).DictOfH (eQ prog w) s.heap.objs.size []:=Heap.DictOfH.new s.heap;have hz':IsZip (s.heap.push {cls:=.type "dict",data:=.dict #[]}) z TI TO .none:=wt _ hz;refine⟨hnew.typeIs,PySem.F.args_dict_init_2 _ _,?_⟩;unfold Builtin.«dict.__init__»;refine wp ?_;unfold Builtin.Dict.selfAndRest;refine wp (wpAny_notOrdered_dict hnew.typeIs ?_)
 show wD _ _ (pure (s.heap.objs.size,[Value.ref z])) _ _ _
 refine wI ?_
 show wD _ _ (xr "dict.__init__" s.heap.objs.size .b9 [] .none) _ _ _
 unfold xr;refine wp (wpAny_typeOf (T:="zip") ⟨_,hz',rfl⟩ ?_);rw[if_pos .ab];refine wp (zDk hz' (by exact hh) λh1 tk1 kp1=>?_);simp only[Option.isNone_none,if_true];refine wp (wpAny_rule ?_);have kp0:∀b o,s.heap.get? b=some o->h1.get? b=some o:=λb o e=>kp1 b o (wt _ e)
 have dn:h1.DictOfH (eQ prog w) s.heap.objs.size []:=by
  obtain⟨o,es,ep,ho,hc,hda,he,his,hn⟩:=hnew;exact⟨o,es,ep,kp1 _ _ ho,hc,hda,he,(λx hx=>by cases hx),hn⟩
 refine wp (wpAny_pyIter_zip (kp0 _ _ hz) ?_);refine wI ⟨plainId_quiet BW _,?_⟩;refine zFX B (by exact hh) (show A.units+1+1+1<WW by omega) hl hn hx hy lk hk (its.size-0) 0 _ rfl (Vh _) ⟨kp0 _ _ hi,⟨s1.at λo e=>kp0 _ o e,t1.at λo e=>kp0 _ o e⟩,⟨s2.at λo e=>kp0 _ o e,t2.at λo e=>kp0 _ o e⟩,.inl ⟨x0,y0,kp0 _ _ hz,kp0 _ _ ho⟩⟩ (λj hj=>sO (hK j hj) λo e=>kp0 _ o e) dn λg tk bl dd=>?_
 exact⟨rfl,q g tk (λc o hc e=>bl c o hc (kp0 c o e)) dd⟩
end
end TB
namespace L2
open PySem PySem.Spec PyProof.Rows GM
open TB (eQ ie hW)
theorem zBa:vX "dict"=some (.type "dict"):=by decide +kernel
def iR(ks:.bm)(us ws:.bZ):List NE:=(wr us.length).map λj=>(ks.getD j [],us.getD j 0,ws.getD j 0)
def RG(K:wa)(vs:.x)(H1:Hp)(Q:VK):Prop:=∃(a b:wf)(ks:.bm)(us ws:.bZ),vs=[.ref a,.ref b]/\a_ K H1 a (us.map V.ref)/\a_ K H1 b (ws.map V.ref)/\us.length=ws.length/\us.length<=999/\ah K H1 (us.map V.ref) (ks.map TZ)/\ks.Nodup /\
 ∀D ep,H1 D=none->Q .bG (upd H1 D (jZ D ep (iR ks us ws)))
def zAA(K:wa)(ta:TA):TE:=λσ H Q=>ta σ H λvs H1=>RG K vs H1 Q
theorem zGv{n d a b:Nat}(la:a<n)(lb:b<n)(hd:n+5<=d):TB.ZB n (n+4) (n+2) (n+3) n (n+1) d a b where
 ap:=UM la lb
 na:=w8 la
 nb:=w8 (Q6 lb)
 bz:=Vs _ 4
 bO:=Vs _ 3
 b1:=wu _
 b2:=Vs _ 1
 bd:=by show n<=d;omega
 dz:=vH .cC
 dI:=vH .cC
 dO:=vH .cC
 d1:=vH .cC
 d2:=vH .cC
 la:=la
 lb:=lb
theorem zzP{ks:.bm}{us ws:.bZ}(h:ks.length=us.length):(iR ks us ws).map (·.1)=ks:=by
 unfold iR;rw[VB];refine List.ext_getElem? λj=>?_
 rw[wA];rcases wJ j us.length with z | z
 ·rw[vZ z,we (by omega:j<ks.length)]
  show some (ks.getD j [])=_
  rw[wb,we (by omega:j<ks.length)]
  rfl
 ·rw[wQ (by simpa using z),wQ .cC]
  rfl
section
variable{X:Cx}{o i:Expr}{pos:Pos}{td ty:TE}
theorem Ir:∀{ws:.x}{us:.Y},aZ ws us->∀{i:Nat}{q:wf},ws[i]? = some (.ref q)->us[i]? = some (.ref q)
 | _,_,.nil,i,q,h=>by simp at h
 | _,_,.cons r1 r2,0,q,h=>by
  simp only[xp,Qe]at h ⊢;subst h;exact r1
 | _,_,.cons r1 r2,i+1,q,h=>by
  simp only[xq]at h ⊢;exact Ir r2 h
theorem zBD{l m:Expr}{ta:TA}{p p2 pos2:Pos}(hc:.bE)(hu:X.A.units+4<WW)(hg:Gl X "dict")(hm:X.mg "dict"=none)(hg2:Gl X "zip")(hm2:X.mg "zip"=none)(ha:PA X [l,m] ta)(hs:w9 [l,m] X.env=[(false,eval l X.env),(false,eval m X.env)]:=by rfl)(hs2:w9 [m] X.env=[(false,eval m X.env)]:=by rfl)
   (hs3:w9 [Expr.Call (.Name "zip" p2) [l,m] [] pos2] X.env=[(false,eval (.Call (.Name "zip" p2) [l,m] [] pos2) X.env)]:=by rfl):PE X (.Call (.Name "dict" p) [.Call (.Name "zip" p2) [l,m] [] pos2] [] pos) (zAA X.K ta):=by
 intro pins s σ H Q I h;refine Call_ (jH I hg hm zBa ?_);refine vQ ?_ hs3 rfl;rw[hs3]
 show wD _ _ (spliced ((false,eval _ X.env)::VR pos [])) _ _ s
 refine QU ?_;refine Call_ (jH I hg2 hm2 Hj (vQ (aS (ha pos2 pins s σ H _ I h) λus s1 ⟨vs,H1,I1,r1,q1⟩=>?_) (by rw[hs,hs2]) (by rw[hs2];rfl)));obtain⟨a,b,ks,us',ws,rfl,hq1,hq2,hl,hn,hk,nd,q⟩:=q1;obtain⟨u,v,rfl,ru,rv⟩:=nj r1;cases ru;cases rv;obtain⟨its,ri,p1⟩:=I1.kN (t:=true) hq1;obtain⟨jts,rj,p2⟩:=I1.kN (t:=true) hq2;have p1:s1.heap.IsTuple a its.toArray:=p1;have p2:s1.heap.IsTuple b jts.toArray:=p2;have la:a<s1.heap.objs.size:=by obtain⟨o,e,_⟩:=p1;exact wK e
 have lb:b<s1.heap.objs.size:=by obtain⟨o,e,_⟩:=p2;exact wK e
 have li:=ri.length;have lj:=rj.length;have lk:=hk.length;simp only[wn]at li lj lk;refine UZ p1 p2 λh' hz hi ho t1 t2 kp=>?_
 refine Q4 ?_;have hd:s1.heap.objs.size+5<=h'.objs.size:=wK hz
 have hx:∀j,j<its.toArray.size->its.toArray[j]? = some (Value.ref (us'.getD j 0)):=λj hj=>by
   have hj:j<us'.length:=by simpa [li] using hj
   have:=Ir ri (show(us'.map V.ref)[j]? = some (V.ref (us'.getD j 0)) by rw[wA,wb,we hj];rfl)
   simpa using this
 have hy:∀j,j<its.toArray.size->jts.toArray[j]? = some (Value.ref (ws.getD j 0)):=λj hj=>by
   have hj : j < ws.length := by have : j < us'.length := by simpa [li] using hj
                                 omega
   have:=Ir rj (show(ws.map V.ref)[j]? = some (V.ref (ws.getD j 0)) by rw[wA,wb,we hj];rfl)
   simpa using this
 have hK:∀j,j<its.toArray.size->(eQ X.prog X.w).is s1.heap (ks.getD j []) (us'.getD j 0):=λj hj=>by
   have hj:j<us'.length:=by simpa [li] using hj
   have:=(kl hk (i:=j) (x:=.ref (us'.getD j 0)) (by rw[wA,wb,we hj];rfl)).2
   have ek:(ks.map TZ).getD j .none=TZ (ks.getD j []):=by
     rw[wb,wA,wb,we (by omega:j<ks.length)]
     rfl
   rw[ek]at this;exact I1.nK this
 refine TB.aal (zGv la lb hd) (I1.ok.hd hc) .cC (by simp only[wR];omega) (by simp only[wR];omega) hx hy (λj hj=>?_) (λi j hi' hj e=>?_) hz hi ho t1 (p1.at λo e=>kp _ o e) t2 (p2.at λo e=>kp _ o e) (λj hj=>TB.sO (hK j hj) λo e=>kp _ o e) λg tk bl dd=>?_
 . obtain⟨a',o,items,n,ea,ho',_⟩:=hK j hj
   cases ea;exact wK ho'
 . have hi' : i < ks.length := by have : i < its.length := by simpa using hi'
                                  omega
   have hj : j < ks.length := by have : j < its.length := by simpa using hj
                                 omega
   rw[wb,wb,we hi',we hj]at e;have pw:=Wo.mp nd;rcases ql i j with z | z | z
   . exact absurd e (pw i j hi' hj z)
   . exact z
   . exact absurd e.symm (pw j i hj hi' z)
 . obtain⟨o,es,ep,ho',hxd,hda,he,his,hnd⟩:=dd
   refine⟨.ref h'.objs.size,_,I1.laid (t':=tk) (a:=h'.objs.size) (o:=jZ h'.objs.size ep (iR ks us' ws)) (λc o e=>bl c o (wK e) (kp c o e)) .cC (zCS ?_ (beq_eq_false_iff_ne.mpr (WN (w8 ?_))) ?_ ho' hxd hda ?_),rfl,q _ ep (I1.aR.fresh .cC)⟩
   . unfold iR;rw[wn,vv];omega
   . exact vd I1.big .cC
   . rw[zzP .cC];exact nd
   . rw[he]
     have:((wr its.toArray.size).map λj=>(ks.getD j [],us'.getD j 0,Value.ref (ws.getD j 0)))=kB (iR ks us' ws):=by
       unfold kB iR;rw[VB,wR,<- li]
       rfl
     rw[this];exact YH _
def Ep(K:wa)(td ty:TE):TE:=λσ H Q=>td σ H λx H1=>ty σ H1 λy H2=>∃a b ep xs k l,x=.ref a/\y=.ref b/\H2 a=some (jZ a ep xs)/\Bb K H2 xs/\Is K H2 (.ref b) (TZ k)/\om xs k=some l/\Q .az H2
theorem zEE{pins:.j}{σ : St}{H:Hp}{s:wq}{a b l:wf}{ep:Nat}{xs:List NE}{k:.p}{A:vB}{E:.n}{Q:.n}(hu:A.units+4<WW)(I:.l)(e:H a=some (jZ a ep xs))(hk:Bb X.K H xs)(hb:Is X.K H (.ref b) (TZ k))(hl:om xs k=some l)(h:∀s',Inv X pins σ H s'->Q .az s') :
  wD .m A (getItem .bu (.ref b)) Q E s:=by
 obtain⟨z,hd,nd,o,es,ho,hx,hda,r⟩:=I.OV e;have zk:(kB xs).map (·.1)=xs.map (·.1):=by unfold kB;rw[VB];rfl
 have dd:s.heap.DictOfH (eQ X.prog X.w) a (kB xs):=⟨o,es,ep,ho,hx,hda,zGu r,λx hx=>by
  obtain⟨y,hy,rfl⟩:=wW.mp hx;exact I.nK (hk y hy),by rw[zk];exact nd⟩
 have lk:=zER xs k;rw[hl]at lk;cases e2:atKey (kB xs) k with
 | none=>rw[e2]at lk;cases lk
 | some p =>
  rw[e2]at lk;have:p.2=Value.ref l:=w6 lk;obtain⟨p1,p2⟩:=p;have:p2=Value.ref l:=this;subst this;exact wpAny_getItem_heap (knd:=eQ X.prog X.w) (show A.units+1+1<WW by omega) (I.nK hb) dd e2 (h _ (I.tok _))
theorem zBx(hu:X.A.units+4<WW)(ho:PE X o td)(hi:PE X i ty)(hs:zF1 i):PE X (.Subscript o i pos) (Ep X.K td ty):=by
 intro pins s σ H Q I h;refine zDv PySem.F.slot_dict_getitem.lookup hs (aS (ho pins s σ H _ I h) λu s1 ⟨x,H1,I1,rx,q1⟩=>aS (hi pins s1 σ H1 _ I1 q1) λiv s2 ⟨y,H2,I2,ry,a,b,ep,xs,k,l,ex,ey,e,hk,hb,hl,q2⟩=>?_);subst ex ey;obtain rfl:u=Value.ref a:=rx;obtain rfl:iv=Value.ref b:=ry;obtain⟨_,_,_,od,es,g1,g2,_,_⟩:=I2.OV e;exact⟨⟨od,g1,g2.1⟩,zEE hu I2 e hk hb hl λs3 I3=>⟨.ref l,H2,I3,rfl,q2⟩⟩
end
section
variable{K:wa}{σ : St}{H:Hp}{Q:VK}{td ty:TE}{ta:TA}
theorem dq26:(zAA K ta σ H Q)=(ta σ H λvs H1=>RG K vs H1 Q):=rfl
theorem zzX(h:ta σ H λvs H1=>RG K vs H1 Q):zAA K ta σ H Q:=h
theorem dq27:(Ep K td ty σ H Q)=(td σ H λx H1=>ty σ H1 λy H2=>∃a b ep xs k l,x=.ref a/\y=.ref b/\H2 a=some (jZ a ep xs)/\Bb K H2 xs/\Is K H2 (.ref b) (TZ k)/\om xs k=some l/\Q .az H2):=rfl
theorem zAG(h:td σ H λx H1=>ty σ H1 λy H2=>∃a b ep xs k l,x=.ref a/\y=.ref b/\H2 a=some (jZ a ep xs)/\Bb K H2 xs/\Is K H2 (.ref b) (TZ k)/\om xs k=some l/\Q .az H2):Ep K td ty σ H Q:=h
end
end L2
namespace TB
open PySem PySem.W PyProof.Rows MeetsSeq PySem.SeqAt
section
variable{prog:wT}{w:wX}{A:vB}{s:wq}{R:Result->wq->Prop}
def j6(b:Nat->Bool):Nat->Nat->Nat
 | _,0=>0
 | i,k+1=>(if b i=true then 1 else 0)+j6 b (i+1) k
theorem Yb{l:wf}{items:.aP}{n:Nat}{dd:.cD}{sl:.bx}{x:wo}{b:Nat->Bool}(hl:s.heap.get? l=some {cls:=.type "list",dict:=dd,data:=.seq items n,slots:=sl})
  (he:∀m (hm:m<items.size) (E:.n) (Q:Bool->wq->Prop),Q (b m) s->wD .q A.in1 (eqBool items[m] x) Q E s) :
  ∀(k i:Nat)(found:Int),items.size-i=k->R (.ok (.ret (.int (found+(j6 b i k:Nat)) s.toks))) {s with toks:=s.toks+1}->codeAny .q A (.builtin "list.count.loop" ⟨[.ref l,x,Vq i,Vq found],[]⟩) R s
 | 0,i,found,hk,h=>by
  refine codeAny_builtin entry_count_loop ?_;rw[qF plain_count_loop _];obtain⟨hp,g,d,tk,os⟩:=s
  wp_walk using wpAny_loadPart' hl
  have hi:items[((i:Nat):Int).toNat]? = none:=by simp;omega
  rw[hi]
  wp_walk
  simpa [j6] using h
 | k+1,i,found,hk,h=>by
  have hlt:i<items.size:=by omega
  refine codeAny_builtin entry_count_loop ?_;rw[qF plain_count_loop _];have ih:=λfound' h'=>Yb hl he k (i+1) found' .cC h'
  obtain⟨hp,g,d,tk,os⟩:=s
  wp_walk using wpAny_loadPart' hl
  have hi:items[((i:Nat):Int).toNat]? = some items[i]:=by simp[hlt]
  have hc:((i:Int)+1)=((i+1:Nat):Int):=by push_cast;rfl
  rw[hi];refine wp (he i hlt _ _ ?_)
  wp_walk
  rw[hc];refine⟨plainId_quiet plain_count_loop _,ih _ ?_⟩;cases hb:b i with
  | false =>
   simp only[j6,hb,WH,if_false,xk]at h ⊢;exact h
  | true =>
   simp only[j6,hb,if_true]at h ⊢;have e1:found+1+((j6 b (i+1) k:Nat):Int)=found+((1+j6 b (i+1) k:Nat):Int):=by push_cast;omega
   rw[e1];exact h
theorem aaq{l:wf}{items:.aP}{n:Nat}{x:wo}{b:Nat->Bool}{Q:.n}{E:.n}(hl:s.heap.get? l=some {cls:=.type "list",dict:=none,data:=.seq items n,slots:=#[]})
  (he:∀m (hm:m<items.size) (E:.n) (Q:Bool->wq->Prop),Q (b m) s->wD .q A.in1 (eqBool items[m] x) Q E s)
  (h:Q (.int (j6 b 0 items.size:Nat) s.toks) {s with toks:=s.toks+1}):wD .q A (call (.builtin "list.count") [.ref l,x]) Q E s:=by
 refine wpAny_call (codeAny_call_builtin Qb.plain PySem.F.entry_list_count (Qb.check _ _ _ _ _ _ _ _ ⟨_,hl,rfl⟩ (PySem.F.args_list_count_2 _ _) ?_));have ih:=Yb (R:=wants Q E) hl he items.size 0 0 .cC (by rw[Int.zero_add];exact h);obtain⟨hp,g,d,tk,os⟩:=s
 wp_walk using wpAny_loadPart' hl
 exact⟨plainId_quiet plain_count_loop _,ih⟩
end
end TB
namespace L2
open PySem PySem.Spec PyProof.Rows GM
def Gh(K:wa):V->List V->Hp->VK->Prop:=λx vs H Q=>∃(l:wf)(us:.x)(v:V)(key:Nat->List Int)(k:.p),x=.ref l/\vs=[v]/\H l=some (.lst us)/\(∀i u,us[i]? = some u->KN K H u (key i))/\KN K H v k/\Q (.int (TB.j6 (λm=>decide (key m=k)) 0 us.length:Nat)) H
theorem zzb{X:Cx}(hu:X.A.units+64<WW):Ih X "list.count" (Gh X.K):=by
 intro pins s σ H x vs v us Q I rx rv h;obtain⟨l,ws,y,key,k,rfl,rfl,hH,hk,⟨p,rfl,hp⟩,q⟩:=h;cases rx;obtain⟨u,rfl,ru⟩:=rv.one;cases ru;obtain⟨z,its,n,r,hl,e⟩:=I.sQ hH;have hlen:=r.length;refine TB.aaq (b:=λm=>decide (key m=k)) e (λm hm E Q' q'=>?_) ?_
 ·have hm2:m<its.length:=by rw[wR]at hm;exact hm
  have hm':m<ws.length:=by omega
  obtain⟨a,ea,sa⟩:=hk m _ (we hm');have hv:=zrY r (show ws[m]? = some .bu by rw[we hm',ea])
  have he:its.toArray[m]=.ref a:=by
   rw[we hm2]at hv
   simpa using w6 hv
  rw[he];exact wpAny_eqBool_tuple (by show X.A.units+1<_;lia) (I.key sa) (I.key hp) q'
 ·rw[wR,show its.length=ws.length by omega]
  exact⟨.int _,H,I.tok _,⟨_,rfl⟩,q⟩
theorem zvE{x:Rat}{b:Nat->Bool} : ∀(ys:.a)(i:Nat),(∀j,j<ys.length->b (i+j)=decide (ys.getD j 0=x))->TB.j6 b i ys.length=ys.count x
 | [],_,_=>rfl
 | y::ys,i,h=>by
  have h0:=h 0 .u;rw[xh]at h0
  have ih:=zvE (x:=x) (b:=b) ys (i+1) λj hj=>by
   have:=h (j+1) (by simp;omega);rw[show i+(j+1)=i+1+j by omega]at this;exact this
  have e:(y::ys).getD 0 0=y:=rfl;rw[e]at h0
  show(if b i=true then 1 else 0)+TB.j6 b (i+1) ys.length=_
  rw[ih,List.count_cons,h0]
  by_cases z:y=x<;>simp[z]
  omega
theorem zy4{K:wa}{H:Hp}{Q:VK}{l:wf}{us:.x}{xs:.a}{x:Rat}{v:V}(h:H l=some (.lst us))(t:ah K H us .bg)(hv:Is K H v (N x))(q:Q (.int (xs.count x:Nat)) H):Gh K .az [v] H Q:=by
 have hl:=t.length;rw[wn]at hl;refine⟨l,us,v,λj=>[(xs.getD j 0).num,((xs.getD j 0).den:Int)],_,rfl,rfl,h,λj v hv=>zGp.mp (cO t hv).2,zGp.mp hv,?_⟩
 rw[hl,zvE xs 0 λj hj=>by
  rw[xk]
  show decide ([(xs.getD j 0).num,((xs.getD j 0).den:Int)]=[x.num,.ac])=decide (xs.getD j 0=x)
  by_cases z:xs.getD j 0=x
  ·rw[decide_eq_true z,decide_eq_true (by rw[z])]
  ·rw[decide_eq_false z,decide_eq_false λe=>z (zDH e)]]
 exact q
end L2
namespace G
open PySem PySem.Spec PyProof.Rows L2 GM
local macro_rules | `(tactic| wtm_at "sc")=>`(tactic| exact ⟨rfl,rfl,rfl,by decide +kernel,rfl,by decide +kernel,by decide +kernel⟩)
def top(i:Nat):vc:=Vx.main.body.getD i (.Pass ⟨0,0,0,0⟩)
abbrev FK:vc:=top 70
abbrev J0:List Str:=["thing","worms"]
abbrev BM:List Str:=["thing","worms"]
theorem zpw:aO J0 BM (aJ (top 70)):=by wtm_at "sc"
set_option genInjectivity false in
structure Ad where
 sH:wf
 jj:wf
 dY:wf
 fv:wf
 Dh:wf
 DI:wf
structure Dn(K:wa)(mg:.M)(n:Str)(st:vc)(ps:.U)(f:wf)(fd:wG):Prop where
 F:nZ K n n st f fd
 g:mg n=some (.ref f)
 b:oZ K fd ps []
abbrev dL(P:wT)(w:wX)(base:wS){K:wa}{mg:.M}{n:Str}{st:vc}{ps:.U}{f:wf}{fd:wG}(D:Dn K mg n st ps f fd)(k:Nat)(sp:Sp):=aI P w K mg base aP k f fd ps sp
abbrev ii(P:wT)(w:wX)(base:wS){K:wa}{mg:.M}{n:Str}{st:vc}{ps:.U}{f:wf}{fd:wG}(D:Dn K mg n st ps f fd)(k:Nat)(sp:Sp):=aI P w K mg base (gB P w) k f fd ps sp
abbrev kw(P:wT)(w:wX)(base:wS){K:wa}{mg:.M}{n:Str}{st:vc}{ps:.U}{f:wf}{fd:wG}(D:Dn K mg n st ps f fd)(k:Nat)(g:wa->V->Hp->VK->XK->Prop):=dL P w base D k (S1 (g K))
abbrev ms(P:wT)(w:wX)(base:wS){K:wa}{mg:.M}{n:Str}{st:vc}{ps:.U}{f:wf}{fd:wG}(D:Dn K mg n st ps f fd)(k:Nat)(g:wa->V->V->Hp->VK->XK->Prop):=dL P w base D k (S2 (g K))
abbrev pc(P:wT)(w:wX)(base:wS){K:wa}{mg:.M}{n:Str}{st:vc}{ps:.U}{f:wf}{fd:wG}(D:Dn K mg n st ps f fd)(k:Nat)(g:wa->V->V->V->Hp->VK->XK->Prop):=dL P w base D k (S3 (g K))
abbrev pi(P:wT)(w:wX)(base:wS){K:wa}{mg:.M}{n:Str}{st:vc}{ps:.U}{f:wf}{fd:wG}(D:Dn K mg n st ps f fd)(k:Nat)(g:wa->V->V->V->V->Hp->VK->XK->Prop):=dL P w base D k (S4 (g K))
abbrev po(P:wT)(w:wX)(base:wS){K:wa}{mg:.M}{n:Str}{st:vc}{ps:.U}{f:wf}{fd:wG}(D:Dn K mg n st ps f fd)(k:Nat)(g:wa->V->V->V->V->V->Hp->VK->XK->Prop):=dL P w base D k (S5 (g K))
section
variable{X:Cx}{x:Str}{f:wf}{fd:wG}{ps:.U}{sp:Sp}{j k:Nat}{e:Expr}{es:.aG}{t:TA}{pos pp:Pos}{st:vc}{CX:hZ}
theorem sf{E:XK}(F:aI X.prog X.w X.K X.mg X.base CX k f fd ps sp)(hr:eY j X.A)(D:Dn X.K X.mg x st ps f fd)(hx:rZ CX X E)(ha:PA X (e::es) t)(hj:k<=j:=by decide)(hg:Gl X x:=by exact rfl)
  (hdb:.ai=false:=by decide) (he:w9 (e::es) X.env=.bw::w9 es X.env:=by rfl) (hpl:(VR pos .ci).any (·.1)=false:=by rfl) :
  PE X (.Call (.Name x pp) (e::es) [] pos) (yh sp [] E t):=zyA F (hr.mono hj) hg D.g D.F.kp D.b .nil hx ha hdb he hpl
theorem ao{D:Dn X.K X.mg x st ps f fd}(F:dL X.prog X.w X.base D k sp)(hr:eY j X.A)(ha:PA X (e::es) t)(hj:k<=j:=by decide)(hg:Gl X x:=by exact rfl)
  (hdb:.ai=false:=by decide) (he:w9 (e::es) X.env=.bw::w9 es X.env:=by rfl) (hpl:(VR pos .ci).any (·.1)=false:=by rfl) :
  PE X (.Call (.Name x pp) (e::es) [] pos) (yh sp [] E0 t):=zyA F (hr.mono hj) hg D.g D.F.kp D.b .nil zGl ha hdb he hpl
theorem eI{ta:TE}{i:Int}{kd}(ha:PE X e ta):PE X (.Subscript e (.Constant (.int i) kd pp) pos) (kg (dM X.K) ta (tC (.int i))):=cB ck ha ar .J
theorem sh{K:wa}{ta:TE}{i:Int}{kd}(hr:gP X (dM K))(ha:PE X e ta):PE X (.Subscript e (.Constant (.int i) kd pp) pos) (kg (dM K) ta (tC (.int i))):=cB hr ha ar .J
theorem ay(i:Nat){te:TE}(hN:X.N.Nodup)(he:PE X e te)(hi:X.N[i]? = some x:=by exact rfl)(hx:Loc X.env.scope x:=by first | exact Or.inl rfl | exact Or.inr rfl)(hs:swapsWith e (some (.Name x pp)) pos.line X.env=pure false:=by rfl)(hf:X.fn x=true\/X.env.scope.names.lookup x=some .local:=by first | exact .inl rfl | exact .inr rfl | assumption) :
  PS X (.Assign [.Name x pp] e pos) (o_ te (kj i)):=zFc hN hi hx he hs hf
end
section
variable{X:Cx}{x y z:Str}{e b:Expr}{es:.aG}{t:TA}{ta tb:TE}{pos pp pq pr ps:Pos}
def Rs(K:wa)(H:Hp)(Q:VK)(d:wF):Prop:=∀v H',au H H'->Is K H' v d->Q v H'
def Rq(H:Hp)(Q:VK)(v:V):Prop:=∀H',au H H'->Q v H'
def Nm(X:Cx)(i:Nat)(x:Str):Prop:=X.N[i]? = some x/\tK X.env.scope x/\.ai=false/\(x == ("__classdict__" : Str))=false
theorem Nm.v{i:Nat}(h:Nm X i x):PE X (.Name x pos) (jM i):=zBU h.1 h.2.1 h.2.2.1 h.2.2.2
theorem q1(i:Nat)(h:Nm X i x:=by wtm_at "nm"):PA X [.Name x pp] (mi (jM i) sD):=ae h.v ag bM
theorem q2(i j:Nat)(h:Nm X i x:=by wtm_at "nm")(k:Nm X j y:=by wtm_at "nm"):PA X [.Name x pp,.Name y pq] (mi (jM i) (mi (jM j) sD)):=ae h.v (ae k.v ag bM) bM
theorem q3(i j k:Nat)(h:Nm X i x:=by wtm_at "nm")(h2:Nm X j y:=by wtm_at "nm")(h3:Nm X k z:=by wtm_at "nm"):PA X [.Name x pp,.Name y pq,.Name z pr] (mi (jM i) (mi (jM j) (mi (jM k) sD))):=ae h.v (ae h2.v (ae h3.v ag bM) bM) bM
theorem qi(i:Nat){n:Int}{kd}(h:Nm X i x:=by wtm_at "nm"):PE X (.Subscript (.Name x pp) (.Constant (.int n) kd pq) pos) (kg (dM X.K) (jM i) (tC (.int n))):=eI h.v
theorem cT(K:wa)(hz:X.mg x=none)(ha:PA X (e::es) t)(hK:X.K=K:=by rfl)(hg:Gl X x:=by exact rfl)(hv:vX x=some (.builtin "len"):=by exact zFT)(hn:x≠"__name__":=by decide)(hdb:.ai=false:=by decide)
  (he:w9 (e::es) X.env=.bw::w9 es X.env:=by rfl) (hpl:(VR pos .ci).any (·.1)=false:=by rfl):PE X (.Call (.Name x pp) (e::es) [] pos) (tX (lB K) t):=by
 subst hK;exact dE zzc hg hz hv ha hn hdb he hpl
theorem fM(K:wa)(hz:X.mg x=none)(ha:PA X (e::es) t)(hK:X.K=K:=by rfl)(hg:Gl X x:=by exact rfl)(hv:vX x=some (.type "tuple"):=by exact oD)(hn:x≠"__name__":=by decide)(hdb:.ai=false:=by decide)
  (he:w9 (e::es) X.env=.bw::w9 es X.env:=by rfl) (hpl:(VR pos .ci).any (·.1)=false:=by rfl):PE X (.Call (.Name x pp) (e::es) [] pos) (tX (tO K) t):=by
 subst hK;exact gu zuI hg hz hv ha hn hdb he hpl
theorem ji(K:wa)(hu:X.A.units+64<WW)(ha:PE X e ta)(hb:PE X b tb)(hK:X.K=K:=by rfl):PE X (.Compare e [.Eq] [b] pos) (kg (jo K) ta tb):=by
 subst hK;exact jF (zz9 hu) ha hb .cG
theorem dX(K:wa)(hu:X.A.units+64<WW)(ha:PE X e ta)(hb:PE X b tb)(hK:X.K=K:=by rfl):PT X (.Compare e [.Eq] [b] pos) (yP (kg (jo K) ta tb)):=by
 subst hK;exact dB (zz9 hu) ha hb .cG
theorem iD(K:wa)(hu:X.A.units+64<WW)(ha:PE X e ta)(hb:PE X b tb)(hK:X.K=K:=by rfl):PT X (.Compare e [.NotEq] [b] pos) (yP (kg (md K) ta tb)):=by
 subst hK;exact dB (zFl hu) ha hb .cG
theorem cU(i:Nat)(hN:X.N.Nodup:=by exact of_decide_eq_true (by kernel_rfl))(hi:X.N[i]? = some x:=by rfl)(hx:Loc X.env.scope x:=by exact Or.inl rfl)(hf:X.fn x=true\/X.env.scope.names.lookup x=some .local:=by first | exact .inl rfl | exact .inr rfl | assumption):PG X (.Name x pos) (kj i):=cC hN hi hx hf
theorem dq(N':.U){scope:Scope}(src:.S)(hk:scope.kind=.function:=by rfl)(hc:FV scope.names X.env.scope.names X.N N' src=true:=by kernel_rfl)(hf:∀x,X.env.scope.names.lookup x=some .cell->∃c,X.env.cells.lookup x=some c:=by exact λx h=>Bm h):rP X N' scope (jz X.env.cells scope.names []) src:=.by hk hc hf
end
@[irreducible] def ac(K:wa)(_:Nat)(n:Str):wf:=match vE K wV n with|some (some (.ref f))=>f|_=>0
@[irreducible] def al(K:wa)(j:Nat)(n:Str):wG:=match K.lookup (ac K j n) with|some ⟨_,_,.func d,_⟩=>d|_=>default
abbrev am(K:wa)(mg:.M)(j:Nat)(n:Str)(ps:.U):=Dn K mg n (top j) ps (ac K j n) (al K j n)
structure pX(K:wa)(mg:.M):Prop where
 zi:am K mg 10 "is_whole" ["thing"]
 Di:am K mg 11 "is_whole_from" ["least","most","thing"]
 pz:am K mg 12 "greatest_divisor" ["one","other"]
 pD:am K mg 13 "is_number" ["thing"]
 hV:am K mg 14 "plus" ["one","other"]
 sL:am K mg 15 "minus" ["one","other"]
 lS:am K mg 16 "times" ["one","other"]
 DM:am K mg 17 "over" ["one","other"]
 iN:am K mg 18 "less" ["one","other"]
 Mn:am K mg 23 "is_factor" ["a"]
 M_:am K mg 24 "is_shift" ["b"]
 Mr:am K mg 25 "make_rule" ["a","b"]
 Nv:am K mg 26 "is_rule" ["thing"]
 DL:am K mg 27 "bend" ["rule"]
 sI:am K mg 28 "pushes" ["rule","many"]
 Dv:am K mg 29 "pushed_by" ["push","x"]
 MQ:am K mg 33 "is_phase" ["thing"]
 L8:am K mg 34 "are_phases" ["thing"]
 DA:am K mg 35 "swarm_of" ["rule","phases"]
 DB:am K mg 36 "greatest" ["phases"]
 MN:am K mg 37 "worms_at" ["phases","phase"]
 DF:am K mg 38 "flocks" ["swarm"]
 Dr:am K mg 39 "at_the_end" ["worms","phases"]
 zu:am K mg 40 "glow" ["swarm"]
 Ny:am K mg 42 "history" ["swarm","many"]
 Oe:am K mg 43 "behind" ["swarm","many"]
 zj:am K mg 45 "is_laid" ["swarm"]
 sM:am K mg 46 "laid" ["swarm"]
 Lq:am K mg 47 "phases_behind" ["rule","size","phases","turn"]
 zq:am K mg 48 "stands" ["rule","sizes","places"]
 Dl:am K mg 49 "round_behind" ["rule","sizes","places"]
 L3:am K mg 50 "round_time" ["rule","sizes","places"]
 DN:am K mg 51 "tops" ["rule","sizes","places"]
 pE:am K mg 52 "is_free" ["rule","sizes","places"]
 pC:am K mg 53 "round_map" ["rule","sizes"]
 DJ:am K mg 56 "still" ["rule","sizes"]
 DE:am K mg 57 "weighed" ["both","places","of_place","of_shift"]
 DG:am K mg 58 "led_on" ["both","places","many"]
 Dk:am K mg 59 "rounds_behind" ["rule","sizes","places","many"]
 Lg:am K mg 60 "sums_of_places" ["both","places","many"]
 LO:am K mg 61 "rounds_time" ["rule","sizes","places","many"]
 Dm:am K mg 62 "draws_freely" ["rule","sizes"]
 Md:am K mg 63 "stays_free" ["rule","sizes","places"]
 LS:am K mg 64 "free_rounds" ["rule","sizes","places"]
 Du:am K mg 68 "has_stand" ["row","worms"]
 N3:am K mg 69 "is_row" ["thing","worms"]
 LJ:am K mg 70 "is_last_row" ["thing","worms"]
 M0:am K mg 71 "is_paper" ["thing","worms"]
 NK:am K mg 72 "go_free" ["swarm","rounds"]
 Dj:am K mg 73 "behind_rounds" ["swarm","rounds"]
 Dt:am K mg 74 "behind_row" ["swarm","rounds","glows"]
 MT:am K mg 75 "leads_on" ["rule","row","following"]
 DC:am K mg 76 "word_of" ["swarm"]
 Nl:am K mg 77 "lets_by" ["swarm","paper"]
 Ls:am K mg 78 "glows_to_join" ["swarm"]
 M7:am K mg 79 "next_row" ["hour","swarm"]
 ze:am K mg 80 "paper_of" ["swarm"]
 MU:am K mg 82 "_law_cell" ["_law_script","_law_k"]
 zm:am K mg 83 "_law_pen" ["_law_script","_law_k"]
 dD:am K mg 84 "_law_draw" ["_law_pen_here","_law_most"]
 g_:am K mg 85 "_law_low" ["_law_top","_law_bottom"]
 gK:am K mg 86 "_law_sum" ["_law_one","_law_other"]
 lR:am K mg 87 "_law_rest" ["_law_one","_law_other"]
 kJ:am K mg 88 "_law_product" ["_law_one","_law_other"]
 Dy:am K mg 89 "_law_part" ["_law_one","_law_other"]
 pB:am K mg 90 "_law_below" ["_law_one","_law_other"]
 Lo:am K mg 91 "_law_drawn_rule" ["_law_pen_here"]
 Dq:am K mg 92 "_law_pushes" ["_law_rule","_law_many"]
 kK:am K mg 93 "_law_round" ["_law_rule","_law_sizes","_law_places"]
 pA:am K mg 94 "_law_power" ["_law_one","_law_many"]
 sF:am K mg 95 "_law_rests" ["_law_rule","_law_sizes"]
 sE:am K mg 96 "_law_behind" ["_law_rule","_law_sizes","_law_places","_law_many"]
 zh:am K mg 97 "_law_free" ["_law_rule","_law_sizes","_law_places"]
 NL:am K mg 98 "_law_all" ["_law_rule","_law_sizes","_law_places"]
 Lc:am K mg 99 "_law_drawn_phases" ["_law_pen_here","_law_most"]
 zf:am K mg 101 "_law_high" ["_law_some"]
 Dp:am K mg 100 "_law_placed" ["_law_phases","_law_places"]
 MZ:am K mg 102 "_law_glow" ["_law_rule","_law_phases"]
 zg:am K mg 103 "_law_laid" ["_law_phases"]
 Dw:am K mg 104 "_law_time" ["_law_rule","_law_sizes","_law_places","_law_many"]
 zd:am K mg 105 "_law_stand" ["_law_rule","_law_hour","_law_phases","_law_rounds","_law_glows"]
 Dx:am K mg 106 "_law_word" ["_law_rule","_law_phases"]
 MV:am K mg 107 "_law_lets" ["_law_rule","_law_phases","_law_paper_here"]
 My:am K mg 108 "_law_paper" ["_law_swarm"]
 Nq:am K mg 109 "_law_cut" ["_law_pen_here","_law_rule","_law_paper_here"]
 Dz:am K mg 110 "_law_bent" ["_law_pen_here","_law_paper_here"]
 sG:am K mg 111 "_law_says" ["_law_swarm","_law_paper_here","_law_due"]
 Mo:am K mg 112 "_law_start" ["_law_pen_here","_law_rule","_law_most"]
 Ds:am K mg 113 "_law_forced" ["_law_pen_here","_law_rule","_law_paper_here"]
 h0o:mg "abs"=none
 h0v:mg "all"=none
 h0u:mg "any"=none
 h0n:mg "bool"=none
 h0l:mg "dict"=none
 h0d:mg "enumerate"=none
 h0w:mg "int"=none
 h0c:mg "isinstance"=none
 h0t:mg "len"=none
 h0m:mg "list"=none
 h0q:mg "max"=none
 h0x:mg "min"=none
 h0j:mg "range"=none
 h0r:mg "str"=none
 h0s:mg "sum"=none
 h0i:mg "tuple"=none
 h0p:mg "zip"=none
structure Txt(P:wT)(K:wa)(mg:.M)(a:Ad):Prop extends pX K mg where
 tr:P.given.tree=none
 aap:mg "NoStand"=some (.ref a.sH)
 NN:mg "TooLong"=some (.ref a.jj)
 aao:V9 K a.sH yV "ValueError.__new__"=true
 aaO:qz K (.ref a.sH) (.ref a.jj)=some false
 aan:V9 K a.jj yV "ValueError.__new__"=true
 aab:qz K (.ref a.jj) (.ref a.jj)=some true
 fj:mg "NOUGHT"=some (.ref a.dY)
 gg:∀H:Hp,a_ K H a.dY [.int 0,.int 1]
 gz:mg "ONE"=some (.ref a.fv)
 zy:∀H:Hp,a_ K H a.fv [.int 1,.int 1]
 aaa:mg "GREATEST_FACTOR"=some (.ref a.Dh)
 aad:∀H:Hp,a_ K H a.Dh [.int 4,.int 1]
 aae:∃t,mg "FACTOR_BOTTOM"=some (.int 8 t)
 aag:∃t,mg "SHIFT_BOTTOM"=some (.int 12 t)
 aai:∃t,mg "MOST_WORMS"=some (.int 8 t)
 aaf:∃t,mg "PHASE_BOTTOM"=some (.int 60 t)
 Mz:∃t,mg "MOST_FREE"=some (.int 30 t)
 aah:∃t,mg "MOST_GLOWS"=some (.int 40 t)
 aas:mg "WORDS"=some (.ref a.DI)
 aat:∀H:Hp,a_ K H a.DI [.str "one",.str "rests",.str "drawn"]
end G
local macro_rules | `(term| ())=>`(term| by lia)
local macro_rules | `(term| ⋯)=>`(term| by decide)
local macro_rules | `(term| ∅)=>`(term| by simp)
open L2 GM in
local macro_rules | `(tactic| wtm_at "is")=>`(tactic| first
 | assumption
 | exact cj.mpr rfl
 | exact mh.mpr rfl
 | exact nT.mpr rfl
 | exact cN.mpr rfl
 | exact Is.aaI (by assumption) (by wtm_at "same")
 | exact Is.aaD (by assumption) (by wtm_at "keep")
 | exact Is.gy (by assumption) (by wtm_at "keep")
 | ((with_reducible apply is_tupAt);(focus assumption);(focus wtm_at "isall");wtm_at "same")
 | ((with_reducible apply is_lstAt);(focus assumption);(focus wtm_at "isall");wtm_at "same")
 | ((with_reducible apply is_dctAt);(focus assumption);wtm_at "same")
 | exact fF 0 (G.Txt.gg (by assumption) _) rfl rfl | exact fF 1 (G.Txt.zy (by assumption) _) rfl rfl | exact fF 4 (G.Txt.aad (by assumption) _) rfl rfl
 | fail "is")
open L2 GM in
local macro_rules | `(tactic| wtm_at "isall")=>`(tactic| first
 | exact ah.nil
 | exact ah.cons (by wtm_at "is") (by wtm_at "isall")
 | fail "isall")
open L2 GM in
local macro_rules | `(tactic| wtm_at "ne")=>`(tactic| first
 | assumption
 | (apply WN;assumption))
open L2 GM in
local macro_rules | `(tactic| wtm_at "lst")=>`(tactic| first
 | assumption
 | exact au.at (by assumption) (by wtm_at "lst")
 | exact Exc.at (by assumption) (by wtm_at "ne") (by wtm_at "lst")
 | fail "lst")
open L2 GM in
local macro_rules | `(tactic| wtm_at "same")=>`(tactic| first
 | assumption
 | exact au.refl _
 | exact au.back (by assumption) (by wtm_at "same")
 | fail "same")
open L2 GM in
local macro_rules | `(tactic| wtm_at "keep")=>`(tactic| first
 | assumption
 | exact aW.refl _
 | exact au.keep (by assumption)
 | exact aW.back (by assumption) (by wtm_at "keep")
 | exact aW.back (au.keep (by assumption)) (by wtm_at "keep")
 | fail "keep")
open L2 GM in
local macro_rules | `(tactic| wtm_at "exc")=>`(tactic| first
 | assumption
 | exact Exc.refl _ _
 | exact Exc.back (by assumption) (by wtm_at "exc")
 | exact Exc.back (au.exc (by assumption)) (by wtm_at "exc")
 | fail "exc")
open L2 GM in
local macro_rules | `(tactic| wtm_at "sqf")=>`(tactic| first
 | assumption
 | exact aW.He (by wtm_at "keep") (by assumption)
 | fail "sqf")
open L2 GM in
local macro_rules | `(tactic| wtm_at "bd")=>`(tactic| first
 | assumption
 | exact Bd.mk (n:=128) ⋯
 | exact Bd.mono (m:=128) ⟨by decide⟩ ⋯
 | exact af.t (by assumption)
 | exact af.b (by assumption)
 | exact Bd.mR () ()
 | (apply Bd.neg;wtm_at "bd")
 | (apply Bd.mul;(focus wtm_at "bd");wtm_at "bd")
 | (apply Bd.add;(focus wtm_at "bd");wtm_at "bd")
 | (apply Bd.sub;(focus wtm_at "bd");wtm_at "bd"))
open L2 GM PySem in
local macro_rules | `(tactic| wtm_at "mulok")=>`(tactic| first
 | exact XY ⋯
 | exact uu ⋯
 | exact XY (intBits_le_64 () ())
 | exact uu (intBits_le_64 () ())
 | (apply L2.aaE;(focus wtm_at "bd");(focus wtm_at "bd");(focus decide);decide))
open L2 GM PySem in
local macro_rules | `(tactic| wtm_at "side")=>`(tactic| first
 | assumption
 | decide
 | lia
 | wtm_at "mulok"
 | (refine And.intro ?_ ?_<;>wtm_at "side")
 | wtm_at "bd")
open L2 GM in
local macro_rules | `(tactic| wtm_at "gs")=>`(tactic| first
 | subst 0 zGw zGK zET zFE zC2
 | subst 1 0 t_ "side"
 | subst 0 zGO zF7 zFL zDq zE6 zFI zFB sy rO
 | with_reducible refine zCY (λ_=>?_) (λ_=>?_)
 | with_reducible refine zAH (λ_=>?_) (λ_=>?_)
 | with_reducible refine zBf (λ_=>?_) (λ_=>?_)
 | with_reducible refine zC8 (λ_=>?_) (λ_=>?_)
 | subst 0 zE1 zGj zFt zDj zC7 zEv zCj zDp zDz zCk zFj zCo zAt zDf zCW
 | subst 1 0 zDF "is"
 | subst 1 0 zC9 "is"
 | ((with_reducible apply jf);(focus(apply aF.of;wtm_at "lst"));(focus rfl))
 | ((with_reducible apply jC);(focus assumption);(focus rfl);intro hN eN lN;dsimp only[Int.reduceToNat,XE,XF]at lN)
 | subst 1 0 zuK "is"
 | subst 1 0 zBv "is"
 | subst 1 0 Z5 "is"
 | dsimp only[XE,XF])
set_option hygiene false in
open L2 GM in
local macro_rules | `(tactic| wtm_at "sq")=>`(tactic| with_reducible refine zCl (λ tl_ htl_=>?_))
set_option hygiene false in
open L2 GM in
local macro_rules | `(tactic| wtm_at "tl")=>`(tactic| ((with_reducible refine AB.go (by assumption) ?_); (try clear htl_ tl_)))
open L2 GM in
local macro_rules | `(tactic| wtm_at "bdr0")=>`(tactic| first
 | assumption
 | exact af.zero
 | exact af.one
 | exact af.four
 | (apply af.add;(focus wtm_at "bdr0");wtm_at "bdr0")
 | (apply af.sub;(focus wtm_at "bdr0");wtm_at "bdr0")
 | (apply af.mul;(focus wtm_at "bdr0");wtm_at "bdr0"))
open L2 GM in
local macro_rules | `(tactic| wtm_at "bdr")=>`(tactic| first
 | assumption
 | (apply af.mono;(focus wtm_at "bdr0");(first | decide | lia)))
open L2 GM in
local macro_rules | `(tactic| wtm_at "ga1")=>`(tactic| first
 | wtm_at "gs"
 | ((with_reducible apply cW);(focus(simp only[Wi,xx];decide));(focus wtm_at "isall");intro _ _ _ _)
 | ((with_reducible apply c9);(focus(simp only[Wi,xx];decide));intro _ _ _ _ _)
 | ((with_reducible apply gv);(focus wtm_at "lst");(focus wtm_at "lst");(focus(simp only[wM,Wi,xx];decide));intro _ _ _ _ _))
local macro_rules | `(tactic| wtm_at "ga")=>`(tactic| repeat' (first | wtm_at "ga1" | wtm_at "tl"))
local macro_rules | `(tactic| wtm_at "gg")=>`(tactic| repeat' (first | wtm_at "gs" | wtm_at "tl"))
local macro_rules | `(tactic| wtm_at "gt")=>`(tactic| repeat' (wtm_at "gs"))
open L2 GM in
local macro_rules | `(tactic| wtm_at "bd128")=>`(tactic| first
 | exact Bd.mono (m:=128) ⟨by decide⟩ ⋯
 | exact(Bd.mR () ()).mono ⋯)
open L2 GM in
local macro_rules | `(tactic| wtm_at "gs")=>`(tactic| first
 | subst 0 zGm zzN zyK zGI zzh zzW zAI zBK zB3 ZK zBh zAN zGL zCw zCK zAa zzv zzB zEP zsw zzX zAG
 | with_reducible refine zDC (λ_ _ _ _=>?_)
 | subst 0 zDh zB4 zFo zBl zFi zAz zzu zCq zA8
 | subst 1 0 zy3 "is"
 | subst 1 0 zDm "is"
 | subst 1 2 zDA "is"
 | subst 1 2 zCM "is"
 | ((with_reducible apply jf);(focus(apply aF.of;wtm_at "lst"));(focus rfl))
 | subst 1 2 zCX "lst" "L" "L"
 | subst 1 0 Aw "is" "is"
 | subst 1 0 zEA "is" "is")
open L2 GM in
local macro_rules | `(tactic| wtm_at "gs")=>`(tactic| first
 | wtm_at "sq"
 | dsimp only[L2.dq1,L2.dq2,L2.dq3,L2.dq4,L2.dq5,L2.dq6,L2.dq7,L2.dq8,L2.dq9,L2.dq10,L2.dq11,L2.dq12,L2.dq13,L2.dq14,L2.dq15,L2.dq16,L2.dq17,L2.dq18,L2.dq19,L2.dq20,L2.dq21,L2.dq22,L2.dq23,L2.dq24,L2.dq25,L2.dq26,L2.dq27,L2.dq28,L2.dq29,L2.dq30,L2.dq31,L2.dq32,L2.dq33,L2.dq34,_root_.List.cons_append,_root_.List.nil_append,_root_.List.set_cons_zero,_root_.List.set_cons_succ]
 | subst 0 L2.S1.i L2.S2.i L2.S3.i L2.S4.i L2.S5.i zFk zFr zEK zGq
 | subst 1 0 zES "R"
 | subst 0 zGU zC4 zEF zDr zCB zFM zAm)
local macro_rules | `(tactic| wtm_at "nm")=>`(tactic| exact ⟨rfl,by first | exact Or.inl rfl | exact Or.inr (Or.inl rfl) | exact Or.inr (Or.inr rfl),by decide,by decide⟩)
set_option hygiene false in
local macro_rules | `(tactic| wtm_at "b2")=>`(tactic| (focus (intro vs H Q E h; obtain ⟨_,_,rfl,_⟩:=h; rfl)); (intro jp cdv A outer s H vs Q E hr h; obtain ⟨x0,x1,rfl,h⟩:=h; have hu:=hr.units))
set_option hygiene false in
local macro_rules | `(tactic| wtm_at "cl")=>`(tactic| ((clear hu); (try clear hgd); (first | dsimp only [kq,cxOfH] | dsimp only [kq] | skip)))
local macro_rules | `(tactic| k_few)=>`(tactic| wtm_at "gg")
local macro_rules | `(tactic| o_head $e)=>`(tactic| (wtm_at "gg"; refine $e))
namespace L2
open PySem
def st2:List Str->List V->St
 | N,[]=>N.map λ_=>none
 | [],v::vs=>some v::st2 [] vs
 | _::N,v::vs=>some v::st2 N vs
theorem st2e:∀(vs:.x)(N:.U),start N vs=st2 N vs
 | [],N=>by simp[start,st2,_root_.List.map_const']
 | v::vs,[]=>by have:=st2e vs [];simp[start]at this;simp[start,st2,<-this]
 | v::vs,n::N=>by have:=st2e vs N;simp[start]at this;simp[start,st2,<-this]
end L2
local macro_rules | `(tactic| wtm_at "st")=>`(tactic| (conv=>lhs;rw[L2.st2e];dsimp only[L2.st2,List.map]))
local macro_rules | `(tactic| wtm_at "sc")=>`(tactic| exact ⟨rfl,rfl,rfl,by decide +kernel,rfl,by decide +kernel,by decide +kernel⟩)
open Lean L2 GM in
set_option hygiene false in
local macro_rules
 | `(tactic| exists $d,$c,$s:str,$t)=>do
  let n:=(s.getString.drop 1).toNat!
  let x:=(Array.range n).map λi=>mkIdent (.mkSimple s!"x{i}")
  let f:=mkIdent (.mkSimple (if s.getString.front=='c' then s.getString else if s.getString.front=='y' then "zI" else "ok"))
  let b<-`(tactic|(have hu:=hr.units;refine ⟨_,$t,?_⟩;wtm_at "cl";wtm_at "st"))
  if s.getString.front=='c' then return<-`(tactic|(refine ($d).F.$f (N:=$c) (by wtm_at "sc") rfl ?_;intro jp cdv A outer s H $x* Q E hr h;$b))
  let u<-x.mapM λ_=>`(Lean.Parser.Tactic.rcasesPatLo|_)
  let p<-x.mapM λi=>`(Lean.Parser.Tactic.rcasesPatLo|$i:ident)
  `(tactic|(refine ($d).F.$f (N:=$c) (by wtm_at "sc") ?_ ?_;(focus (intro vs H Q E h;rcases h with ⟨$[$u],*,rfl,_⟩;rfl));intro jp cdv A outer s H vs Q E hr h;rcases h with ⟨$[$p],*,rfl,h⟩;$b))
set_option hygiene false in
local macro_rules | `(tactic| wtm_at "bz")=>`(tactic| (intro _ _ _ _ _ _ us hl; first | (obtain ⟨_,rfl⟩:=TH hl; rfl) | (obtain ⟨_,_,rfl⟩:=PM hl; rfl) | (obtain ⟨_,_,_,rfl⟩:=Ts hl; rfl) | (obtain ⟨_,_,_,_,rfl⟩:=Uo hl; rfl) | (obtain ⟨_,_,_,_,_,rfl⟩:=zGr hl; rfl)))
namespace G
open PySem PySem.Spec PyProof.Rows L2 GM
section
variable{P:wT}{w:wX}{K:wa}{mg:.M}{base:wS}{a:Ad}
variable{H H':Hp}{Q:VK}{E:XK}{M g i j k m n r:Nat}{F b c h ra rb x y:Rat}{ds:.bP}{e:wF}{ss xs ys:.a}{u:V}{α:Type}{left:List Nat}{ps:.cS}{lp p p1 q:wf}{ns:.p}{us:.x}{fl:Nat->Nat}{B t:Int}
def isInt:wF->Bool
 | .int _=>true
 | _=>false
inductive znN(K:wa)(v:V)(H:Hp)(Q:VK)(E:XK):Prop|v{d:wF}(h:.bA)(q:Q (.bl (isInt d)) H)
local macro_rules | `(tactic| wtm_at "gs")=>`(tactic| subst 1 0 znN.v "is")
theorem Ic(T:.o):kw P w base T.zi 1 znN:=by
 exists T.zi,["thing"],"c1",(av (aA (e_ (dE .cA rfl T.h0c ko (ae .C (ae (jR (v:=.ty "int") rfl T.h0w zBc rfl) ag))) (gL (rG (dE .cA rfl T.h0c ko (ae .C (ae (jR (v:=.ty "bool") rfl T.h0n zxM rfl) ag))))))))
 obtain@⟨d,hd,q⟩:=h;k_few
 all_goals(cases d<;>simp_all [isInt,DR,IJ])
def oM(l m:Int):wF->Bool
 | .int i=>decide (l<=i)&&decide (i<=m)
 | _=>false
theorem zxe{l m:Int}{d:wF}(h:isInt d=false):oM l m d=false:=by cases d<;>first | rfl | cases h
inductive YN(K:wa)(u w v:V)(H:Hp)(Q:VK)(E:XK):Prop|v{l m:Int}{d:wF}(e0:u=.int l)(e1:w=.int m)(h:.bA)(q:Q (.bl (oM l m d)) H)
theorem zhx(T:.o):pc P w base T.Di 2 YN:=by
 exists T.Di,["least","most","thing"],"c3",(av (aA (e_ (ao (Ic T) hr .cR) (gL (zAg oN oN .C .au .X)))))
 obtain@⟨l,m,d,rfl,rfl,hd,q⟩:=h;have hc:(∃i,d=.int i)\/isInt d=false:=by cases d<;>simp[isInt]
 rcases hc with⟨i,rfl⟩ | hn
 ·cases cj.mp hd
  have q:Q (.bl (decide (l<=i)&&decide (i<=m))) H:=q;k_few
  ·rename_i z
   rw[decide_eq_true z,W3]at q;exact q
  ·rename_i z
   rw[decide_eq_false z,WO]at q;exact q
  ·rename_i z;cases (show true=false from z)
 ·rw[zxe hn]at q
  k_few
  ·rename_i z1;rw[hn]at z1;cases z1
  ·exact q
inductive zfw(K:wa)(u w:V)(H:Hp)(Q:VK)(E:XK):Prop|v{a b:Int}(e0:u=.int a)(e1:w=.int b)(ha:0<=a)(hb:0<=b)(q:Q (.int (vT a b:Nat)) H)
theorem yI(T:.o):ms P w base T.pz 1 zfw:=by
 exists T.pz,["one","other","rest"],"c2",(ak (nI vj (iD K hu .X ar) (ak (ay 2 jp (az jl .C .X))
     (ak (ay 0 jp .X)
     (av (ay 1 jp .au)))))
     (av (aA .C)))
 obtain@⟨a',b',rfl,rfl,ha,hb,q⟩:=h;refine zFA ?_;refine zuV (λσ H'=>∃(x y:Int)(r:.bD),σ = [some (.int x),some (.int y),r]/\0<=x/\0<=y/\vT x y=vT a' b'/\H'=H) (λσ=>(ixI σ 1).toNat) ⟨a',b',none,rfl,ha,hb,rfl,rfl⟩ ?_;rintro σ H' hz;obtain⟨x,y,r,rfl,hx,hy,hg,rfl⟩:=hz;k_few
 . refine Ut ?_
   k_few;have h1:=QC x (show y≠0 by assumption);have h2:=qU x (show 0<y by lia);refine⟨?_,_,_,_,rfl,hy,h1,?_,rfl⟩
   . show(x % y).toNat<y.toNat
     lia
   . rw[<- hg];exact zt1 () hx
 . rename_i h0
   subst h0
   have e:((vT a' b':Nat):Int)=x:=by
     rw[<- hg,XG];lia
   rw[e]at q;exact q
def cz:wF->Bool
 | .tuple [.int p,.int q]=>jq p q
 | _=>false
theorem tQ(r:Rat):cz (N r)=true:=Si r
theorem zv3{d:wF}(h:kD d=false):cz d=false:=by
 cases d<;>first | rfl | (simp[kD]at h)
theorem zwn(h:¬ ds.length=2):cz .aH=false:=by
 match ds with
 | []=>rfl
 | [_]=>simp[cz]
 | [_,_]=>exact absurd rfl h
 | _::_::_::_=>simp[cz]
theorem zta{d:wF}(h:isInt d=false):cz (.tuple [d,e])=false:=by
 cases d<;>first | rfl | (simp[isInt]at h)
theorem zre{d:wF}(h:isInt e=false):cz (.tuple [d,e])=false:=by
 cases d<;>cases e<;>first | rfl | (simp[isInt]at h)
theorem Zk{d:wF} : isInt d=true ↔ ∃i,d=.int i:=by cases d<;>simp[isInt]
inductive Zr(K:wa)(v:V)(H:Hp)(Q:VK)(E:XK):Prop|v{d:wF}(h:.bA)(q:Q (.bl (cz d)) H)
local macro_rules | `(tactic| wtm_at "gs")=>`(tactic| subst 1 0 Zr.v "is")
theorem zev(T:.o):kw P w base T.pD 2 Zr:=by
 exists T.pD,["thing"],"c1",(ak (aY (PW.pt (fI (c7 (cF (dE .cA rfl T.h0c ko (ae .C (ae (jR (v:=.ty "tuple") rfl T.h0i oD rfl) ag))))) (g6 (iD K hu (cT K T.h0t .ck) ar)))) .bI bE)
     (ak (aY (PW.pt (fI (c7 (cF (ao (Ic T) hr .cb))) (g6 (c7 (cF (ao (Ic T) hr .cb)))))) .bI bE)
     (av (aA (e_ (jF CO .O ar .cG) (gL (ji K hu (ao (yI T) hr (ae (dE oR rfl T.h0o oV .cb) .cb)) ar)))))))
 obtain@⟨d,hd,q⟩:=h;k_few
 . rename_i e
   rw[zv3 e]at q;exact q
 . rename_i e
   obtain⟨ds,rfl⟩:=TL.mp e;refine nS hd ?_;k_few
   . rename_i e
     rw[zwn ()]at q;exact q
   . rename_i e
     obtain⟨d0,d1,rfl⟩:∃d0 d1,ds=[d0,d1]:=by
       match ds,e with
       | [d0,d1],_=>exact⟨d0,d1,rfl⟩
       | [],e=>simp at e
       | [_],e=>simp at e
       | _::_::_::_,e=>simp at e;lia
     refine aD (j:=0) hd rfl (λy0 h0=>?_);k_few
     . rename_i e
       rw[zta e]at q;exact q
     . rename_i e0
       obtain⟨i,rfl⟩:=Zk.mp e0;refine aD (j:=1) hd rfl (λy1 h1=>?_);k_few
       . rename_i e
         rw[zre e]at q;exact q
       . rename_i e1
         obtain⟨j,rfl⟩:=Zk.mp e1;refine aD (j:=1) hd rfl (λy2 h2=>?_);cases cj.mp h2;k_few
         . refine aD (j:=0) hd rfl (λy3 h3=>?_)
           cases cj.mp h3;o_head aD (j:=1) hd rfl (λy4 h4=>?_);cases cj.mp h4;o_head zfw.v rfl rfl (by split<;>lia) () ?_;k_few
           have e3:cz (.tuple [.int i,.int j])=decide ((vT (if i<0 then -i else i) j:Nat)=(1:Int)):=by
             have e4:vT (if i<0 then -i else i) j=vT i j:=by
               split<;>simp
             rw[e4]
             show jq i j=_
             rename_i e5;simp only[jq,e5,decide_true,W3];rw[vI,decide_eq_true_eq,decide_eq_true_eq];lia
           rw[e3]at q;exact q
         . rename_i e5
           have e3:cz (.tuple [.int i,.int j])=false:=by
             show jq i j=false
             simp only[jq,e5,decide_false,WO]
           rw[e3]at q;exact q
inductive Tv(K:wa)(v w:V)(H:Hp)(Q:VK)(E:XK):Prop|v(h1:Is K H v (N U))(h2:Is K H w (N Z))(b1:af 179980 U)(b2:af 179980 Z)(q:Rs K H Q (N (U+Z)))
local macro_rules | `(tactic| wtm_at "gs")=>`(tactic| subst 1 4 Tv.v "is" "is" "bdr" "bdr")
theorem iV(T:.o):ms P w base T.hV 2 Tv:=by
 exists T.hV,["one","other","shared","top","divisor"],"c2",(ak (ay 2 jp (ao (yI T) hr (ae .O (ae .br ag))))
     (ak (ay 3 jp (az cv (az de .O (az .aj .br .au)) (az de .br (az .aj .O .au))))
     (ak (ay 4 jp (ao (yI T) hr (ae (dE oR rfl T.h0o oV (q1 3)) .cR)))
     (av (aA (aU (ae (az .aj .ak .cL) (ae (az de (az .aj .O .au) (az .aj .br .cL)) ag))))))))
 obtain@⟨x,y,hx,hy,⟨bx1,bx2⟩,⟨by1,by2⟩,q⟩:=h;have px:=den_pos x;have py:=den_pos y;have ps:=Bh x y;have pd:=Iu x y;have c1:rC 0 (gJ x y):=⟨by lia,yp bx2 (yq x y) px⟩;have c2:rC 0 (lJ x y):=⟨by lia,yp (yp bx2 (yq x y) px) (JE x y) ps⟩;have f1:=oB by2 (BN x y) ps;have f2:=oB bx2 (yq x y) ps;have f3:=oB by2 (qG (JE x y) (BN x y)) pd;o_head zfw.v rfl rfl () () ?_;rw[show((vT .ac .bF:Nat):Int)=gJ x y from rfl];k_few;rw[show x.num*(y.den:Int).fdiv (gJ x y)+y.num*(x.den:Int).fdiv (gJ x y)=nv x y from rfl];o_head zfw.v rfl rfl (by split<;>lia) () ?_;rw[Co,show((vT (nv x y) (gJ x y):Nat):Int)=lJ x y from rfl];k_few;exact dj (zDO x y) (zCh x y) q
inductive zt0(K:wa)(v w:V)(H:Hp)(Q:VK)(E:XK):Prop|v(h1:Is K H v (N U))(h2:Is K H w (N Z))(b1:af 179980 U)(b2:af 179980 Z)(q:Rs K H Q (N (U-Z)))
local macro_rules | `(tactic| wtm_at "gs")=>`(tactic| subst 1 4 zt0.v "is" "is" "bdr" "bdr")
theorem BE(T:.o):ms P w base T.sL 3 zt0:=by
 exists T.sL,["one","other"],"c2",(av (aA (ao (iV T) hr (ae .C (ae (aU (ae (fu fq .br) (ae .br ag))) ag)))))
 obtain@⟨x,y,hx,hy,bx,by',q⟩:=h;o_head dj (r:=-y) ∅ ∅ (λv H' s hv=>?_);o_head Tv.v (by wtm_at "is") hv bx (zDu by') (λw H'' s2 hw=>?_);rw[zwh]at hw;k_few;exact q w H'' (s.trans s2) hw
inductive Tu(K:wa)(v w:V)(H:Hp)(Q:VK)(E:XK):Prop|v(h1:Is K H v (N U))(h2:Is K H w (N Z))(b1:af 179980 U)(b2:af 179980 Z)(q:Rs K H Q (N (U*Z)))
local macro_rules | `(tactic| wtm_at "gs")=>`(tactic| subst 1 4 Tu.v "is" "is" "bdr" "bdr")
theorem og(T:.o):ms P w base T.lS 2 Tu:=by
 exists T.lS,["one","other","first","second"],"c2",(ak (ay 2 jp (ao (yI T) hr (ae (dE oR rfl T.h0o oV .cb) (ae .br ag))))
     (ak (ay 3 jp (ao (yI T) hr (ae (dE oR rfl T.h0o oV (ae .br ag)) .cb)))
     (av (aA (aU (ae (az de (az .aj .O .au) (az .aj .br .ak)) (ae (az de (az .aj .O .ak) (az .aj .br .au)) ag)))))))
 obtain@⟨x,y,hx,hy,⟨bx1,bx2⟩,⟨by1,by2⟩,q⟩:=h;have px:=den_pos x;have py:=den_pos y;have p1:=pK x y;have p2:=pK y x;have c1:rC 0 (iX x y):=⟨by lia,yp by2 (pZ x y) py⟩;have c2:rC 0 (iX y x):=⟨by lia,yp bx2 (pZ y x) px⟩;have f1:=oB bx1 (z_ x y) p1;have f2:=oB by1 (z_ y x) p2;have f3:=oB bx2 (pZ y x) p2;have f4:=oB by2 (pZ x y) p1;o_head zfw.v rfl rfl (by split<;>lia) () ?_;rw[Co,show((vT x.num .bF:Nat):Int)=iX x y from rfl];o_head zfw.v rfl rfl (by split<;>lia) () ?_;rw[Co,show((vT y.num .ac:Nat):Int)=iX y x from rfl];k_few;exact dj (zCg x y) (zCr x y) q
inductive zxZ(K:wa)(v w:V)(H:Hp)(Q:VK)(E:XK):Prop|v(h1:Is K H v (N U))(h2:Is K H w (N Z))(b1:af 179980 U)(b2:af 179980 Z)(hy:Z≠0)(q:Rs K H Q (N (U / Z)))
theorem zx0(T:.o):ms P w base T.DM 3 zxZ:=by
 exists T.DM,["one","other","turned"],"c2",(ak (aY (dX K hu .br ar) (av FX) bE)
     (ak (ay 2 jp (sX (dB kS .br ar .cG) (aU (ae .br (ae .br ag))) (aU (ae (fu fq .br) (ae (fu fq .br) ag)))))
     (av (aA (ao (og T) hr (q2 0 2))))))
 obtain@⟨x,y,hx,hy,bx,by',hn,q⟩:=h;k_few
 . rename_i z
   exact absurd z (ye hn)
 . rename_i z0 z
   refine dj (r:=y⁻¹) (Bw z).1.symm (Bw z).2.symm .aJ;o_head Tu.v (hx.by S1) i1 bx (ZN by' hn) .aK;rw[<- Qk]at i2;k_few;exact q v2 H2 .aZ i2
 . rename_i z0 z
   have z:y.num<0:=by lia
   refine dj (r:=y⁻¹) (Bu z).1.symm (Bu z).2.symm .aJ;o_head Tu.v (hx.by S1) i1 bx (ZN by' hn) .aK;rw[<- Qk]at i2;k_few;exact q v2 H2 .aZ i2
inductive zxV(K:wa)(v w:V)(H:Hp)(Q:VK)(E:XK):Prop|v(h1:Is K H v (N U))(h2:Is K H w (N Z))(b1:af 179980 U)(b2:af 179980 Z)(q:Q (.bl (decide (U<Z))) H)
local macro_rules | `(tactic| wtm_at "gs")=>`(tactic| subst 1 0 zxV.v "is" "is" "bdr" "bdr")
theorem jy(T:.o):ms P w base T.iN 1 zxV:=by
 exists T.iN,["one","other"],"c2",(av (aA (jF lF (az de .O .br) (az de .br .O) .cG)))
 obtain@⟨x,y,hx,hy,⟨bx1,bx2⟩,⟨by1,by2⟩,q⟩:=h;k_few;rw[Zh];exact q
def yL(x:Rat):Bool:=decide (0<x)&&(!decide (4<x))&&decide (.ac<=8)
inductive YT(K:wa)(v:V)(H:Hp)(Q:VK)(E:XK):Prop|v(h:Is K H v (N U))(b:af 80000 U)(q:Q (.bl (yL U)) H)
local macro_rules | `(tactic| wtm_at "gs")=>`(tactic| subst 1 0 YT.v "is" "bdr")
theorem zsI(T:.o):kw P w base T.Mn 2 YT:=by
 exists T.Mn,["a"],"c1",(av (aA (e_ (ao (jy T) hr (ae .y .ck)) (e_ (rG (ao (jy T) hr (ae (cJ (v:=.ref a.Dh) rfl T.aaa rfl) .ck))) (gL (jF oN .O (oQ rfl T.aae) .cG))))))
 obtain@⟨x,hx,bx,q⟩:=h;unfold yL at q;k_few
 ·rename_i h1 h2
  rw[decide_eq_true h1,decide_eq_false h2]at q;exact q
 ·rename_i h1 h2
  rw[decide_eq_true h1,decide_eq_true h2]at q;exact q
 ·rename_i h1
  rw[decide_eq_false h1]at q;exact q
def yt(x:Rat):Bool:=(!decide (x<0))&&(!decide (1<x))&&decide (.ac<=12)
inductive R5(K:wa)(v:V)(H:Hp)(Q:VK)(E:XK):Prop|v(h:Is K H v (N U))(b:af 80000 U)(q:Q (.bl (yt U)) H)
local macro_rules | `(tactic| wtm_at "gs")=>`(tactic| subst 1 0 R5.v "is" "bdr")
theorem zt7(T:.o):kw P w base T.M_ 2 R5:=by
 exists T.M_,["b"],"c1",(av (aA (e_ (rG (ao (jy T) hr (ae .C (ae .y ag)))) (e_ (rG (ao (jy T) hr (ae .aa .ck))) (gL (jF oN .O (oQ rfl T.aag) .cG))))))
 obtain@⟨x,hx,bx,q⟩:=h;unfold yt at q;k_few
 ·rename_i h1 h2
  rw[decide_eq_false h1,decide_eq_false h2]at q;exact q
 ·rename_i h1 h2
  rw[decide_eq_false h1,decide_eq_true h2]at q;exact q
 ·rename_i h1
  rw[decide_eq_true h1]at q;exact q
def pf(x y:Rat):Bool:=yL x&&yt y && !decide (x+y<1)
def G9(K:wa):Sp:=λvs H Q _=>∃x0 x1,vs=[x0,x1]/\((∃d e,Is K H x0 d/\Is K H x1 e/\(cz d&&cz e)=false/\Rq H Q .cn)\/(∃x y:Rat,Is K H x0 (N x)/\Is K H x1 (N y)/\af 1000 x/\af 1000 y/\Rq H Q (.bl (pf x y))))
theorem zq0{d:wF}{v w:V}(h1:.bA)(h2:Is K H w e)(n:(cz d&&cz e)=false)(q:Rq H Q .cn):G9 K [v,w] H Q E:=⟨_,_,rfl,.inl ⟨d,e,h1,h2,n,q⟩⟩
theorem zsr{v w:V}(h1:Is K H v (N x))(h2:Is K H w (N y))(b1:af 1000 x)(b2:af 1000 y)(q:Rq H Q (.bl (pf x y))):G9 K [v,w] H Q E:=⟨_,_,rfl,.inr ⟨x,y,h1,h2,b1,b2,q⟩⟩
theorem ztk(T:.o):dL P w base T.Mr 3 (G9 K):=by
 exists T.Mr,["a","b"],"b2",(ak (aY (PW.pt (fI (c7 (cF (ao (zev T) hr .ck))) (g6 (c7 (cF (ao (zev T) hr (q1 1))))))) .bI bE)
     (av (aA (e_ (ao (zsI T) hr .ck) (e_ (ao (zt7 T) hr (q1 1)) (gL (rG (ao (jy T) hr (ae (ao (iV T) hr .cl) (ae .aa ag))))))))))
 rcases h with⟨d,e,hd,he,hn,q⟩ | ⟨x,y,hx,hy,bx,by',q⟩
 . k_few
   . exact q _ .ar
   . exact q _ .ar
   . rename_i h1 h2
     exact absurd hn (by rw[h1,h2];decide)
 . unfold pf at q
   k_few
   . rename_i z;rw[tQ]at z;cases z
   . rename_i z;rw[tQ]at z;cases z
   . rename_i h1 h2 v H' S hv
     rw[h1,h2]at q;exact q _ S
   . rename_i h1 h2
     rw[h1,h2]at q;exact q _ .ar
   . rename_i h1
     rw[h1]at q;exact q _ .ar
def zys:wF->Bool
 | .tuple [d,e]=>!(cz d&&cz e)
 | _=>true
theorem zvh{d:wF}(h:zys (.tuple [d,e])=true):(cz d&&cz e)=false:=by
 have h:(!(cz d&&cz e))=true:=h;cases z:(cz d&&cz e)with
 | false=>rfl
 | true=>rw[z]at h;exact absurd h ⋯
def Ss(K:wa):Sp:=λvs H Q _=>∃x0,vs=[x0]/\((∃d,Is K H x0 d/\zys d=true/\Rq H Q .cn)\/(∃x y:Rat,Is K H x0 (R x y)/\af 1000 x/\af 1000 y/\Rq H Q (.bl (pf x y))))
theorem zwg{v:V}(h:Is K H v (R x y))(b1:af 1000 x)(b2:af 1000 y)(q:Rq H Q (.bl (pf x y))):Ss K [v] H Q E:=⟨_,rfl,.inr ⟨x,y,h,b1,b2,q⟩⟩
theorem zxu(T:.o):dL P w base T.Nv 4 (Ss K):=by
 exists T.Nv,["thing"],"b1",(av (aA (e_ (dE .cA rfl T.h0c ko (ae .C (ae (jR (v:=.ty "tuple") rfl T.h0i oD rfl) ag))) (e_ (ji K hu (cT K T.h0t .ck) ar) (gL (ao (ztk T) hr (ae .O .cb)))))))
 rcases h with⟨d,hd,hn,q⟩ | ⟨x,y,hr,bx,by',q⟩
 ·k_few
  ·rename_i e
   obtain⟨ds,rfl⟩:=TL.mp e;refine nS hd ?_;k_few
   ·rename_i e
    obtain⟨d0,d1,rfl⟩:∃d0 d1,ds=[d0,d1]:=by
     match ds,e with
     | [d0,d1],_=>exact⟨d0,d1,rfl⟩
     | [],e=>simp at e
     | [_],e=>simp at e
     | _::_::_::_,e=>simp at e;lia
    refine aD (j:=0) hd rfl (λy0 h0=>?_);o_head aD (j:=1) hd rfl (λy1 h1=>?_);o_head zq0 h0 h1 (zvh hn) (λH' S=>?_);k_few;exact q _ S
   ·exact q _ .ar
  ·exact q _ .ar
 ·k_few
  refine zsr .bJ .bJ bx by' (λH' S=>?_);k_few;exact q _ S
def yE(x:Rat):Str:=if 1<x then "rising" else if x=1 then "even" else "falling"
inductive zyn(K:wa)(v:V)(H:Hp)(Q:VK)(E:XK):Prop|v(h:.bo)(b:af 80000 U)(q:Q (.str (yE U)) H)
theorem RE(T:.o):kw P w base T.DL 2 zyn:=by
 exists T.DL,["rule"],"c1",(ak (aY (cF (ao (jy T) hr (ae .aa .cb))) (av (aA fA)) bE)
     (ak (aY (dX K hu .O .aa) (av (aA fA)) bE)
     (av (aA fA))))
 obtain@⟨x,y,hx,bx,q⟩:=h;unfold yE at q;k_few
 . rename_i h1
   rw[if_pos h1]at q;exact q
 . rename_i h1 _ _ h2
   rw[if_neg h1,if_pos h2]at q;exact q
 . rename_i h1 _ _ h2
   rw[if_neg h1,if_neg h2]at q;exact q
inductive F9(K:wa)(v u:V)(H:Hp)(Q:VK)(E:XK):Prop|v{n:Int}(e1:u=.int n)(h1:.bo)(b1:af 80000 U)(b2:af 80000 Z)(h0:0<=n)(h64:n<=64)(f1:∀S,S<=n.toNat->af 80000 (U^S))(f2:∀S,S<=n.toNat->af 80000 (aB U Z S))(q:Rs K H Q (R (U^n.toNat) (aB U Z n.toNat)))
theorem F6{a:Rat}{n:Int}{v:V}(h1:Is K H v (R a b))(b1:af 10 a)(b2:af 10 b)(h0:0<=n)(h64:n<=64)(q:Rs K H Q (R (a^n.toNat) (aB a b n.toNat))):F9 K v (.int n) H Q E :=
 F9.v rfl h1 (b1.mono ⋯) (b2.mono ⋯) h0 h64 (λi hi=>(b1.pow i).mono ()) (λi hi=>(b1.aB b2 i).mono ()) q
theorem De(T:.o):ms P w base T.sI 3 F9:=by
 exists T.sI,["rule","many","factor","shift","done"],"c2",(ak (ay 2 jp .aa)
     (ak (ay 3 jp .y)
     (ak (fi vj rfl (gI rfl T.h0j (q1 1)) (cC (i:=4) jp rfl .s) (ak (ay 2 jp (ao (og T) hr (ae .O .cR)))
     (av (ay 3 jp (ao (iV T) hr (ae (ao (og T) hr (ae .O (q1 3))) .cb))))))
     (av (aA (aU (q2 2 3)))))))
 obtain@⟨r,s',n,rfl,hr',ba,bb,h0,h64,f1,f2,q⟩:=h;o_head jO (n:=n) () () (λi σ H'=>∃(f g:V)(o:.bD),σ = [some x0,some (.int n),some f,some g,o]/\au H H'/\Is K H' f (N (r^i))/\Is K H' g (N (aB r s' i))) ⟨_,_,_,rfl,au.refl H,by rw[Vz];exact rH.mpr ⟨_,rfl,T.zy H⟩,rH.mpr ⟨_,rfl,T.gg H⟩⟩ ?_ ?_
 . rintro i σ H' hi hz;obtain⟨f,g,o,rfl,S1,hf,hg⟩:=hz
   have hr1:=hr'.by S1;have bf:af 80000 (r^i):=f1 i ();have bg:af 80000 (aB r s' i):=f2 i ();have bg2:af 179980 (r*aB r s' i):=(ba.mul bg).mono ⋯;o_head ⟨_,_,_,rfl,S1.trans (au.trans .bJ (au.trans .bJ .bJ)),?_,?_⟩
   . rw[WV,V5]
     wtm_at "is"
   . wtm_at "is"
 . rintro σ H' hz;obtain⟨f,g,o,rfl,S1,hf,hg⟩:=hz
   wtm_at "ga";exact q _ _ (S1.trans .bJ) .bJ
inductive Sd(K:wa)(v w:V)(H:Hp)(Q:VK)(E:XK):Prop|v(h1:Is K H v (R f U))(h2:Is K H w (N Z))(b1:af 700 f)(b2:af 30000 U)(b3:af 162000 Z)(q:Rs K H Q (N (f*Z+U)))
theorem W_(T:.o):ms P w base T.Dv 3 Sd:=by
 exists T.Dv,["push","x"],"c2",(av (aA (ao (iV T) hr (ae (ao (og T) hr (ae .O (q1 1))) .cb))))
 obtain@⟨f,g,x,hp,hx,bf,bg,bx,q⟩:=h;k_few;rename_i hz;exact q _ _ (au.trans .bJ .bJ) hz
def A2(K:wa):Sp:=λvs H Q _=>∃x0,vs=[x0]/\((∃d,Is K H x0 d/\cz d=false/\Q .cn H)\/(∃x:Rat,Is K H x0 (N x)/\af 80000 x/\Q (.bl (mK x)) H))
theorem ztM{d:wF}{v:V}(h:.bA)(n:cz d=false)(q:Q .cn H):A2 K [v] H Q E:=⟨_,rfl,.inl ⟨d,h,n,q⟩⟩
theorem zuh{v:V}(h:Is K H v (N x))(b:af 80000 x)(q:Q (.bl (mK x)) H):A2 K [v] H Q E:=⟨_,rfl,.inr ⟨x,h,b,q⟩⟩
theorem zu7(T:.o):dL P w base T.MQ 3 (A2 K):=by
 exists T.MQ,["thing"],"b1",(ak (aY (PW.pt (fI (c7 (cF (ao (zev T) hr .ck))) (g6 (cF (ao (jy T) hr (ae .C (ae .y ag))))))) .bI bE)
     (av (aA (e_ (ao (jy T) hr (ae .C (ae .aa ag))) (gL (jF oN .O (oQ rfl T.aaf) .cG))))))
 rcases h with⟨d,hd,hn,q⟩ | ⟨x,hx,bx,q⟩
 . k_few
   . exact q
   . rename_i e;rw[hn]at e;cases e
 . unfold mK at q
   k_few
   . rename_i z;rw[tQ]at z;cases z
   . rename_i h1
     rw[decide_eq_true h1]at q;exact q
   . rename_i h1 h2
     rw[decide_eq_false h1,decide_eq_true h2]at q;exact q
   . rename_i h1 h2
     rw[decide_eq_false h1,decide_eq_false h2]at q;exact q
def iH:wF->Bool
 | .tuple [.int p,.int q]=>jq p q&&mK (wC p q)
 | _=>false
theorem Y0(x:Rat):iH (N x)=mK x:=by
 show(jq x.num x.den&&mK (wC x.num x.den))=mK x
 rw[Si,Vy,W3]
theorem zv4{d:wF}(h:cz d=true):∃x:Rat,d=N x:=by
 match d with
 | .tuple [.int p,.int q] =>
  obtain⟨r,e1,e2⟩:=zsR (show jq p q=true from h);exact⟨r,by rw[e1,e2];rfl⟩
 | .none=>simp[cz]at h
 | .bool _=>simp[cz]at h
 | .int _=>simp[cz]at h
 | .str _=>simp[cz]at h
 | .list _=>simp[cz]at h
 | .dict _=>simp[cz]at h
 | .tuple []=>simp[cz]at h
 | .tuple [_]=>simp[cz]at h
 | .tuple (_::_::_::_)=>simp[cz]at h
 | .tuple [.none,_]=>simp[cz]at h
 | .tuple [.bool _,_]=>simp[cz]at h
 | .tuple [.str _,_]=>simp[cz]at h
 | .tuple [.tuple _,_]=>simp[cz]at h
 | .tuple [.list _,_]=>simp[cz]at h
 | .tuple [.dict _,_]=>simp[cz]at h
 | .tuple [.int _,.none]=>simp[cz]at h
 | .tuple [.int _,.bool _]=>simp[cz]at h
 | .tuple [.int _,.str _]=>simp[cz]at h
 | .tuple [.int _,.tuple _]=>simp[cz]at h
 | .tuple [.int _,.list _]=>simp[cz]at h
 | .tuple [.int _,.dict _]=>simp[cz]at h
theorem zDK{d:wF}(h:cz d=false):iH d=false:=by
 unfold iH
 split
 ·rename_i p q
  rw[show jq p q=false from h];rfl
 ·rfl
theorem RT{d:wF}{v:V}(h:.bA)(b:∀x,d=N x->af 80000 x)(q:Q (.bl (iH d)) H):A2 K [v] H Q E:=by
 cases e:cz d with
 | false=>rw[zDK e]at q;exact ztM h e q
 | true =>
  obtain⟨x,rfl⟩:=zv4 e;rw[Y0]at q;exact zuh h (b x rfl) q
def Zb(K:wa):Sp:=λvs H Q _=>∃x0,vs=[x0]/\((∃d,Is K H x0 d/\(mV d || kD d)=false/\Rq H Q .cn)\/(∃ds,(Is K H x0 .cq\/Is K H x0 .aH)/\(∀e∈ds,∀x,e=N x->af 80000 x)/\Rq H Q (.bl (decide (1<=ds.length)&&decide (ds.length<=8)&&ds.all iH))))
theorem zqZ{v:V}(h:Is K H v .cq\/Is K H v .aH)(b:∀e∈ds,∀x,e=N x->af 80000 x)(q:Rq H Q (.bl (decide (1<=ds.length)&&decide (ds.length<=8)&&ds.all iH))):Zb K [v] H Q E:=⟨_,rfl,.inr ⟨ds,h,b,q⟩⟩
theorem zra(T:.o):dL P w base T.L8 4 (Zb K):=by
 exists T.L8,["thing"],"b1",(ak (aY (PW.pt (fI (c7 (cF (dE (show bN _ .ao (FI K)from zvU) rfl T.h0c ko (ae .C (ae (aU (ae (jR (v:=.ty "list") rfl T.h0m fS rfl) (ae (jR (v:=.ty "tuple") rfl T.h0i oD rfl) ag))) ag))))) (g6 (c7 (zAu oN oN ar (cT K T.h0t .ck) (oQ rfl T.aai)))))) .bI bE)
     (av (aA (dE (show bN _ (.builtin "all") (mX K)from pR rfl) rfl T.h0v pO (ae (eO rfl (dq ["one"] [none]) (Ho .C) .L .ah (λ_ _ _ _ _=>(ao (zu7 T:) hr .ck))) ag)))))
 rcases h with⟨d,hd,hn,q⟩ | ⟨ds,hd,bd,q⟩
 . k_few
   refine pP ∅ (λtp H1 _ S1 e1=>?_);o_head Ef (hd.by S1) e1 ?_;rw[hn];k_few;exact q H1 S1
 . rcases hd with hd | hd
   . k_few
     refine pP ∅ (λtp H1 _ S1 e1=>?_);o_head Ef (hd.by S1) e1 ?_;rw[show(mV .cq || kD .cq)=true from rfl];obtain⟨ap,us,rfl,hs,tu⟩:=bY.mp (hd.by S1);have hul:=tu.length;o_head eP hs ?_;rw[hul];k_few
     . rename_i z0 z
       have:=q H1 S1;rw[decide_eq_false (show ¬ ds.length<=8 by lia),xS,WO]at this;exact this
     . rename_i z0 z
       have h1:1<=ds.length:=by lia
       have h8:ds.length<=8:=by lia
       refine .inl (lM (o0:=none) (tl:=[]) hs rfl (λj y H'=>y=.bl (iH (ds.getD j .none))) ?_ ?_)
       . intro D i x ys o H2 hx inv
         obtain⟨hi,ix⟩:=kl tu hx;o_head RT (ix.by inv.same) (λx e=>bd _ (getD_mem hi) x e) ?_;k_few;exact eT inv () (λ_ _ _ _ _ z=>z) ⟨_,rfl⟩ .ar rfl
       . intro D ys H2 hn S2 hD hl hr
         have hys:ys=(ds.map iH).map V.bl:=by
           refine WS (by rw[hl,hul,wn,wn]) λj h1 h2=>?_
           have:=hr j ys[j] (we h1);rw[this,W2,W2,wb,we]
           rfl
         subst hys;o_head oK (.of hD) ?_;k_few;have e:(ds.map iH).all id=ds.all iH:=by rw[XC];rfl
         have:=q H2 .aZ;rw[decide_eq_true h1,decide_eq_true h8,<- e]at this;exact this
     . rename_i z
       have:=q H1 S1;rw[decide_eq_false (show ¬ 1<=ds.length by lia),WO,WO]at this;exact this
   . k_few
     refine pP ∅ (λtp H1 _ S1 e1=>?_);o_head Ef (hd.by S1) e1 ?_;rw[show(mV .aH || kD .aH)=true from rfl];obtain⟨ap,us,rfl,hs,tu⟩:=cA.mp (hd.by S1);have hul:=tu.length;o_head Rw hs ?_;rw[hul];k_few
     . rename_i z0 z
       have:=q H1 S1;rw[decide_eq_false (show ¬ ds.length<=8 by lia),xS,WO]at this;exact this
     . rename_i z0 z
       have h1:1<=ds.length:=by lia
       have h8:ds.length<=8:=by lia
       refine .inr (ke (o0:=none) (tl:=[]) hs rfl (λj y H'=>y=.bl (iH (ds.getD j .none))) ?_ ?_)
       . intro D i x ys o H2 hx inv
         obtain⟨hi,ix⟩:=kl tu hx;o_head RT (ix.by inv.same) (λx e=>bd _ (getD_mem hi) x e) ?_;k_few;exact eT inv () (λ_ _ _ _ _ z=>z) ⟨_,rfl⟩ .ar rfl
       . intro D ys H2 hn S2 hD hl hr
         have hys:ys=(ds.map iH).map V.bl:=by
           refine WS (by rw[hl,hul,wn,wn]) λj h1 h2=>?_
           have:=hr j ys[j] (we h1);rw[this,W2,W2,wb,we]
           rfl
         subst hys;o_head oK (.of hD) ?_;k_few;have e:(ds.map iH).all id=ds.all iH:=by rw[XC];rfl
         have:=q H2 .aZ;rw[decide_eq_true h1,decide_eq_true h8,<- e]at this;exact this
     . rename_i z
       have:=q H1 S1;rw[decide_eq_false (show ¬ 1<=ds.length by lia),WO,WO]at this;exact this
theorem zyO{a:Rat}(h:.aS):pf a b=true:=by
 obtain⟨h1,h2,h3,h4,h5,h6,h7⟩:=h;have k2:¬ (4:Rat)<a:=W4.mpr h2;have k4:¬ b<0:=W4.mpr h4;have k5:¬ (1:Rat)<b:=W4.mpr h5;have k7:¬ a+b<1:=W4.mpr h7;have k3:.E<=8:=by lia
 have k6:.bc<=12:=by lia
 simp[pf,yL,yt,h1,k2,k3,k4,k5,k6,k7]
theorem zFy(h:∀x∈xs,f_ x):(xs.map N).all iH=true:=by
 rw[Wq];intro d hd;obtain⟨x,hx,rfl⟩:=wW.mp hd;rw[Y0];exact(h x hx).is
theorem zCx(h:∀x∈xs,f_ x):∀e∈xs.map N,∀x,e=N x->af 80000 x:=by
 intro e he x hx;obtain⟨y,hy,rfl⟩:=wW.mp he;rw[<- zF6 hx];exact(h y hy).eH.mono ⋯
inductive znU(K:wa)(v w:V)(H:Hp)(Q:VK)(E:XK):Prop|v(h1:.bo)(ok:aK U Z)(h2:Is K H w (LN S)\/Is K H w (TN S))(h3:1<=S.length)(h4:S.length<=8)(h5:∀W∈S,f_ W)(q:Rs K H Q (bG U Z S))
theorem RD(T:.o):ms P w base T.DA 5 znU:=by
 exists T.DA,["rule","phases"],"c2",(ak (aY (c7 (cF (ao (zxu T) hr .ck))) (av FX) bE)
     (ak (aY (c7 (cF (ao (zra T) hr (q1 1)))) (av FX) bE)
     (av (aA (aU (ae .C (ae (fM K T.h0i (q1 1)) ag)))))))
 obtain@⟨ra,rb,xs,hr,ok,hp,h1,h8,hph,q⟩:=h;o_head zwg hr (ok.ba.mono ⋯) (ok.bb.mono ⋯) (λH1 S1=>?_);rw[zyO ok];k_few;have hp1:Is K H1 x1 (LN xs)\/Is K H1 x1 (TN xs):=hp.imp (λz=>z.by S1) (λz=>z.by S1);refine zqZ (ds:=xs.map N) hp1 (zCx hph) (λH2 S2=>?_);rw[zFy hph,wn,decide_eq_true h1,decide_eq_true h8,show(true&&true&&true)=true from rfl];have hp2:Is K H2 x1 (LN xs)\/Is K H2 x1 (TN xs):=hp1.imp (λz=>z.by S2) (λz=>z.by S2);have hr2:Is K H2 x0 (R ra rb):=(hr.by S1).by S2;k_few;rcases hp2 with z | z
 . refine iI z (λw H3 S3 i3=>?_)
   o_head cW (ds:=[R ra rb,TN xs]) ∅ (.cons (hr2.by S3) (.cons i3 .nil)) (λv H4 S4 i4=>?_);exact q v H4 (S1.trans (S2.trans .ca)) i4
 . refine Tr z ?_
   o_head cW (ds:=[R ra rb,TN xs]) ∅ (.cons hr2 (.cons z .nil)) (λv H4 S4 i4=>?_);exact q v H4 (S1.trans (S2.trans S4)) i4
inductive Zt(K:wa)(v:V)(H:Hp)(Q:VK)(E:XK):Prop|v(h:Is K H v (LN U)\/Is K H v (TN U))(h1:1<=U.length)(b:∀Z,af 80000 (U.getD Z 0))(q:∀v,Is K H v (N (bQ U))->Q v H)
theorem Ro(T:.o):kw P w base T.DB 2 Zt:=by
 exists T.DB,["phases","told","phase"],"c1",(ak (ay 1 jp .O)
     (ak (fi vj rfl (Ho .C) (cC (i:=2) jp rfl .s) (av (aY (cF (ao (jy T) hr (q2 1 2))) (av (ay 1 jp .au)) bE)))
     (av (aA .X))))
 obtain@⟨xs,hx,h1,bx,q⟩:=h;rcases hx with hx | hx
 . obtain⟨ap,us,rfl,hs,tu⟩:=bY.mp hx
   have hul:us.length=xs.length:=by rw[tu.length,wn]
   o_head jc hx ⋯ () (λv0 i0=>?_);have i0:Is K H v0 (N (mx (xs.getD 0 0) [])):=i0;o_head .inl (ow hs (λi σ H'=>∃o v,σ = [some (.ref ap),some v,o]/\H'=H/\Is K H v (N (mx (xs.getD 0 0) (xs.take i)))) ⟨_,v0,rfl,rfl,by rw[qY];exact i0⟩ (λi σ H' _ h=>by obtain⟨_,_,_,rfl,_⟩:=h;exact hs) ?_ ?_)
   . rintro i x σ H' hx' hz;obtain⟨o,v,rfl,rfl,iv⟩:=hz
     obtain⟨hi,ix⟩:=cO tu hx';have b1:=B1 bx h1 i;have b2:=bx i;k_few
     . rename_i z
       exact⟨_,x,rfl,rfl,by rw[iJ hi,nN,if_pos z];exact ix⟩
     . rename_i z
       exact⟨_,v,rfl,rfl,by rw[iJ hi,nN,if_neg z];exact iv⟩
   . rintro σ H' hz;obtain⟨o,v,rfl,rfl,iv⟩:=hz
     rw[hul,Wm]at iv;k_few;exact q v iv
 . obtain⟨ap,us,rfl,hs,tu⟩:=cA.mp hx
   have hul:us.length=xs.length:=by rw[tu.length,wn]
   o_head x_ hx ⋯ () (λv0 i0=>?_);have i0:Is K H v0 (N (mx (xs.getD 0 0) [])):=i0;o_head .inr (Ys hs (λi σ H'=>∃o v,σ = [some (.ref ap),some v,o]/\H'=H/\Is K H v (N (mx (xs.getD 0 0) (xs.take i)))) ⟨_,v0,rfl,rfl,by rw[qY];exact i0⟩ (λi σ H' _ h=>by obtain⟨_,_,_,rfl,_⟩:=h;exact hs) ?_ ?_)
   . rintro i x σ H' hx' hz;obtain⟨o,v,rfl,rfl,iv⟩:=hz
     obtain⟨hi,ix⟩:=cO tu hx';have b1:=B1 bx h1 i;have b2:=bx i;k_few
     . rename_i z
       exact⟨_,x,rfl,rfl,by rw[iJ hi,nN,if_pos z];exact ix⟩
     . rename_i z
       exact⟨_,v,rfl,rfl,by rw[iJ hi,nN,if_neg z];exact iv⟩
   . rintro σ H' hz;obtain⟨o,v,rfl,rfl,iv⟩:=hz
     rw[hul,Wm]at iv;k_few;exact q v iv
inductive YA(K:wa)(w u:V)(H:Hp)(Q:VK)(E:XK):Prop|v(h1:Is K H w (TN U))(h2:Is K H u (N v))(hl:U.length<=900)(q:∀u Z,au H Z->Is K Z u (TW (fm U v))->Q u Z)
theorem zuc(T:.o):ms P w base T.MN 1 YA:=by
 exists T.MN,["phases","phase"],"c2",(av (aA (fM K T.h0i (ae (eO rfl (dq ["worm","own","phase"] [none,none,some 1]) (zub rfl T.h0d .ck) (λ_ _ _ _ _=>by exact(show PG _ _ (m9 K 2 _)from gZ (n:=2) rfl (dg (cU 0) (dg (cU 1) gQ)))) (λ_ _ _ _ _=>(nq (dX K hu .X .au))) (λ_ _ _ _ _=>.C)) ag))))
 obtain@⟨xs,v,hx,hv,hl,q⟩:=h;obtain⟨ap,us,rfl,hu',tu⟩:=cA.mp hx;have hul:us.length=xs.length:=by rw[tu.length,wn]
 o_head zvM hu' (λD i ys σ' H'=>(∃o1 o2,σ'=[o1,o2,some x1])/\H D=none/\au H H'/\H' D=some (.lst (vz ((wr i).filter λw=>decide (xs.getD w 0=v))))) (λD H' n s e=>⟨⟨_,_,rfl⟩,n,s,e⟩) (λD i ys σ' H' h=>h.2.2.1.kY hu') ?_ ?_
 ·rintro D i x ys σ' H1 c H2 hx' ⟨⟨o1,o2,rfl⟩,n,S1,e1⟩ hc S2 e2
  obtain⟨hi,ix⟩:=cO tu hx';have T2:=S1.trans S2;have ix2:=ix.by T2;have hv2:=hv.by T2;have e12:=S2 _ _ e1
  have hfl:((wr i).filter λw=>decide (xs.getD w 0=v)).length<=i:=by
   have:=Wl (λw=>decide (xs.getD w 0=v)) (wr i);rw[vv]at this;exact this
  refine mF (.of e2) rfl ?_;k_few
  ·rename_i z
   refine kF e12 (by rw[iW];lia) (λH6 E6 e6=>⟨⟨_,_,rfl⟩,n,T2.grow n E6,?_⟩);rw[mf (n:=i),decide_eq_true z,if_pos rfl,u_];exact e6
  ·rename_i z
   refine⟨[],⟨_,_,rfl⟩,n,T2,?_⟩;rw[mf (n:=i),decide_eq_false z,if_neg ⋯,Wh];exact e12
 ·rintro D ys σ' H1 hz;obtain⟨_,n,S1,e1⟩:=hz
  rw[hul]at e1;o_head yZ (.of e1) (λl H2 n2 S2 e3=>?_);exact q _ H2 .aZ (CJ.mpr ⟨l,rfl,.of e3⟩)
inductive zsp(K:wa)(v:V)(H:Hp)(Q:VK)(E:XK):Prop|v(h:Is K H v (bG U Z S))(h8:S.length<=8)(bx:∀W,af 80000 (S.getD W 0))(q:∀l Y D,H l=none->au H Y->Y l=some (.lst D)->ah K Y D ((aj S).map (mJ S))->Q .az Y)
theorem IG(b:∀i,af m .an)(h:x∈xs):af m x:=by
 obtain⟨j,hj,rfl⟩:=vA h;have:=b j;rw[wb,we hj]at this;exact this
theorem zzT{β:Type}(f : α -> β)(l:.cc):(!(l.map f).isEmpty) = !l.isEmpty:=by cases l<;>rfl
theorem zrB(T:.o):kw P w base T.DF 3 zsp:=by
 exists T.DF,["swarm","told","left","phase"],"c1",(ak (ay 1 jp (cZ ag))
     (ak (ay 2 jp (gu .R rfl T.h0m fS .cb))
     (ak (nI vj (AR .au) (ak (ay 3 jp (ao (Ro T) hr .cR))
     (ak (jP (jD vP vV vW jk .X (ae (aU (ae .ak (ae (ao (zuc T) hr (ae .O (q1 3))) ag))) ag)))
     (av (kO (i:=2) jp rfl .s rfl (dq ["other","phase"] [none,some 3]) (fT .au) .L (λ_ _ _ _ _=>(nq (iD K hu .C .X))) (λ_ _ _ _ _=>.C))))))
     (av (aA .X)))))
 obtain@⟨ra,rb,xs,hw,h8,bx,q⟩:=h;o_head c9 ∅ (λlt H1 n1 S1 e1=>?_);o_head aD (j:=1) (hw.by S1) rfl (λvp ip=>?_);o_head mj ip (λll H2 us n2 S2 e2 t2=>?_);have nlt:ll≠lt:=λz=>by subst z;rw[e1]at n2;cases n2
 o_head rN (λm σ' H'=>∃(ll:wf)(left done:List Rat)(us ws:.x)(f:Nat)(o3:.bD),σ'=[some x0,some (.ref lt),some (.ref ll),o3]/\m=left.length/\au H H'/\ll≠lt/\H' lt=some (.lst ws)/\ah K H' ws (done.map (mJ xs))/\H' ll=some (.lst us)/\ah K H' us (left.map N)/\(∀y∈left,y∈xs)/\left.length<=f/\done.length+left.length<=xs.length/\done++ig f left=aj xs) _ ⟨ll,xs,[],us,[],xs.length,_,rfl,rfl,S1.trans S2,nlt,S2 _ _ e1,.nil,e2,t2,λy h=>h,wu _,by simp,rfl⟩ ?_;rintro m σ' H3 hz;obtain⟨ll,left,done,us,ws,f,o3,rfl,rfl,S3,nl,et,tt',el,tl',sub,hf,hdl,heq⟩:=hz;o_head Fv (cw el tl') ?_;rw[zzT]
 by_cases he:left=[]
 . rw[show(!left.isEmpty)=false by rw[he];rfl]
   refine rO ?_;rw[he,zc,Wh]at heq;rw[heq]at tt';k_few;exact q lt H3 ws n1 S3 et tt'
 . rw [show (!left.isEmpty) = true by cases left with
       | nil=>exact absurd rfl he
       | cons y l=>rfl]
   refine sy ?_;refine rV ?_;have hpos:=WL.mpr he
   have bl:∀i,af 80000 (left.getD i 0):=λi=>by
     rcases wJ i left.length with z | z
     . exact IG bx (sub _ (getD_mem z))
     . rw[wb,wQ z];exact af.zero.mono ⋯
   obtain⟨f',rfl⟩:∃f',f=f'+1:=⟨f-1,by lia⟩;rw[mZ he]at heq;have hless:=CL he;have hwl:=tt'.length;rw[wn]at hwl;o_head Zt.v (.inl (cw el tl')) hpos bl (λvm im=>?_);o_head jh (aF.of et) ?_;o_head aD (j:=1) (hw.by S3) rfl (λvq iq=>?_);o_head YA.v iq im () (λv4 H4 S4 i4=>?_);o_head cW (ds:=[N (bQ left),TW (fm xs (bQ left))]) ∅ (.cons (im.by S4) (.cons i4 .nil)) .bR;k_few;have T5:=S4.trans S5;refine jm (T5 _ _ et) () (λH6 E6 e6=>?_);have K6:=E6.keep (T5 _ _ et);have el6:=E6 _ _ nl (T5 _ _ el);have tl6:ah K H6 us (left.map N):=ah.keep (T5.keep.trans K6) _ _ (fh _) tl'
   have tt6:ah K H6 (ws++[v5]) ((done++[bQ left]).map (mJ xs)):=by
     rw[wU];exact(ah.keep (T5.keep.trans K6) _ _ (zzE ..) tt').snoc (i5.dw K6 (zx5 ..))
   have im6:=(im.by T5).dQ K6;have S6:au H H6:=(S3.trans T5).grow n1 E6;generalize hmx:bQ left=mxx at *;o_head sk (.of el6) (λD i ys σ' H'=>(∃o,σ'=[o,some vm])/\H6 D=none/\au H6 H'/\H' D=some .cj/\ah K H' ys (((left.take i).filter λy=>!decide (y=mxx)).map N)) (λD H' n s e=>⟨⟨_,rfl⟩,n,s,e,.nil⟩) (λD i ys σ' H' h=>h.2.2.1.seq (.of el6)) ?_ ?_
   . rintro D i x ys σ' H7 hx hz;obtain⟨⟨o,rfl⟩,n7,S7,e7,t7⟩:=hz
     obtain⟨hi,ix⟩:=cO tl6 hx;have ix7:=ix.by S7;have im7:=im6.by S7;have hyl:=t7.length;rw[wn]at hyl;have hfl:=Wl (λy=>!decide (y=mxx)) (left.take i);rw[Wf]at hfl;k_few
     . rename_i z
       refine kF e7 () (λH8 E8 e8=>⟨⟨_,rfl⟩,n7,S7.grow n7 E8,e8,?_⟩);have K8:=E8.keep e7;rw[iJ hi,Wy,WB,decide_eq_false z,wU];exact(ah.keep K8 _ _ (fh _) t7).append (.cons (ix7.dQ K8) .nil)
     . rename_i z
       refine⟨ys,⟨_,rfl⟩,n7,S7,e7,?_⟩;rw[iJ hi,Wy,WB,decide_eq_true (by first | exact z | exact Ws.mp z)];have:([]:List Rat).filter (λy=>!decide (y=mxx))=[]:=rfl
       simpa using t7
   . rintro D ys σ' H7 hz;obtain⟨_,n7,S7,e7,t7⟩:=hz
     have hul:=tl6.length;rw[wn]at hul;rw[hul,Wm]at t7;k_few;exact⟨(left.filter λy=>!decide (y=mxx)).length,by lia,D,_,done++[mxx],ys,ws++[v5],f',_,rfl,rfl,S6.trans S7,(λz=>by subst z;rw[e6]at n7;cases n7),S7 _ _ e6,ah.same S7 _ _ tt6,e7,t7,λy hy=>sub y (ve.mp hy).1,by lia,by rw[wM];simp only[vL];lia,by rw[Wr];exact heq⟩
inductive zkF(K:wa)(u v:V)(H:Hp)(Q:VK)(E:XK):Prop|v{lw:wf}(e0:u=.ref lw)(e:H lw=some (.lst (vz U)))(h:Is K H v (LN Z))(hw:∀S∈U,S<Z.length)(hl:U.length<=900)(b:∀W,af 80000 (Z.getD W 0))(q:Rs K H Q (TW (aC Z U)))
theorem zyU(ps:.a)(l:.bi):(aC ps l).length<=l.length:=Wl _ _
theorem PH(T:.o):ms P w base T.Dr 2 zkF:=by
 exists T.Dr,["worms","phases"],"c2",(av (aA (fM K T.h0i (ae (eO rfl (dq ["worm","phases"] [none,some 1]) (fT .C) .L (λ_ _ _ _ _=>(nq (c7 (cF (ao (jy T:) hr (ae (cB (show gP _ (dM K)from ck) .X .C .J) (ae .aa ag))))))) (λ_ _ _ _ _=>.C)) ag))))
 obtain@⟨left,ps,lw,rfl,e1,hx,hw,hl,bp,q⟩:=h;o_head sk (.of e1) (λD i ys σ' H'=>(∃o,σ'=[o,some x1])/\H D=none/\au H H'/\H' D=some (.lst (vz (aC ps (left.take i))))) (λD H' n s e=>⟨⟨_,rfl⟩,n,s,e⟩) (λD i ys σ' H' h=>h.2.2.1.seq (.of e1)) ?_ ?_
 ·rintro D i x ys σ' H1 hx' hz;obtain⟨⟨o,rfl⟩,n,S1,e2⟩:=hz
  obtain⟨hi,rfl⟩:=JA hx';have hx1:=hx.by S1;have hlt:=hw _ (vF hi);have bw:=bp left[i];have hle:=zyU ps (left.take i);have htl:(left.take i).length<=900:=by rw[Wf];lia
  o_head jc hx1 () () (λv iv=>?_);rw[wE]at iv;generalize hww:left[i]=ww at *;k_few
  ·rename_i z
   refine kF e2 (by rw[iW];lia) (λH6 E6 e6=>⟨⟨_,rfl⟩,n,S1.grow n E6,?_⟩);rw[ym hi,hww,zAw z,u_];exact e6
  ·rename_i z
   refine⟨[],⟨_,rfl⟩,n,S1,?_⟩;rw[ym hi,hww,zyN (by first | exact z | exact Ws.mp z)];exact e2
 ·rintro D ys σ' H1 hz;obtain⟨_,n,S1,e2⟩:=hz
  rw[iW,Wm]at e2;o_head yZ (.of e2) (λl H2 n2 S2 e3=>?_);exact q _ H2 .aZ (CJ.mpr ⟨l,rfl,.of e3⟩)
inductive Zz(K:wa)(v:V)(H:Hp)(Q:VK)(E:XK):Prop|v{W:Nat}(h:Is K H v (bG U Z S))(ba:af 10 U)(bb:af 10 Z)(h1:1<=S.length)(h8:S.length<=8)(c:Cm W S)(hm:W+2+21*S.length<=79000)(q:Rs K H Q (GD U Z S))
structure zFd(K:wa)(a b:Rat)(xs:.a)(m:Nat)(H H':Hp)(vw:V)(lp lv ll:wf)(left:List Nat)(ps:.a)(done:.be)(f:Nat)(pv wv:.x)(vwave:V):Prop where
 same:au H H'
 hp:H lp=none
 hv:H lv=none
 iw:Is K H' vw (N (1-bQ xs))
 kP:lp≠lv
 mC:ll≠lp
 Dg:ll≠lv
 ep:H' lp=some (.lst pv)
 tp:ah K H' pv (ps.map N)
 el:H' ll=some (.lst (vz left))
 ev:H' lv=some (.lst wv)
 tv:ah K H' wv (done.map TW)
 iv:Is K H' vwave (TW .aL)
 nd:left.Nodup
 lt:∀w∈left,w<xs.length
 len:ps.length=xs.length
 fl:left.length<=f
 dl:done.length+left.length<=xs.length
 cm:Cm (m+2+21*(xs.length-left.length)) ps
 w1:done++(dA a b f ps left).1=cE a b xs
 w2:(dA a b f ps left).2=(ff a b xs).2
def zyw(K:wa)(a b:Rat)(xs:.a)(m:Nat)(H:Hp)(x0 vw:V)(lp lv:wf)(k:Nat)(σ':L2.St)(H':Hp):Prop:=∃(ll:wf)(left:List Nat)(ps:.a)(done:.be)(f:Nat)(pv wv:.x)(vwave:V)(o6 o7:.bD),σ'=[some x0,some vw,some .bU,some (.ref ll),some (.ref lv),some vwave,o6,o7,none]/\k=left.length/\zFd K a b xs m H H' vw lp lv ll left ps done f pv wv vwave
theorem yT{o:HO}(h:H p=none)(k:H q=some o):p≠q:=λe=>by rw[e,k]at h;cases h
theorem zy2{β γ:Type}(f : α -> β)(g : β -> γ)(l:.cc):(!((l.map f).map g).isEmpty) = !l.isEmpty:=by cases l<;>rfl
theorem zAj{l:.cc}(h:l≠[]):(!l.isEmpty)=true:=by cases l with
 | nil=>exact absurd rfl h
 | cons x l=>rfl
theorem Js(T:.o):kw P w base T.zu 4 Zz:=by
 exists T.zu,["swarm","wait","phases","left","waves","wave","push","worm","anew"],"c1",(ak (ay 1 jp (ao (BE T) hr (ae .aa (ae (ao (Ro T) hr .cb) ag))))
     (ak (kO (i:=2) jp rfl .s rfl (dq ["phase","wait"] [none,some 1]) (kZ .O) .L .ah (λ_ _ _ _ _=>(ao (iV T:) hr .cl)))
     (ak (ay 3 jp (zsM rfl rfl T.h0m rfl T.h0j (ae (cT K T.h0t .cR) ag)))
     (ak (ay 4 jp (cZ ag))
     (ak (ay 5 jp (ao (PH T) hr (q2 3 2)))
     (ak (nI vj (AR .cI) (ak (jP (jD vP vV vW jk .cL (q1 5)))
     (ak (ay 3 jp (eO rfl (dq ["worm","wave"] [none,some 5]) (fT .ak) .L (λ_ _ _ _ _=>(nq (dB (show bV _ (vR .NotIn) (iM K true)from zb) .C .X .af))) (λ_ _ _ _ _=>.C)))
     (ak (ay 6 jp (ao (De T) hr (ae .O (ae (cT K T.h0t (q1 5)) ag))))
     (ak (fi vj rfl (fT .ak) (cC (i:=7) jp rfl .s) (av (fQ (ao (W_ T) hr (ae (pv 6) (ae (cB ck .au (pv 7) .J) ag))) (j3 .au (pv 7) jL))))
     (av (ay 5 jp (ao (PH T) hr (q2 3 2)))))))))
     (ak (kO (i:=8) jp rfl .s rfl (dq ["worm","phase","left"] [none,none,some 3]) (zBs rfl T.h0d .cR) (λ_ _ _ _ _=>by exact(show PG _ _ (m9 K 2 _)from gZ (n:=2) rfl (dg (cU 0) (dg (cU 1) gQ)))) .ah (λ_ _ _ _ _=>(sX (dB (show bV _ (vR .In) (iM K false)from Sb) .C .au .af) .X .y)))
     (av (aA (aU (ae .X (ae (fM K T.h0i (q1 4)) (ae (aU (ae .O (ae (fM K T.h0i (q1 8)) ag))) ag)))))))))))))
 obtain@⟨ra,rb,xs,m,hw,ba,bb,h1,h8,cm,hm,q⟩:=h;have bx:∀i,af 80000 .an:=λi=>(cm.get i).mono ()
 have bm:af 79000 (bQ xs):=(cm.eH (gY h1)).mono ();o_head aD (j:=1) hw rfl (λvp ip=>?_);o_head Zt.v (.inr ip) h1 bx (λvm im=>?_);k_few;rename_i vw H1 S1 iw;refine aD (j:=1) (hw.by S1) rfl (λvp1 ip1=>?_);obtain⟨ap,us,rfl,hu,tu⟩:=cA.mp ip1;refine ke (o0:=none) (tl:=[some vw]) hu rfl (λj y H'=>Is K H' y (N ((cb xs).getD j 0))) ?_ ?_
 . intro D i x ys o H2 hx inv
   obtain⟨hi,ix⟩:=cO tu hx;have S2:=inv.same;have ix2:=ix.by S2;have iw2:=iw.by S2;have bi:=bx i;have bw:af 79040 (1-bQ xs):=(af.one.sub bm).mono ⋯;k_few;rename_i v3 H3 S3 i3;exact eT inv () fz ⟨_,rfl⟩ S3 (by rw[DX hi];exact i3)
 . intro lp ys H2 hnp S2 hD hl hr
   have hl':ys.length=(cb xs).length:=by rw[hl,tu.length,wn,fX]
   have tp:ah K H2 ys ((cb xs).map N):=fG hl' hr;have iw2:=iw.by S2;have T2:=S1.trans S2;have hpH:H lp=none:=gH S1 hnp;clear hl hr hu tu ip1 ip im iw S1 S2 hnp;o_head BX (cw hD tp) ?_;rw[fX];o_head zy1 (n:=xs.length) () (λll H3 n3 S3 e3=>?_);o_head c9 ∅ (λlv H4 n4 S4 e4=>?_);k_few;have hD4:=S4 _ _ (S3 _ _ hD);have tp4:ah K H4 ys ((cb xs).map N):=ah.same .ca _ _ tp;have j_:Cm (m+2) .cd:=(Cm.rise (h:=0) (cm.hJ (ys:=0::xs) λy hy=>by rcases wO.mp hy with rfl | hy;(exact .inr rfl);exact .inl hy) (gY h1)).hJ λy hy=>.inl (wH _ hy)
   have b3:∀i,af 80000 ((cb xs).getD i 0):=λi=>(j_.get i).mono ()
   refine zkF.v rfl (S4 _ _ e3) (cw hD4 tp4) (λw hw'=>by rw[fX];exact wN.mp hw') (by rw[vv];lia) b3 (λvwave H5 S5 i5=>?_);have T5:=T2.trans (S3.trans .bj);have hvH:H lv=none:=gH (T2.trans S3) n4;have kP:lp≠lv:=(yT n4 (S3 _ _ hD)).symm;have mC:ll≠lp:=yT n3 hD;have Dg:ll≠lv:=(yT n4 e3).symm
   have G0:zyw K ra rb xs m H x0 vw lp lv xs.length [some x0,some vw,some .bU,some (.ref ll),some (.ref lv),some vwave,none,none,none] H5:=by
     refine⟨ll,wr xs.length,cb xs,[],xs.length,ys,[],vwave,none,none,rfl,by rw[vv],T5,hpH,hvH,iw2.by (S3.trans .bj),kP,mC,Dg,S5 _ _ hD4,ah.same S5 _ _ tp4,S5 _ _ (S4 _ _ e3),S5 _ _ e4,.nil,i5,W1,λw hw'=>wN.mp hw',fX xs,by rw[vv];exact wu _,by rw[vv];simp,j_.mono (),?_,rfl⟩;rw[qb];rfl
   clear T5 S5 S4 S3 T2 hD hD4 tp tp4 b3 j_ n3 n4 e3 e4 iw2 i5 hl';o_head rN (zyw K ra rb xs m H x0 vw lp lv) _ G0 ?_;clear G0 kP mC Dg;rintro k σ' H6 hz;obtain⟨ll,left,ps,done,f,pv,wv,vwave,o6,o7,rfl,hk,G⟩:=hz;have bp:∀i,af 80000 (ps.getD i 0):=λi=>(G.cm.get i).mono (by have:=G.dl;lia)
   o_head zDl (show Is K H6 vwave (.tuple (((aC ps left).map λ(w:Nat)=>(w:Int)).map PyData.int))from G.iv) ?_;rw[zy2]
   by_cases he:aC ps left=[]
   . rw[show(!(aC ps left).isEmpty)=false by rw[he];rfl]
     refine rO ?_;have w1:=G.w1;have w2:=G.w2;rw[pg he]at w1 w2;rw[Wh]at w1;have eps:ps=(ff ra rb xs).2.2:=congrArg X9 w2;have elf:left=(ff ra rb xs).2.1:=congrArg X8 w2;have hph:jJ left ps=dH ra rb xs:=by rw[dH,<- eps,<- elf]
     o_head zz3 (.of G.ep) (o0:=none) (o0':=none) (tl:=[some (.ref ll)]) rfl (λj y H'=>Is K H' y (N ((jJ left ps).getD j 0))) fz ?_ ?_
     . intro D i x zs o1 o2 H7 c hx inv hc
       obtain⟨hi,ix⟩:=cO G.tp hx;have S7:=inv.2.2.1;refine mF (.of hc) rfl ?_;o_head Yg (aF.of (S7 _ _ G.el)) ?_;k_few
       . rename_i z
         exact yk inv (by have:=G.len;lia) fz ⟨_,_,rfl⟩ .ar (by rw[nE hi,if_pos z];exact ix.by S7)
       . rename_i z
         exact yk inv (by have:=G.len;lia) fz ⟨_,_,rfl⟩ .ar (by rw[nE hi,if_neg z];exact fF 0 (T.gg _) rfl rfl)
     . intro D zs H7 hn S7 hD hl hr
       have hpl:=G.tp.length;rw[wn]at hpl;have tz:ah K H7 zs ((jJ left ps).map N):=fG (by rw[hl,Jo,hpl]) hr;rw[hph]at tz;have tv:=ah.same S7 _ _ G.tv;have ev:=S7 _ _ G.ev;have iw7:=G.iw.by S7;have T7:=G.same.trans S7;rw[w1]at tv;o_head iI (bY.mpr ⟨lv,wv,rfl,.of ev,tv⟩) .bv;o_head aD (j:=0) (hw.by (T7.trans S8)) rfl (λv9 i9=>?_);o_head iI (cw (S8 _ _ hD) (ah.same S8 _ _ tz)) .cH;o_head cW (ds:=[R ra rb,TN (dH ra rb xs)]) ∅ (.cons (i9.by S10) (.cons i10 .nil)) (λv11 H11 S11 i11=>?_);o_head cW (ds:=[N (1-bQ xs),p7 (cE ra rb xs),bG ra rb (dH ra rb xs)]) ∅ (.cons (iw7.by (S8.trans (S10.trans S11))) (.cons (i8.by (S10.trans S11)) (.cons i11 .nil))) (λv12 H12 S12 i12=>?_);exact q v12 H12 (T7.trans (S8.trans (S10.trans .cx))) i12
   . rw[zAj he]
     refine sy ?_;refine rV ?_;have hwl:=G.tv.length;rw[wn]at hwl;have hdl:=G.dl;have hlen:=Ac ps left;have hpos:0<(aC ps left).length:=WL.mpr he;o_head jh (aF.of G.ev) ?_;o_head jm G.ev () (λH7 E7 e7=>?_);have K7:aW H6 H7:=E7.keep G.ev;have S7:au H H7:=G.same.grow G.hv E7;have el7:=E7 _ _ G.Dg G.el;have ep7:=E7 _ _ G.kP G.ep;have tp7:=ah.keep K7 _ _ (fh _) G.tp;have iv7:=G.iv.dw K7 (Ag _);have iw7:=G.iw.dQ K7
     have tv7:ah K H7 (wv++[vwave]) ((done++[aC ps left]).map TW):=by
       rw[wU];exact(ah.keep K7 _ _ (rq _) G.tv).snoc iv7
     obtain⟨aw,rfl,hsw⟩:=CJ.mp iv7;o_head sk (.of el7) (λD i ys σ' H'=>(∃o,σ'=[o,some (.ref aw)])/\H7 D=none/\au H7 H'/\H' D=some (.lst (vz (cg (left.take i) .aL)))) (λD H' n s e=>⟨⟨_,rfl⟩,n,s,e⟩) (λD i ys σ' H' h=>h.2.2.1.seq (.of el7)) ?_ ?_
     . rintro D i x ys σ' H8 hx' hz;obtain⟨⟨o,rfl⟩,n,S8,e8⟩:=hz
       obtain⟨hi,rfl⟩:=JA hx';have hle:(cg (left.take i) .aL).length<=(left.take i).length:=Wl _ _;rw[Wf]at hle;o_head zwQ (S8.kY hsw) ?_;generalize hww:left[i]=ww at *;k_few
       . rename_i z
         refine kF e8 (by rw[iW];lia) (λH9 E9 e9=>⟨⟨_,rfl⟩,n,S8.grow n E9,?_⟩);rw[ym hi,hww,zzk z,u_];exact e9
       . rename_i z
         refine⟨[],⟨_,rfl⟩,n,S8,?_⟩;rw[ym hi,hww,zwb (by first | exact z | exact Ws.mp z)];exact e8
     . rintro D ys σ' H8 hz;obtain⟨_,n8,S8,e8⟩:=hz
       rw[iW,Wm]at e8;have nD1:D≠lp:=yT n8 ep7;have nD2:D≠lv:=yT n8 e7;have T8:=S7.trans S8;have iv8:=iv7.by S8;o_head aD (j:=0) (hw.by T8) rfl (λvr ir=>?_);o_head zuY iv8 ?_;o_head F6 ir ba bb () () (λvpush H9 S9 ipush=>?_);rw[wE]at ipush;have bf:af 700 .av:=(ba.pow _).mono ();have bg:af 30000 .ae:=(ba.aB bb _).mono ();have T9:=S8.trans S9;have ep9:=T9 _ _ ep7;have tp9:ah K H9 pv (ps.map N):=ah.same T9 _ _ tp7;have e9:=S9 _ _ e8;have ev9:=T9 _ _ e7;have ndl:=rF (wave:=aC ps left) G.nd;have ltl:=q_ (wave:=aC ps left) G.lt;generalize hL:cg left .aL=left' at *;o_head ow (.of e9) (λi σ'' H''=>∃o pv',σ''=[some x0,some vw,some .bU,some .bG,some (.ref lv),some (.ref aw),some vpush,o,none]/\Exc lp H9 H''/\H'' lp=some (.lst pv')/\ah K H'' pv' ((di .av .ae ps (left'.take i)).map N)) ⟨_,pv,rfl,Exc.refl _ _,ep9,tp9⟩ (λi σ'' H'' _ ⟨_,_,_,e,_⟩=>.of (e _ _ nD1 e9)) ?_ ?_
       . rintro i x σ'' H10 hx' hz;obtain⟨o,pv',rfl,E10,e10,t10⟩:=hz
         obtain⟨hi,rfl⟩:=JA hx';have K10:aW H9 H10:=E10.keep ep9;have hlt:=ltl _ (vF hi);have hpl:=jx .av .ae (left'.take i) ps;have hps:=G.len
         have bq:af 80000 ((di .av .ae ps (left'.take i)).getD left'[i] 0):=by
           have nt:(left'.take i).Nodup:=ndl.sublist (XM ..);rw[kb _ _ _ _ nt (λw hw'=>by rw[hps];exact ltl w (ug _ _ hw'))];rw[if_neg]
           . exact bp _
           . intro hm
             obtain⟨j,hj,ej⟩:=vA hm;rw[Wf]at hj;rw[XR]at ej;exact absurd ej ((Wo.mp ndl) j i () hi ())
         have ip10:=ipush.dw K10 (Ae _ _);generalize hww:left'[i]=ww at *;generalize hqs:di .av .ae ps (left'.take i)=qs at *;o_head jc (cw e10 t10) () () (λv11 i11=>?_);rw[wE]at i11;o_head Sd.v ip10 i11 bf bg (bq.mono ⋯) (λv12 H12 S12 i12=>?_);have e12:=S12 _ _ e10;have hvl:=t10.length;rw[wn]at hvl;o_head jC (j:=ww) e12 (by unfold fZ;rw[if_pos (),if_pos ()];simp) (λH13 E13 e13=>?_);refine⟨_,_,rfl,E10.trans (S12.exc.trans E13),e13,?_⟩;have K13:=E13.keep e12;rw[ym hi,hww,Zc,hqs];refine fG (by rw[Wv,Wv];exact hvl) (λj v hj=>?_);rw[W5]at hj
         by_cases hjw:ww=j
         . subst hjw
           rw[if_pos rfl,if_pos ()]at hj;cases hj;rw[y7 ()];exact i12.dQ K13
         . rw[if_neg hjw]at hj
           rw[yi hjw];obtain⟨_,ij⟩:=cO t10 hj;exact(ij.by S12).dQ K13
       . rintro σ'' H10 hz;obtain⟨o,pv',rfl,E10,e10,t10⟩:=hz
         rw[iW,Wm]at t10;have K10:aW H9 H10:=E10.keep ep9;have hps:=G.len
         have cm10:Cm (m+2+21*(xs.length-left'.length)) (di .av .ae ps left'):=by
           have c0:Cm (m+2+21*(xs.length-left.length)) (0::ps):=G.cm.hJ λy hy=>by rcases wO.mp hy with rfl | hy;(exact .inr rfl);exact .inl hy
           exact((c0.wave ba bb (aC ps left).length ndl (λw hw'=>by rw[hps];exact ltl w hw')).hJ λy hy=>.inl (wH _ hy)).mono ()
         have hpl:=jx .av .ae left' ps;have w1:=G.w1;have w2:=G.w2;have hfl:=G.fl;obtain⟨f',rfl⟩:∃f',f=f'+1:=⟨f-1,by lia⟩;rw[kx he,hL]at w1 w2;generalize hqs:di .av .ae ps left'=qs at *;k_few;have e10':=E10 _ _ nD1 e9;refine zkF.v rfl e10' (cw e10 t10) (λw hw'=>by rw[hpl,hps];exact ltl w hw') () (λi=>(cm10.get i).mono ()) (λvwave2 H11 S11 i11=>?_);k_few;have KA:=T9.keep.trans K10;refine⟨left'.length,by lia,D,left',qs,done++[aC ps left],f',pv',wv++[V.ref aw],vwave2,_,_,rfl,rfl,?_⟩;exact⟨((S7.trans T9).grow G.hp E10).trans S11,G.hp,G.hv,(iw7.dQ KA).by S11,G.kP,nD1,nD2,S11 _ _ e10,ah.same S11 _ _ t10,S11 _ _ e10',S11 _ _ (E10 _ _ G.kP.symm ev9),ah.same S11 _ _ (ah.keep KA _ _ (rq _) tv7),i11,ndl,ltl,by rw[hpl];exact hps,by lia,by rw[wM];simp;lia,cm10,by rw[Wr];exact w1,w2⟩
inductive zp4(K:wa)(v u:V)(H:Hp)(Q:VK)(E:XK):Prop|v{n:Int}(e1:u=.int n)(h:Is K H v (bG U Z S))(ba:af 10 U)(bb:af 10 Z)(h1:1<=S.length)(h8:S.length<=8)(n0:0<=n)(n1:n<=40)(c:∀W,W<=n.toNat->Cm 74000 (aE U Z S W::ai U Z S W))(q:∀l Y,H l=none->au H Y->Is K Y .az (.list (j2 U Z S n.toNat))->Q .az Y)
theorem zwG(T:.o):ms P w base T.Ny 5 zp4:=by
 exists T.Ny,["swarm","many","rows","hour","stand","done","told"],"c2",(ak (ay 2 jp (cZ ag))
     (ak (ay 3 jp .y)
     (ak (ay 4 jp .C)
     (ak (fi vj rfl (gI rfl T.h0j (q1 1)) (cC (i:=5) jp rfl .s) (ak (ay 6 jp (ao (Js T) hr (q1 4)))
     (ak (ay 3 jp (ao (iV T) hr (ae .ak (ae (qi 6) ag))))
     (ak (ay 4 jp (qi 6))
     (av (jP (jD vP vV vW jk .au (ae (aU (ae .ak (ae (qi 6) (ae (qi 4) ag)))) ag))))))))
     (av (aA .au))))))
 obtain@⟨ra,rb,xs,n,rfl,hw,ba,bb,h1,h8,n0,n1,cm,q⟩:=h;o_head c9 ∅ (λlr H1 nr S1 e1=>?_);o_head jO (n:=n) () () (λi σ H'=>∃vh vs o5 o6 us,σ = [some x0,some (.int n),some (.ref lr),some vh,some vs,o5,o6]/\au H H'/\H' lr=some (.lst us)/\ah K H' us (j2 ra rb xs i)/\Is K H' vh (N (aE ra rb xs i))/\Is K H' vs (bG ra rb .Z)) ⟨_,_,_,_,[],rfl,S1,e1,.nil,fF 0 (T.gg _) rfl rfl,hw.by S1⟩ ?_ ?_
 . rintro i σ H2 hi hz;obtain⟨vh,vs,o5,o6,us,rfl,S2,e2,t2,ih,iw⟩:=hz
   have hc:=cm i ();have hpl:=bS ra rb xs i;have bh:af 74000 (aE ra rb xs i):=hc.eH .bH;have hc':Cm 74000 .Z:=hc.hJ λy hy=>.inl (wH _ hy)
   have bw:af 74040 (1-bQ .Z):=(af.one.sub (hc'.eH (gY ()))).mono ⋯;o_head Zz.v iw ba bb () () hc' (by rw[hpl];lia) .as;o_head aD (j:=0) i3 rfl .cT;have ih3:=ih.by S3;k_few;rename_i v5 H5 S5 i5;refine aD (j:=2) (i3.by S5) rfl .cU;have T5:=S3.trans S5;o_head jh (aF.of (T5 _ _ e2)) ?_;o_head aD (j:=1) (i3.by S5) rfl (λv7 i7=>?_);o_head aD (j:=1) i6 rfl (λv8 i8=>?_);o_head cW (ds:=[N (aE ra rb xs (i+1)),p7 (cE ra rb .Z),TN (ai ra rb xs (i+1))]) ∅ (.cons i5 (.cons i7 (.cons i8 .nil))) (λv9 H9 S9 i9=>?_);k_few;have T9:=T5.trans S9;have e9:=T9 _ _ e2;have hul:=t2.length;rw[zyP]at hul;refine jm e9 () (λH10 E10 e10=>?_);have K10:=E10.keep e9;have i10:=i9.dw K10 (zvp _ _ _)
   have t10:ah K H10 (us++[v9]) (j2 ra rb xs (i+1)):=by
     rw[K0];exact(ah.keep K10 _ _ (zs4 ..) (ah.same T9 _ _ t2)).snoc i10
   exact⟨_,_,_,_,_,rfl,(S2.trans T9).grow nr E10,e10,t10,(i5.by S9).dQ K10,(i6.by S9).dw K10 (AX _ _ _)⟩
 . rintro σ H2 hz;obtain⟨vh,vs,o5,o6,us,rfl,S2,e2,t2,ih,iw⟩:=hz
   k_few;exact q lr H2 nr S2 (bY.mpr ⟨lr,us,rfl,.of e2,t2⟩)
def BD(a b:Rat)(xs:.a)(n:Nat):wF:=.tuple [N (aE a b xs n),bG a b (ai a b xs n)]
inductive Yr(K:wa)(v u:V)(H:Hp)(Q:VK)(E:XK):Prop|v{n:Int}(e1:u=.int n)(h:Is K H v (bG U Z S))(ba:af 10 U)(bb:af 10 Z)(h1:1<=S.length)(h8:S.length<=8)(n0:0<=n)(n1:n<=40)(c:∀W,W<=n.toNat->Cm 74000 (aE U Z S W::ai U Z S W))(q:Rs K H Q (BD U Z S n.toNat))
theorem jW{v:V}{d:wF}(h:Is K H v (.list (ds++[d])))(q:∀x,Is K H x d->Q x H):dM K v (.int (-1)) H Q:=by
 obtain⟨a,xs,rfl,hs,t⟩:=bY.mp h;have hl:=t.length;rw[wM,vL]at hl;obtain⟨x,e1,hx⟩:=t.get (i:=ds.length) (d:=d) (by rw[vC .ax,W6];rfl);exact jf hs (Hx (by rw[hl];exact e1)) (q x hx)
theorem zyF(T:.o):ms P w base T.Oe 6 Yr:=by
 exists T.Oe,["swarm","many","rows","last"],"c2",(ak (ay 2 jp (ao (zwG T) hr .cl))
     (ak (aY (c7 (AR .au)) (av (aA (aU (ae .y .ck)))) bE)
     (ak (ay 3 jp (cB ck .au .cs .J))
     (av (aA (aU (ae (qi 3) (ae (aU (ae .O (ae (qi 3) ag))) ag))))))))
 obtain@⟨ra,rb,xs,n,rfl,hw,ba,bb,h1,h8,n0,n1,cm,q⟩:=h;o_head zp4.v rfl hw ba bb h1 h8 n0 n1 cm (λlr H1 nr S1 i1=>?_);o_head Fv i1 ?_;generalize n.toNat=k at *;cases k with
 | zero =>
   rw[show(!(j2 ra rb xs 0).isEmpty)=false from rfl];o_head cW (ds:=[N 0,bG ra rb xs]) ∅ (.cons (fF 0 (T.gg _) rfl rfl) (.cons (hw.by S1) .nil)) (λv H2 S2 i2=>?_);exact q v H2 .aZ i2
 | succ k =>
   rw[K0]at i1;rw[show(!(j2 ra rb xs (k+1)).isEmpty)=true by rw[K0];simp];o_head jW i1 (λv2 i2=>?_);have i2:Is K H1 v2 (zQ (aE ra rb xs (k+1)) (cE ra rb (ai ra rb xs k)) (ai ra rb xs (k+1))):=i2;o_head aD (j:=0) i2 rfl (λv3 i3=>?_);o_head aD (j:=0) (hw.by S1) rfl .cT;o_head aD (j:=2) i2 rfl (λv5 i5=>?_);o_head cW (ds:=[R ra rb,TN (ai ra rb xs (k+1))]) ∅ (.cons i4 (.cons i5 .nil)) (λv6 H6 S6 i6=>?_);o_head cW (ds:=[N (aE ra rb xs (k+1)),bG ra rb (ai ra rb xs (k+1))]) ∅ (.cons (i3.by S6) (.cons i6 .nil)) (λv7 H7 S7 i7=>?_);exact q v7 H7 (S1.trans (S6.trans S7)) i7
inductive U9(K:wa)(v:V)(H:Hp)(Q:VK)(E:XK):Prop|v(h:Is K H v (bG U Z S))(q:Q (.bl (decide (0∈S))) H)
theorem EJ(T:.o):kw P w base T.zj 1 U9:=by
 exists T.zj,["swarm"],"c1",(av (aA (jF (show bV _ (vR .In) (tH K)from O1 hu) .y .O .af)))
 obtain@⟨ra,rb,xs,hw,q⟩:=h;o_head aD (j:=1) hw rfl (λvp ip=>?_);exact zCI (fF 0 (T.gg _) rfl rfl) ip q
def aH(xs:.a):List Rat:=(aj xs).dropLast
def Sy(xs:.a):wF:=.tuple [TZ .aq,TN .aT]
def Sw(K:wa)(a:Ad):Sp:=λvs H Q E=>∃x0,vs=[x0] /\ ∃(ra rb:Rat)(xs:.a),Is K H x0 (bG ra rb xs)/\xs.length<=8/\(∀i,af 80000 .an)/\(¬ 0∈xs->∀H',au H H'->E (.ref a.sH) none H')/\(0∈xs->Rs K H Q (Sy xs))
theorem CS{v:V}(h:Is K H v (bG ra rb xs))(h8:xs.length<=8)(bx:∀i,af 80000 .an)(qe:¬ 0∈xs->∀H',au H H'->E (.ref a.sH) none H')(q:0∈xs->Rs K H Q (Sy xs)):Sw K a [v] H Q E:=⟨_,rfl,ra,rb,xs,h,h8,bx,qe,q⟩
theorem Tc:∀(n:Nat)(l:.a),(ig n l).length<=n
 | 0,l=>wu _
 | n+1,[]=>by rw[zc];simp
 | n+1,x::l=>by
  rw[mZ ∅,Wi];have:=Tc n ((x::l).filter λy=>!decide (y=bQ (x::l)));lia
theorem CM(T:.o):ii P w base T.sM 4 (Sw K a):=by
 exists T.sM,["swarm","rows","sizes","places"],"y1",(ak (aY (c7 (cF (ao (EJ T) hr .ck))) (av (ztZ T.aao rfl rfl T.aap YG (ae fA ag))) bE)
     (ak (ay 1 jp (ao (zrB T) hr .ck))
     (ak (ay 2 jp (fM K T.h0i (ae (eO rfl (dq ["row"] [none]) (fT .X) .L .ah (λ_ _ _ _ _=>(cT K T.h0t (ae (sh (K:=K) ck .C) ag)))) ag)))
     (ak (ay 3 jp (fM K T.h0i (ae (eO rfl (dq ["row"] [none]) (fT (fN fK .X fW (fE .cs))) .L .ah (λ_ _ _ _ _=>(sh (K:=K) ck .C))) ag)))
     (av (aA (aU (q2 2 3))))))))
 obtain⟨ra,rb,xs,hw,h8,bx,qe,q⟩:=h;have hvl:(aj xs).length<=8:=Wt (Tc _ _) h8;o_head U9.v hw ?_;k_few
 . rename_i z
   exact⟨by simp;decide,qe z H .ar⟩
 . rename_i z
   have z:=(by first | exact z | exact Ws.mp z:0∈xs);refine zsp.v hw h8 bx (λlr H1 us n1 S1 e1 t1=>?_);have hul:=t1.length;rw[wn]at hul;o_head lM (.of e1) (o0:=none) (tl:=[]) rfl (λj y _=>y=.int ((aG xs).getD j 0)) ?_ ?_
   . intro D j x ys o H2 hx inv
     obtain⟨hj,ix⟩:=kl t1 hx;rw[wn]at hj;rw[wb,wA,we hj]at ix;have ix2:Is K H2 x (mJ xs (aj xs)[j]):=ix.by inv.same;o_head aD (j:=1) ix2 rfl (λv3 i3=>?_);o_head zuY i3 ?_;o_head eT inv () (λ_ _ _ _ _ h=>h) ⟨_,rfl⟩ .ar ?_;unfold aG;rw[wb,wA,we hj]
     rfl
   . intro D ys H2 hn S2 hD hl hr
     have hys:ys=(aG xs).map V.int:=Ug (by rw[hl,hul];unfold aG;rw[wn]) hr;subst hys;o_head yZ (.of hD) (λl3 H3 n3 S3 e3=>?_);have i3:Is K H3 (.ref l3) (TZ .aq):=yC.mpr ⟨l3,rfl,.of e3⟩;have T3:=S2.trans S3;o_head iE (bY.mpr ⟨lr,us,rfl,.of (T3 _ _ e1),ah.same T3 _ _ t1⟩) (λl4 H4 us4 n4 S4 e4 t4=>?_);rw[tS,<- Qg]at t4;o_head lM (.of e4) (o0:=none) (tl:=[]) rfl (λj y H'=>Is K H' y (N ((aH xs).getD j 0))) ?_ ?_
     . intro D' j x ys o H5 hx inv
       obtain⟨hj,ix⟩:=kl t4 hx;have hj2:j<(aH xs).length:=by rw[wn]at hj;exact hj
       have hj8:(aH xs).length<=8:=by unfold aH;rw[VW];lia
       rw[wb,wA,we (show j<(aj xs).dropLast.length from hj2)]at ix;have ix5:Is K H5 x (mJ xs .aT[j]):=ix.by inv.same;o_head aD (j:=0) ix5 rfl .cU;o_head eT inv () fz ⟨_,rfl⟩ .ar ?_;rw[wb,we hj2];exact i6
     . intro D' zs H5 hn5 S5 hD5 hl5 hr5
       have hu4:=t4.length;rw[wn]at hu4;have tz:ah K H5 zs ((aH xs).map N):=fG (by rw[hl5,hu4];rfl) hr5;o_head iI (cw hD5 tz) (λv6 H6 S6 i6=>?_);o_head cW (ds:=[TZ .aq,TN .aT]) ∅ (.cons (i3.by (S4.trans (S5.trans S6))) (.cons i6 .nil)) (λv7 H7 S7 i7=>?_);exact q z v7 H7 (S1.trans (T3.trans (S4.trans (S5.trans (S6.trans S7))))) i7
theorem zz0(h:.bM)(i j:Nat):af (m+2) (xs.getD i 0+(1-xs.getD j 0)):=by
 obtain⟨B,h0,h1,h2⟩:=h
 have key:∀i,∃t:Int,xs.getD i 0=wC t B/\Bd m t:=λi=>by
  rcases wJ i xs.length with q | q
  ·rw[wb,we q]
   exact h2 _ (vF q)
  ·rw[wb,wQ q]
   exact⟨0,by simp,⟨by simp;exact Wz m⟩⟩
 obtain⟨t,et,bt⟩:=key i;obtain⟨z,ez,bz⟩:=key j
 have e2:wC t B+(1-wC z B)=wC (t+B-z) B:=by
  symm
  refine gr () ?_;have q1:=dG t (show B≠0 by lia);have q2:=dG z (show B≠0 by lia);have q3:((t+B-z:Int):Rat)=(t:Rat)+(B:Rat)-(z:Rat):=by push_cast;rfl
  rw[q3,<- q1,<- q2]
  grind
 rw[et,ez,e2];exact af.divInt () (((bt.add h1).sub bz).mono ()) (h1.mono ())
def Zg(K:wa):Sp:=λvs H Q _=>∃x0 x1 x2 x3,vs=[x0,x1,x2,x3] /\ ∃(a b:Rat)(n i:Int)(xs:.a)(m:Nat),x1=.int n/\x3=.int i/\Is K H x0 (R a b)/\Is K H x2 (LN xs)/\af 10 a/\af 10 b/\0<=n/\n<=64/\0<=i/\i<xs.length/\xs.length<=100/\Cm m xs/\m<=160000 /\
 ∀l H' us,H l=none->au H H'->H' l=some (.lst us)->ah K H' us ((eS a b n.toNat xs i.toNat).map N)->Q .az H'
theorem znq{a:Rat}{n i:Int}{v w:V}(h1:Is K H v (R a b))(h2:Is K H w (LN xs))(b1:af 10 a)(b2:af 10 b)(h0:0<=n)(h64:n<=64)(i0:0<=i)(i1:.cp)(hl:xs.length<=100)(hm:.bM)(hm2:m<=160000)
  (q:∀l H' us,H l=none->au H H'->H' l=some (.lst us)->ah K H' us ((eS a b n.toNat xs i.toNat).map N)->Q .az H'):Zg K [v,.int n,w,.int i] H Q E:=⟨_,_,_,_,rfl,a,b,n,i,xs,m,rfl,rfl,h1,h2,b1,b2,h0,h64,i0,i1,hl,hm,hm2,q⟩
theorem zm1(T:.o):dL P w base T.Lq 4 (Zg K):=by
 exists T.Lq,["rule","size","phases","turn","wait","push","told"],"b4",(ak (ay 4 jp (ao (BE T) hr (ae .aa (ae (cB ck .au .ak .J) ag))))
     (ak (ay 5 jp (ao (De T) hr .cl))
     (ak (kO (i:=6) jp rfl .s rfl (dq ["phase","push","wait"] [none,some 5,some 4]) (fT .au) .L .ah (λ_ _ _ _ _=>(ao (W_ T:) hr (ae .X (ae (ao (iV T:) hr (q2 0 2)) ag)))))
     (ak (fQ .y (j3 (pv 6) .ak jL))
     (av (aA (pv 6)))))))
 obtain⟨a',b',n,i,xs,m,rfl,rfl,hr',hx,ba,bb,h0,h64,i0,i1,hl,hm,hm2,q⟩:=h;have bi:af 160000 (xs.getD i.toNat 0):=(hm.get _).mono hm2;have bw:af 160040 (1-xs.getD i.toNat 0):=(af.one.sub bi).mono ⋯;have bf:af 700 (a'^n.toNat):=(ba.pow n.toNat).mono ();have bg:af 30000 (aB a' b' n.toNat):=(ba.aB bb n.toNat).mono ();o_head jc hx i0 i1 (λv1 iv1=>?_);k_few;rename_i v2 H2 S2 iv2;refine F6 (hr'.by S2) ba bb h0 h64 (λv3 H3 S3 iv3=>?_);have T3:=S2.trans S3;have iv2':=iv2.by S3;have hx3:=hx.by T3;clear iv1 iv2 S2 S3 hx hr';k_few;obtain⟨lx,vs,rfl,hs,t⟩:=bY.mp hx3;refine lM hs (o0:=none) (tl:=[some v3,some v2]) rfl (λj v H=>Is K H v (N ((xs.map λx=>push a' b' n.toNat (x+(1-xs.getD i.toNat 0))).getD j 0))) ?_ ?_
 . rintro D j x ys o H1 hx' inv
   obtain⟨hj,ix⟩:=cO t hx';have ix1:=ix.by inv.same;have jv2:=iv2'.by inv.same;have jv3:=iv3.by inv.same;have bx:af 160000 (xs.getD j 0):=(hm.get j).mono hm2;k_few;rename_i v4 H4 S4 iv4;refine Sd.v (jv3.by S4) iv4 bf bg ((zz0 hm j i.toNat).mono ()) (λv5 H5 S5 iv5=>?_);exact eT inv () fz ⟨_,rfl⟩ .bj (by rw[p9 hj,je];exact iv5)
 . rintro D ys H4 hn S4 e4 hl4 hr4
   have hvl:=t.length;rw[wn]at hvl;have hyl:ys.length=xs.length:=by lia
   clear hs t hx3 iv2' iv3;o_head jC (j:=i.toNat) e4 (by unfold fZ;rw[if_pos i0,if_pos ()]) (λH5 E5 e5=>?_);k_few;have hD:=gH T3 hn;refine q D H5 _ hD ((T3.trans S4).grow hD E5) e5 (fG (by rw[Wv,jT];exact hyl) λj v hv=>?_);rw[W5]at hv
   by_cases hij:i.toNat=j
   . subst hij
     rw[if_pos rfl,if_pos ()]at hv;cases hv;rw[ja _ _ _ _ _ _ (),if_pos rfl];exact fF 0 (T.gg _) rfl rfl
   . rw[if_neg hij]at hv
     have hj:j<xs.length:=by
       rcases wJ j ys.length with z | z
       . lia
       . rw[wQ z]at hv;cases hv
     have hz:=hr4 j v hv;rw[p9 hj]at hz;rw[ja _ _ _ _ _ _ hj,if_neg (WN hij)];exact hz.dQ (E5.keep e4)
structure dF(a b:Rat)(ns:.p)(xs:.a):Prop where
 ba:af 10 a
 bb:af 10 b
 n0:∀n∈ns,0<=n/\n<=64
 len:ns.length=xs.length+1
 bC:ns.length<=50
 cm:∃m,Cm m xs/\m+2*ns.length+21*upTo ns ns.length<=160000
theorem J3 : ∀{k j:Nat},k<=j->j<=ns.length->upTo ns k<=upTo ns j:=by
 intro k j hk
 induction j with
 | zero => intro _; have : k = 0 := by lia
           subst this;exact wu _
 | succ j ih =>
   intro hj;rcases wJ k (j+1)with z | z
   . rw[pU ()]
     have:=ih () ();lia
   . have:k=j+1:=by lia
     subst this;exact wu _
theorem dF.row{a:Rat}(h:dF a b ns xs)(hk:k<=ns.length):∃m,Cm m (aQ a b ns .aV k)/\m<=160000:=by
 obtain⟨m,hm,hm2⟩:=h.cm;refine⟨_,(hm.snoc).rows h.ba h.bb k hk,?_⟩;have:=J3 (ns:=ns) hk .ax;lia
def sA(a b:Rat)(ns:.p)(xs:.a):List (List Rat):=(wr (ns.length+1)).map (aQ a b ns .aV)
theorem yQ(a b:Rat)(ns:.p)(xs:.a):(sA a b ns xs).length=ns.length+1:=by simp[sA]
theorem zW{a:Rat}(h:k<=ns.length):(sA a b ns xs).getD k []=aQ a b ns .aV k:=by
 unfold sA;rw[wb,wA,vZ ()]
 rfl
inductive Yj(K:wa)(v w u:V)(H:Hp)(Q:VK)(E:XK):Prop|v(h1:.bo)(h2:Is K H w (TZ S))(h3:Is K H u (TN W))(ok:dF U Z S W)(q:∀l Y,au H Y->Is K Y .az (LL (sA U Z S W))->Q .az Y)
theorem GQ(T:.o):pc P w base T.zq 5 Yj:=by
 exists T.zq,["rule","sizes","places","told","turn","size"],"c3",(ak (ay 3 jp (cZ (ae (az cv (gu .R rfl T.h0m fS .cR) (cZ (ae .y ag))) ag)))
     (ak (fi vj rfl (zub rfl T.h0d (q1 1)) (gZ (n:=2) rfl (dg (cC (i:=4) jp rfl .s) (dg (cC (i:=5) jp rfl .s) gQ))) (av (jP (jD vP vV vW jk .ak (ae (ao (zm1 T) hr (by exact(@ae _ _ _ _ _ .C (@ae _ _ _ _ _ .cI (@ae _ _ _ _ _ (cB ck .ak .cL .J) (@ae _ _ _ _ _ .cL ag bM) gj) bM) bM))) ag)))))
     (av (aA .ak))))
 obtain@⟨a',b',ns,xs,hr',hn',hp',ok,q⟩:=h;have hlen:=ok.len;have hfew:=ok.bC;o_head mj hp' (λl1 H1 us hl1 S1 e1 t1=>?_);have hul:=t1.length;rw[wn]at hul;o_head c9 ∅ (λl2 H2 hl2 S2 e2=>?_);refine gv (S2 _ _ e1) e2 (WM (iS .aw)) (λl3 H3 hl3 S3 e3=>?_);o_head c9 ∅ (λlt H4 hlt S4 e4=>?_);have T4:au H H4:=S1.trans (S2.trans .ca);have e3':=S4 _ _ e3;have ne43:l3≠lt:=λz=>by subst z;rw[e3]at hlt;cases hlt
 have t3:ah K H4 (us++[V.ref a.dY]) ((xs++[0]).map N):=by
   rw[wU];exact(ah.same (S2.trans .ca) _ _ t1).append (.cons (fF 0 (T.gg _) rfl rfl) .nil)
 have hD:=gH (S1.trans .bL) hlt;clear hl1 hl2 hl3 S1 S2 S3 S4 e1 e2 e3 t1 hlt;k_few;obtain⟨an,rfl,hsn⟩:=yC.mp hn'
 refine zzi (T4.kY hsn) (λk σ H'=>∃o1 o2 vs,σ = [some x0,some (.ref an),some x2,some (.ref lt),o1,o2]/\au H H'/\H' lt=some (.lst vs)/\vs.length=k+1 /\ ∀j v,vs[j]? = some v->∃lj ws,v=.ref lj/\lj≠lt/\H' lj=some (.lst ws)/\ah K H' ws ((aQ a' b' ns .aV j).map N))
   ⟨_,_,_,rfl,T4,e4,rfl,λj v hv=>?_⟩ (λk σ H' _ ⟨_,_,_,_,s,_⟩=>s.kY hsn) ?_ ?_
 . match j,hv with
   | 0,e=>cases w6 e;exact⟨l3,_,rfl,ne43,e3',t3⟩
   | j+1,e=>simp at e
 . rintro k x σ H5 t H6 hx ⟨o1,o2,vs,rfl,S5,e5,hl5,hr5⟩ ht S6 e6
   have hk:k<ns.length:=by
     rcases wJ k ns.length with z | z
     . exact z
     . rw[wQ (by simpa using z)]at hx;cases hx
   have hxv:x=.int (ns.getD k 0):=by
     rw[wA,we hk]at hx;rw[wb,we hk];exact(w6 hx).symm
   subst hxv;have hnk:=ok.n0 (ns.getD k 0) (by rw[wb,we hk];exact vF hk);refine mF (.of e6) rfl ?_;k_few;have e5':=S6 _ _ e5;refine jh (aF.of e5') ?_;k_few;have hkv:∃v,vs[k]? = some v:=⟨vs[k]'(),we ()⟩;obtain⟨v,hv⟩:=hkv;obtain⟨lk,ws,rfl,nek,ek,tk⟩:=hr5 k v hv;refine jf (aF.of e5') (m4 hv) ?_;k_few;obtain⟨m,hm,hm2⟩:=ok.row (k:=k) ();have hrl:=dP a' b' ns .aV k;rw[wM]at hrl;have T6:=S5.trans S6;refine znq (hr'.by T6) (cw (S6 _ _ ek) (ah.same S6 _ _ tk)) ok.ba ok.bb hnk.1 hnk.2 () (by rw[hrl];simp;lia) (by rw[hrl];simp;lia) hm hm2 (λl7 H7 us7 hl7 S7 e7 t7=>?_);have e5'':=S7 _ _ e5';have ne7:l7≠lt:=λz=>by subst z;rw[e5']at hl7;cases hl7
   o_head jm e5'' () (λH8 E8 e8=>?_);have K8:aW H7 H8:=E8.keep e5'';refine⟨_,_,_,rfl,(T6.trans S7).grow hD E8,e8,by simp[hl5],λj v hv=>?_⟩;rcases wJ j vs.length with z | z
   . rw[vO z]at hv
     obtain⟨lj,wj,rfl,nej,ej,tj⟩:=hr5 j v hv;exact⟨lj,wj,rfl,nej,E8 _ _ nej (S7 _ _ (S6 _ _ ej)),ah.keep (S6.keep.trans (S7.keep.trans K8)) _ _ (fh _) tj⟩
   . have hj:j=vs.length:=by
       rcases wJ vs.length j with q | q
       . rw[wQ .aw]at hv;cases hv
       . lia
     subst hj;rw[vC .ax,W6]at hv;cases w6 hv;rw[hl5];refine⟨l7,us7,rfl,ne7,E8 _ _ ne7 e7,ah.keep K8 _ _ (fh _) ?_⟩;rw[aQ]
     simpa using t7
 . rintro σ H5 hz;obtain⟨o1,o2,vs,rfl,S5,e5,hl5,hr5⟩:=hz
   o_head q lt H5 S5 (bY.mpr ⟨lt,vs,rfl,.of e5,zuQ (by rw[hl5,yQ];simp) λj v hv=>?_⟩)
   have hj:j<vs.length:=by
     rcases wJ j vs.length with z | z
     . exact z
     . rw[wQ z]at hv;cases hv
   obtain⟨lj,wj,rfl,nej,ej,tj⟩:=hr5 j v hv;rw[zW (by simp at hl5;lia)];exact cw ej tj
def cQ(a b:Rat)(ns:.p)(xs:.a):List Rat:=(aQ a b ns .aV ns.length).dropLast
inductive YM(K:wa)(v w u:V)(H:Hp)(Q:VK)(E:XK):Prop|v(h1:.bo)(h2:Is K H w (TZ S))(h3:Is K H u (TN W))(ok:dF U Z S W)(q:Rs K H Q (TN (cQ U Z S W)))
theorem Zw(T:.o):pc P w base T.Dl 6 YM:=by
 exists T.Dl,["rule","sizes","places"],"c3",(av (aA (fM K T.h0i (ae (fN fK (cB ck (ao (GQ T) hr (q3 0 1 2)) .cs .J) fW (fE .cs)) ag))))
 obtain@⟨a',b',ns,xs,hr',hn',hp',ok,q⟩:=h;o_head Yj.v hr' hn' hp' ok (λl H1 S1 i1=>?_);o_head zyL i1 (by rw[yQ];lia) (λv2 i2=>?_);rw[yQ,qR,zW .ax]at i2;o_head iE i2 (λl3 H3 ys hn3 S3 e3 t3=>?_);rw[tS,<- Qg]at t3;o_head iI (cw e3 t3) (λw H4 S4 i4=>?_);exact q w H4 (S1.trans .ca) i4
theorem ZI{a:Rat}(ok:dF a b ns xs)(c:.bM)(hm:m+2*ns.length+21*upTo ns ns.length<=160000)(hk:k<=ns.length):Cm 160000 (d5 a b ns .aV k::aQ a b ns .aV k):=by
 have h1:=J3 (ns:=ns) hk .ax;exact(c.snoc.zB ok.ba ok.bb (ns:=ns) k hk).mono ()
inductive UO(K:wa)(v w u:V)(H:Hp)(Q:VK)(E:XK):Prop|v{Y:Nat}(h1:.bo)(h2:Is K H w (TZ S))(h3:Is K H u (TN W))(ok:dF U Z S W)(hm:Cm Y W)(hm2:Y+2*S.length+21*upTo S S.length<=160000)(q:Rs K H Q (N (c8 U Z S W)))
theorem zq3(T:.o):pc P w base T.L3 6 UO:=by
 exists T.L3,["rule","sizes","places","told","rows","turn"],"c3",(ak (ay 3 jp .y)
     (ak (ay 4 jp (ao (GQ T) hr (q3 0 1 2)))
     (ak (fi vj rfl (gI rfl T.h0j (ae (cT K T.h0t (q1 1)) ag)) (cC (i:=5) jp rfl .s) (av (ay 3 jp (ao (iV T) hr (ae .ak (ae (ao (BE T) hr (ae .aa (ae (cB ck (cB ck .cL .cI .J) .cI .J) ag))) ag))))))
     (av (aA .ak)))))
 obtain@⟨a',b',ns,xs,m,hr',hn',hp',ok,hm,hm2,q⟩:=h;o_head Yj.v hr' hn' hp' ok (λl H1 S1 i1=>?_);o_head J7 (hn'.by S1) ?_;have hlen:=ok.len;have hfew:=ok.bC;refine jO (n:=.cW) () () (λk σ H'=>∃v o,σ = [some x0,some x1,some x2,some v,some .az,o]/\au H1 H'/\Is K H' v (N (d5 a' b' ns .aV k))) ⟨_,_,rfl,au.refl _,fF 0 (T.gg _) rfl rfl⟩ ?_ ?_
 . rintro k σ H2 hk hz;obtain⟨v,o,rfl,S2,iv⟩:=hz
   have hk':k<ns.length:=by simpa using hk
   have c:=ZI ok hm hm2 (k:=k) ();have b1:af 160000 (d5 a' b' ns .aV k):=c.eH .bH;have b2:af 160000 ((aQ a' b' ns .aV k).getD k 0):=(lP c λy hy=>wH _ hy).get k;have b4:af 160040 (1-(aQ a' b' ns .aV k).getD k 0):=(af.one.sub b2).mono ⋯;have i2:=i1.by S2;o_head Zf i2 () (by rw[yQ];lia) (λv3 i3=>?_);rw[wE,zW ()]at i3;o_head jc i3 () (by rw[dP,wM];simp;lia) .cT;rw[wE]at i4;k_few;exact⟨_,_,rfl,S2.trans (au.trans .bJ .bJ),by assumption⟩
 . rintro σ H2 hz;obtain⟨v,o,rfl,S2,iv⟩:=hz
   k_few;exact q _ _ .aZ iv
def dk(a b:Rat)(ns:.p)(xs:.a):List Rat:=(wr ns.length).map λk=>(aQ a b ns .aV (k+1)).getD ((k+1) % ns.length) 0
theorem fH(a b:Rat)(ns:.p)(xs:.a):(dk a b ns xs).length=ns.length:=by simp[dk]
theorem mM{a:Rat}(h:k<ns.length):(dk a b ns xs).getD k 0=(aQ a b ns .aV (k+1)).getD ((k+1) % ns.length) 0:=by
 unfold dk;rw[wb,wA,vZ h]
 rfl
inductive zxB(K:wa)(v w u:V)(H:Hp)(Q:VK)(E:XK):Prop|v(h1:.bo)(h2:Is K H w (TZ S))(h3:Is K H u (TN W))(ok:dF U Z S W)(q:Rs K H Q (TN (dk U Z S W)))
theorem zyu(T:.o):pc P w base T.DN 6 zxB:=by
 exists T.DN,["rule","sizes","places","rows","count"],"c3",(ak (ay 3 jp (ao (GQ T) hr (q3 0 1 2)))
     (ak (ay 4 jp (cT K T.h0t (q1 1)))
     (av (aA (fM K T.h0i (ae (eO rfl (dq ["turn","rows","count"] [none,some 3,some 4]) (gI rfl T.h0j (q1 4)) .L .ah (λ_ _ _ _ _=>(cB (show gP _ (dM K)from ck) (cB (show gP _ (dM K)from ck) .X (az cv .C ar) .J) (az jl (az cv .C ar) .au) .J))) ag))))))
 obtain@⟨a',b',ns,xs,hr',hn',hp',ok,q⟩:=h;have hlen:=ok.len;have hfew:=ok.bC;o_head Yj.v hr' hn' hp' ok (λl H1 S1 i1=>?_);o_head J7 (hn'.by S1) ?_;o_head ZZ (n:=.cW) () () (o0:=none) (tl:=[some .az,some (.int .cW)]) rfl (λi v H=>Is K H v (N ((dk a' b' ns xs).getD i 0))) ?_ ?_
 . rintro D i ys o H2 hi inv
   have hi':i<ns.length:=by simpa using hi
   have i2:=i1.by inv.same;have hn0:(0:Int)<.cW:=by lia
   o_head Zf i2 () (by rw[yQ];lia) (λv3 i3=>?_);rw[show((i:Int)+1).toNat=i+1 by lia,zW ()]at i3;k_few;have e:((i:Int)+1) % .cW=(((i+1) % ns.length:Nat):Int):=by push_cast;rfl
   have hm:(i+1) % ns.length<ns.length:=Qx _ ();rw[e];refine jc i3 () (by rw[dP,wM];simp;lia) .cT;rw[wE,<- mM hi']at i4;exact eT inv () fz ⟨_,rfl⟩ .ar i4
 . rintro D ys H2 hn S2 e2 hl2 hr2
   o_head iI (cw e2 (fG (by rw[hl2,fH];simp) hr2)) (λw H3 S3 i3=>?_);exact q w H3 (S1.trans .bL) i3
theorem rR{bs:.cF}{zs:.x}(hl:zs.length=bs.length)(h:∀j z,zs[j]? = some z->z=V.bl (bs.getD j true)):zs=bs.map V.bl:=by
 refine WS (by rw[wn];exact hl) λi h1 h2=>?_
 rw[h i _ (we h1),W2,wb,we ()]
 rfl
def cR(xs:.a):List Rat:=[1]++xs++[0]
theorem jB(xs:.a):(cR xs).length=xs.length+2:=by simp[cR]
def m5(xs:.a):List Bool:=(wr (xs.length+1)).map λi=>decide ((cR xs).getD (i+1) 0<(cR xs).getD i 0)
def mO(ts:.a):List Bool:=ts.map λx=>decide (x<1)
def cH(a b:Rat)(ns:.p)(xs:.a):Bool:=(m5 xs).all id&&(mO (dk a b ns xs)).all id
theorem zwN(h:i<xs.length+1):(m5 xs).getD i true=decide ((cR xs).getD (i+1) 0<(cR xs).getD i 0):=by
 unfold m5;rw[wb,wA,vZ h]
 rfl
theorem zzM{ts:.a}(h:i<ts.length):(mO ts).getD i true=decide (ts.getD i 0<1):=by
 unfold mO;rw[wb,wA,wb,we h]
 rfl
theorem z7(h:.bM)(i:Nat):af m ((cR xs).getD i 0):=by
 unfold cR;rcases VC i with rfl | hi
 ·exact af.one.mono h.pos
 ·obtain⟨j,rfl⟩:∃j,i=j+1:=⟨i-1,by lia⟩
  exact h.snoc.get j
theorem zS{a:Rat}(ok:dF a b ns xs)(hi:i<ns.length):af 160000 ((dk a b ns xs).getD i 0):=by
 rw[mM hi];obtain⟨m,hm,hm2⟩:=ok.row (k:=i+1) ();exact(hm.get _).mono hm2
inductive YC(K:wa)(v w u:V)(H:Hp)(Q:VK)(E:XK):Prop|v(h1:.bo)(h2:Is K H w (TZ S))(h3:Is K H u (TN W))(ok:dF U Z S W)(q:Rq H Q (.bl (cH U Z S W)))
theorem yN(T:.o):pc P w base T.pE 7 YC:=by
 exists T.pE,["rule","sizes","places","steps"],"c3",(ak (ay 3 jp (az cv (az cv (cZ (ae .aa ag)) (gu .R rfl T.h0m fS .cR)) (cZ (ae .y ag))))
     (ak (aY (c7 (cF (dE (show bN _ (.builtin "all") (mX K)from pR rfl) rfl T.h0v pO (ae (eO rfl (dq ["upper","lower"] [none,none]) (AH rfl T.h0p (ae .ak (ae (fN fK .ak (fE ar) fW) ag))) (λ_ _ _ _ _=>by exact(show PG _ _ (m9 K 2 _)from gZ (n:=2) rfl (dg (cU 0) (dg (cU 1) gQ)))) .ah (λ_ _ _ _ _=>(ao (jy T:) hr (q2 1 0)))) ag)))) .bI bE)
     (av (aA (dE (show bN _ (.builtin "all") (mX K)from pR rfl) rfl T.h0v pO (ae (eO rfl (dq ["top"] [none]) (kZ (ao (zyu T) hr (q3 0 1 2))) .L .ah (λ_ _ _ _ _=>(ao (jy T:) hr (ae .C (ae .aa ag))))) ag))))))
 obtain@⟨a',b',ns,xs,hr',hn',hp',ok,q⟩:=h;have hlen:=ok.len;have hfew:=ok.bC;obtain⟨m,hcm,hcm2⟩:=ok.cm;o_head c9 ∅ (λl0 H1 n1 S1 e1=>?_);o_head mj (hp'.by S1) (λl1 H2 us n2 S2 e2 t2=>?_);have hul:=t2.length;rw[wn]at hul;refine gv (S2 _ _ e1) e2 (WM (iS .aw)) (λl2 H3 n3 S3 e3=>?_);o_head c9 ∅ (λl3 H4 n4 S4 e4=>?_);refine gv (S4 _ _ e3) e4 (WM (iS .aw)) (λl5 H5 n5 S5 e5=>?_);have T5:au H H5:=S1.trans (S2.trans (S3.trans .bj))
 have t5:ah K H5 ([V.ref a.fv]++us++[V.ref a.dY]) ((cR xs).map N):=by
   unfold cR;rw[wU,wU];exact(ah.append (.cons (fF 1 (T.zy _) rfl rfl) .nil) (ah.same (S3.trans .bj) _ _ t2)).append (.cons (fF 0 (T.gg _) rfl rfl) .nil)
 have ir5:=hr'.by T5;have in5:=hn'.by T5;have ip5:=hp'.by T5;clear n1 n2 n3 n4 n5 S1 S2 S3 S4 S5 e1 e2 e3 e4 t2 hr' hn' hp';generalize [V.ref a.fv]++us++[V.ref a.dY]=ws at e5 t5;have hws:=t5.length;rw[wn,jB]at hws;o_head iE (cw e5 t5) (λl6 H6 ys n6 S6 e6 t6=>?_);rw[show(1:Int)=((1:Nat):Int)from rfl,Eu _ _ (by rw[wn,jB];lia),<- Qo]at t6;have hys:=t6.length;rw[wn,Wg,jB]at hys;have e56:=S6 _ _ e5;have t56:=ah.same S6 _ _ t5;have T6:=T5.trans S6;have ir6:=ir5.by S6;have in6:=in5.by S6;have ip6:=ip5.by S6;clear ir5 in5 ip5 T5 S6 e5 t5 n6;o_head zBW (t:=false) (u:=false) (aF.of e56) (aF.of e6) () (o0:=none) (o0':=none) (tl:=[]) rfl (λi v H=>v=V.bl ((m5 xs).getD i true)) (λ_ _ _ _ _ h=>h) ?_ ?_
 . rintro D i x y zs o1 o2 H7 c hx hy inv e7
   obtain⟨hi,ix⟩:=cO t56 hx;obtain⟨hj,iy⟩:=cO t6 hy;rw[Wg,jB]at hj
   have ed:((cR xs).drop 1).getD i 0=(cR xs).getD (i+1) 0:=by
     rw[wb,Xz,wb,Xw]
   rw[ed]at iy;have S7:=inv.2.2.1;have b1:af 160000 ((cR xs).getD i 0):=(z7 hcm i).mono ();have b2:af 160000 ((cR xs).getD (i+1) 0):=(z7 hcm (i+1)).mono ();refine ZK (mF (.of e7) rfl ?_);have ix7:=ix.by S7;have iy7:=iy.by S7;k_few;exact yk inv () (λ_ _ _ _ _ h=>h) ⟨_,_,rfl⟩ .ar (by rw[zwN ()])
 . rintro D zs H7 hn S7 e7 hl7 hr7
   have hz:=rR (bs:=m5 xs) (by unfold m5;rw[wn,vv];lia) hr7;rw[hz]at e7;o_head oK (.of e7) ?_;k_few
   . rename_i z
     have ef:cH a' b' ns xs=false:=by unfold cH;rw[z];rfl
     rw[<- ef];exact q _ (T6.trans S7)
   . rename_i z
     have ef:cH a' b' ns xs=(mO (dk a' b' ns xs)).all id:=by unfold cH;rw[z];rfl
     rw[ef]at q;refine zxB.v (ir6.by S7) (in6.by S7) (ip6.by S7) ok .bv;have T8:=T6.trans (S7.trans S8);obtain⟨a8,us8,rfl,hs8,t8⟩:=cA.mp i8;have hl8:=t8.length;rw[wn,fH]at hl8;refine ke hs8 (o0:=none) (tl:=[]) rfl (λi v H=>v=V.bl ((mO (dk a' b' ns xs)).getD i true)) ?_ ?_
     . rintro D i x ys' o H9 hx inv
       obtain⟨hi,ix⟩:=cO t8 hx;rw[fH]at hi;have ix9:=ix.by inv.same;have b1:af 160000 ((dk a' b' ns xs).getD i 0):=zS ok hi;have b2:af 160000 1:=af.one.mono ⋯;k_few;exact eT inv () (λ_ _ _ _ _ h=>h) ⟨_,rfl⟩ .ar (by rw[zzM (by rw[fH];exact hi)])
     . rintro D ys' H9 hn9 S9 e9 hl9 hr9
       have hz':=rR (bs:=mO (dk a' b' ns xs)) (by unfold mO;rw[wn,fH];lia) hr9;rw[hz']at e9;o_head oK (.of e9) ?_;exact q _ (T8.trans S9)
def dm(n:Nat):List Rat:=vy n 0
theorem YJ(n i:Nat):(dm n).getD i 0=0:=by
 unfold dm;rw[wb,xm]
 split<;>rfl
theorem rT(n:Nat):Cm 1 (dm n):=by
 refine⟨1,by decide,⟨by decide⟩,λx hx=>⟨0,?_,⟨by decide⟩⟩⟩;rw[List.eq_of_mem_replicate hx]
 rfl
inductive RU(K:wa)(v w:V)(H:Hp)(Q:VK)(E:XK):Prop|v(h1:.bo)(h2:Is K H w (TZ S))(ok:dF U Z S (dm (S.length-1)))(h0:0<=S.sum)(h64:S.sum<=64)(q:Rs K H Q (.tuple [N (U^S.sum.toNat),TN (cQ U Z S (dm (S.length-1)))]))
theorem yx(T:.o):ms P w base T.pC 7 RU:=by
 exists T.pC,["rule","sizes","factor","noughts"],"c2",(ak (ay 2 jp (eI (ao (De T) hr (ae .C (ae (dE (show bN _ (.builtin "sum") (K_ K)from zzt rfl) rfl T.h0s Br (q1 1)) ag)))))
     (ak (ay 3 jp (fM K T.h0i (ae (eO rfl (dq ["size"] [none]) (kZ (fN fK .X (fE ar) fW)) .L .ah (λ_ _ _ _ _=>.y)) ag)))
     (av (aA (aU (ae .au (ae (ao (Zw T) hr (q3 0 1 3)) ag)))))))
 obtain@⟨a',b',ns,hr',hn',ok,h0,h64,q⟩:=h;have hlen:=ok.len;have hfew:=ok.bC;o_head zBZ hn' ?_;o_head F6 hr' ok.ba ok.bb h0 h64 .aJ;k_few;rename_i v2 i2;have hn1:Is K H1 x1 (.tuple (ns.map PyData.int)):=hn'.by S1;refine yS hn1 ?_ .as
 . rintro ⟨e,_⟩
   have e':min 1 (ns.map PyData.int).length=0:=e;rw[wn]at e';lia
 rw[Gv]at i3;obtain⟨a3,vs3,rfl,hs3,t3⟩:=cA.mp i3;have hl3:=t3.length;rw[V3,wn]at hl3;have hzl:(dm .aU).length=ns.length-1:=WP ..;o_head ke hs3 (o0:=none) (tl:=[]) rfl (λi v H=>Is K H v (N ((dm .aU).getD i 0))) ?_ ?_
 . rintro D i x ys o H4 hx inv
   have hi:i<vs3.length:=by
     rcases wJ i vs3.length with z | z
     . exact z
     . rw[wQ z]at hx;cases hx
   k_few;exact eT inv () fz ⟨_,rfl⟩ .ar (by rw[YJ];exact fF 0 (T.gg _) rfl rfl)
 . rintro D ys H4 hn4 S4 e4 hl4 hr4
   o_head iI (cw (xs:=dm .aU) e4 (fG () hr4)) .bR;have T5:au H1 H5:=S3.trans .bj;o_head YM.v ((hr'.by S1).by T5) ((hn'.by S1).by T5) i5 ok (λv6 H6 S6 i6=>?_);k_few;exact cW ∅ (.cons (i2.by (T5.trans S6)) (.cons i6 .nil)) (λv H' S h=>q v H' (S1.trans (T5.trans (S6.trans S))) h)
def cf(a b:Rat)(ns:.p):List Rat:=(cQ a b ns (dm .aU)).map (λs=>s / (1-a^ns.sum.toNat))
theorem oW{a:Rat}(h:.D):(cQ a b ns xs).length=xs.length:=by
 unfold cQ;rw[VW,dP];simp
theorem Hv{a:Rat}(h:.D)(hi:.cp):(cQ a b ns xs).getD i 0=(aQ a b ns .aV ns.length).getD i 0:=by
 unfold cQ;have hl:(aQ a b ns .aV ns.length).length=xs.length+1:=by rw[dP];simp
 rw[wb,wb,List.getElem?_dropLast,if_pos ()]
theorem Gd(h:.cp):(xs++[0]).getD i 0=xs.getD i 0:=by
 rw[wb,wb,vO h]
theorem tV : (xs++[0]).getD xs.length 0=0:=by
 rw[wb,vC .ax,W6]
 rfl
theorem zr8:∀{ns:.p},(∀n∈ns,0<=n)->((ns.map xv).sum:Int)=ns.sum
 | [],_=>rfl
 | n::ns,h=>by
  have h1:=zr8 (ns:=ns) λm hm=>h m (wH _ hm)
  have h2:=h n .bH;rw[vi,Vk,Vk];lia
theorem Tt(h:∀n∈ns,0<=n):upTo ns ns.length=ns.sum.toNat:=by
 have:=zr8 h;unfold GM.upTo;rw[Wm];lia
theorem zq4{a:Rat}(h:.D)(hn:∀n∈ns,0<=n)(hi:.cp):(cQ a b ns xs).getD i 0=a^ns.sum.toNat*xs.getD i 0+(cQ a b ns (dm .aU)).getD i 0:=by
 have hz:(dm .aU).length=xs.length:=by unfold dm;rw[WP];lia
 have hu:=Tt hn;rw[Hv h hi,Hv () ()];have hr:=IY a b ns .aV (dm .aU++[0]) (by simp[hz]) (by simp[h]) xs.length ∅ (by rw[tV];rw[<- hz,tV]) ns.length .ax i .aw;rw[if_neg (),show ns.length-1=xs.length by lia]at hr;rw[show ns.length-1=xs.length by lia]at hz ⊢;rw[tV,Gd hi,Gd (),YJ,hu]at hr
 have hl0:(dm xs.length++[0]).getD xs.length 0=0:=by
  have:=tV (xs:=dm xs.length);rw[hz]at this;exact this
 rw[hl0]at hr
 grind
theorem k_{a:Rat}(h:1<=ns.length):(cf a b ns).length=ns.length-1:=by
 unfold cf;rw[wn,oW (by unfold dm;rw[WP];lia)];unfold dm;rw[WP]
theorem Rk{a:Rat}(h:i<(cf a b ns).length):(cf a b ns).getD i 0=(cQ a b ns (dm .aU)).getD i 0 / (1-a^ns.sum.toNat):=by
 unfold cf at *;rw[wn]at h;rw[wb,wA,wb,we h];rfl
theorem zBe{g:Rat}(h:.bM)(bg:af n g)(hg:g≠0):Cm (m+n) (xs.map (λs=>s / g)):=by
 obtain⟨B,h0,bB,hx⟩:=h;have hgn:=ye hg
 have key:∀(t:Int),wC t B / g=wC (t*(g.den:Int)) (B*g.num):=by
  intro t
  conv=>lhs;rw[<- Vy g]
  rw[Qk,Rat.inv_divInt,xM]
 rcases Int.lt_or_gt_of_ne hgn with z | z
 ·refine⟨B * -g.num,Wj h0 (),bB.mul bg.t.neg,λx hxm=>?_⟩
  obtain⟨s,hs,rfl⟩:=wW.mp hxm;obtain⟨t,rfl,bt⟩:=hx s hs;refine⟨-(t*(g.den:Int)),?_,(bt.mul bg.b).neg⟩
  show wC t B / g=_
  rw[key t,X2,Rat.divInt_neg',Int.neg_neg]
 ·refine⟨B*g.num,Wj h0 (),bB.mul bg.t,λx hxm=>?_⟩
  obtain⟨s,hs,rfl⟩:=wW.mp hxm;obtain⟨t,rfl,bt⟩:=hx s hs;exact⟨t*(g.den:Int),key t,bt.mul bg.b⟩
theorem Ge{a:Rat}(ba:af 10 a)(bb:af 10 b)(hm:.bM):Cm (m+2*ns.length+21*upTo ns ns.length) (cQ a b ns xs):=by
 obtain⟨B,h0,h1,h2⟩:=(hm.snoc).rows ba bb (ns:=ns) ns.length .ax;exact⟨B,h0,h1,λx hx=>h2 x (x6 _ hx)⟩
theorem zV{a:Rat}(ba:af 10 a)(bb:af 10 b)(h8:ns.length<=8)(hu:upTo ns ns.length<=8)(hs:ns.sum.toNat<=8)(hF:a^ns.sum.toNat≠1):Cm 268 (cf a b ns):=by
 have bF:af 81 .I:=(ba.pow ns.sum.toNat).mono ();have bg:af 83 (1-a^ns.sum.toNat):=(af.one.sub bF).mono ⋯;have hg:1-a^ns.sum.toNat≠0:=λe=>hF .aF
 exact(zBe (Ge (ns:=ns) ba bb (rT .aU)) bg hg).mono ()
theorem zsU{a:Rat}(ok:dF a b ns (dm .aU))(h8:ns.sum<=8)(i:Nat):af 400 ((cQ a b ns (dm .aU)).getD i 0):=((Ge ok.ba ok.bb (rT _)).get i).mono (by
 have h1:=Tt (λn hn=>(ok.n0 n hn).1);have h2:=ok.bC;lia)
inductive Ry(K:wa)(v w:V)(H:Hp)(Q:VK)(E:XK):Prop|v(h1:.bo)(h2:Is K H w (TZ S))(ok:dF U Z S (dm (S.length-1)))(h0:0<=S.sum)(h8:S.sum<=8)(q1:U^S.sum.toNat=1->Rq H Q .bX)(q2:U^S.sum.toNat≠1->Rs K H Q (TN (cf U Z S)))
theorem RK(T:.o):ms P w base T.DJ 8 Ry:=by
 exists T.DJ,["rule","sizes","both","gap"],"c2",(ak (ay 2 jp (ao (yx T) hr .cl))
     (ak (aY (dX K hu (qi 2) .aa) (av (aA gD)) bE)
     (ak (ay 3 jp (ao (BE T) hr (ae .aa (ae (qi 2) ag))))
     (av (aA (fM K T.h0i (ae (eO rfl (dq ["shift","gap"] [none,some 3]) (kZ (qi 2)) .L .ah (λ_ _ _ _ _=>(ao (zx0 T:) hr .cl))) ag)))))))
 obtain@⟨ra,rb,ns,hr',hn',ok,h0,h8,q1,q2⟩:=h;have bF:af 100 .bV:=(ok.ba.pow ns.sum.toNat).mono ();o_head RU.v hr' hn' ok h0 () .aJ;o_head aD (j:=0) i1 rfl (λv2 i2=>?_);k_few
 . rename_i z
   exact q1 z H1 S1
 . rename_i z
   refine aD (j:=0) i1 rfl (λv3 i3=>?_);k_few;rename_i v4 H4 S4 i4;have hg:(1-ra^ns.sum.toNat)≠0:=λe=>z .aF
   have bg:af 102 (1-ra^ns.sum.toNat):=(af.one.sub bF).mono ⋯;refine aD (j:=1) (i1.by S4) rfl (λv5 i5=>?_);obtain⟨ap,us,rfl,hu,tu⟩:=cA.mp i5;refine ke (o0:=none) (tl:=[some v4]) hu rfl (λj y H'=>Is K H' y (N ((cf ra rb ns).getD j 0))) ?_ ?_
   . intro D i x ys o H5 hx inv
     obtain⟨hi,ix⟩:=cO tu hx;have ix5:=ix.by inv.same;have i45:=i4.by inv.same
     have hi1000:i<=1000:=by
       have h1:=ok.len;have h2:=ok.bC;have h3:=oW (a:=ra) (b:=rb) (show ns.length=(dm .aU).length+1 from ok.len);lia
     o_head zxZ.v ix5 i45 ((zsU ok h8 i).mono ⋯) (bg.mono ⋯) hg (λv6 H6 S6 i6=>?_);k_few
     have e:(cf ra rb ns).getD i 0=(cQ ra rb ns (dm .aU)).getD i 0 / (1-ra^ns.sum.toNat):=by
       unfold cf;rw[wb,wA,wb,we hi];rfl
     exact eT inv hi1000 fz ⟨_,rfl⟩ S6 (by rw[e];exact i6)
   . intro D ys H5 hn S5 hD hl hr5
     have hl':ys.length=(cf ra rb ns).length:=by
       unfold cf;rw[hl,tu.length,wn,wn]
     refine iI (cw hD (fG hl' hr5)) (λw H6 S6 i6=>?_);k_few;exact q2 z w H6 (S1.trans (S4.trans (S5.trans S6))) i6
def iF(p q:Rat)(xs ss:.a):List Rat:=(wr xs.length).map λi=>p*xs.getD i 0+q*ss.getD i 0
theorem rm(p q:Rat)(xs ss:.a):(iF p q xs ss).length=xs.length:=by unfold iF;rw[wn,vv]
theorem Yq{p q:Rat}(h:.cp):(iF p q xs ss).getD i 0=p*xs.getD i 0+q*ss.getD i 0:=by
 unfold iF;rw[wb,wA,vZ h];rfl
inductive zqV(K:wa)(v w u z:V)(H:Hp)(Q:VK)(E:XK):Prop|v{d:wF}(h0:Is K H v (.tuple [d,TN U]))(h1:Is K H w (TN Z))(h2:Is K H u (N S))(h3:Is K H z (N q'))(hl:U.length=Z.length)(hf:Z.length<=50)(b1:af 40000 S)(b2:af 40000 q')(b3:∀W,af 138000 (Z.getD W 0))(b4:∀W,af 138000 (U.getD W 0))(q:Rs K H Q (TN (iF S q' Z U)))
theorem zpN(T:.o):pi P w base T.DE 3 zqV:=by
 exists T.DE,["both","places","of_place","of_shift"],"c4",(av (aA (fM K T.h0i (ae (eO rfl (dq ["place","shift","of_place","of_shift"] [none,none,some 2,some 3]) (zCH rfl T.h0p (ae .X .cb)) (λ_ _ _ _ _=>by exact(show PG _ _ (m9 K 2 _)from gZ (n:=2) rfl (dg (cU 0) (dg (cU 1) gQ)))) .ah (λ_ _ _ _ _=>(ao (iV T:) hr (ae (ao (og T:) hr (q2 2 0)) (ae (ao (og T:) hr (q2 3 1)) ag))))) ag))))
 obtain@⟨ss,xs,p,q',d,h0,h1,h2,h3,hl,hf,b1,b2,b3,b4,q⟩:=h;obtain⟨a1,us,rfl,hs1,t1⟩:=cA.mp h1;o_head aD (j:=1) h0 rfl (λv5 i5=>?_);obtain⟨a2,ws,rfl,hs2,t2⟩:=cA.mp i5;have l1:=t1.length;have l2:=t2.length;rw[wn]at l1 l2;o_head Ue (t:=true) (u:=true) hs1 hs2 () (o0:=none) (o0':=none) (tl:=[some x2,some x3]) rfl (λj y H'=>Is K H' y (N ((iF p q' xs ss).getD j 0))) fz ?_ ?_
 ·intro D j y z zs o1 o2 H7 c hy hz inv hc
  obtain⟨hj,iy⟩:=cO t1 hy;obtain⟨_,iz⟩:=cO t2 hz;have S7:=inv.2.2.1;have iy7:=iy.by S7;have iz7:=iz.by S7;have ip7:=h2.by S7;have iq7:=h3.by S7;have c1:=b3 j;have c2:=b4 j;have m1:af 179980 (p*xs.getD j 0):=(b1.mul c1).mono ⋯;have m2:af 179980 (q'*ss.getD j 0):=(b2.mul c2).mono ⋯;refine mF (.of hc) rfl ?_;k_few;rename_i v8 H8 S8 i8 v9 H9 S9 i9 v10 H10 S10 i10;rw[<- Yq hj]at i10;exact yk inv () fz ⟨_,_,rfl⟩ (S8.trans .cu) i10
 ·intro D zs H7 hn S7 hD hl7 hr7
  have tz:ah K H7 zs ((iF p q' xs ss).map N):=fG (by rw[hl7,rm];lia) hr7;o_head iI (cw hD tz) .bv;exact q v8 H8 (S7.trans S8) i8
structure dh(ns:.p):Prop where
 some:1<=ns.length
 bC:ns.length<=8
 each:∀n∈ns,1<=n/\n<=8
 sum:ns.sum<=8
theorem yH:∀{ns:.p},(∀n∈ns,0<=n)->((ns.map xv).sum:Int)=ns.sum
 | [],_=>rfl
 | n::ns,h=>by
  have h1:=yH (ns:=ns) λm hm=>h m (wH _ hm)
  have h2:=h n .bH;rw[vi,Vk,Vk];lia
theorem dh.upTo(h:dh ns):upTo ns ns.length<=8:=by
 have h1:=yH (ns:=ns) λn hn=>by have:=h.each n hn;lia
 have h2:=h.sum;unfold GM.upTo;rw[Wm];lia
def cD(a b:Rat)(ns:.p):List Rat:=cQ a b ns (dm .aU)
def aX(a b:Rat)(ns:.p)(n:Nat)(xs:.a):List Rat:=(wr xs.length).map λi=>fR .I ((cD a b ns).getD i 0) n .an
theorem yW(n:Nat):(dm n).length=n:=WP ..
theorem mW{a:Rat}(h:1<=ns.length):(cD a b ns).length=ns.length-1:=by
 unfold cD;rw[oW (by rw[yW];lia),yW]
theorem cu(a b:Rat)(ns:.p)(n:Nat)(xs:.a):(aX a b ns n xs).length=xs.length:=by unfold aX;rw[wn,vv]
theorem gx{a:Rat}(h:.cp):(aX a b ns n xs).getD i 0=fR .I ((cD a b ns).getD i 0) n .an:=by
 unfold aX;rw[wb,wA,vZ h];rfl
theorem rD(hl:.ag)(h:∀i,i<xs.length->xs.getD i 0=ys.getD i 0):xs=ys:=WS hl λi h1 h2=>by
 have:=h i h1;rw[wb,wb,we h1,we h2]at this;exact this
theorem lH(a b:Rat)(ns:.p)(xs:.a):aX a b ns 0 xs=xs:=rD (cu ..) λi hi=>by
 rw[cu]at hi;rw[gx hi,zzU]
theorem p_(a b:Rat)(ns:.p)(m n:Nat)(xs:.a):aX a b ns n (aX a b ns m xs)=aX a b ns (m+n) xs:=rD (by rw[cu,cu,cu]) λi hi=>by
 rw[cu,cu]at hi;rw[gx (by rw[cu];exact hi),gx hi,gx hi,zAL]
theorem oz{a:Rat}(h:.D)(hn:∀n∈ns,0<=n):aX a b ns 1 xs=cQ a b ns xs:=rD (by rw[cu,oW h]) λi hi=>by
 rw[cu]at hi;rw[gx hi,Ig,zq4 h hn hi]
 rfl
structure d_(a b:Rat)(ns:.p)(n:Nat):Prop where
 ok:aK a b
 sz:dh ns
 bC:n<=60
 k:(6*ns.sum.toNat+1+1)*n<=32000
theorem A0{a:Rat}(h:.aS):af 6 a:=by
 have h1:=h.a0;have h2:=h.a4;have h3:=h.ad;have n0:0<=a.num:=qX.mpr (Wk h1)
 have n1:a.num<=4*a.den:=by
  have:=(xY a 4).mp h2
  simpa using this
 have e:(2:Nat)^6=64:=by decide
 exact⟨⟨by rw[e];lia⟩,⟨by rw[e];lia⟩⟩
theorem jG{a:Rat}(h:.aS)(S:Nat):af (6*S+1) (a^S):=(A0 h).pow S
theorem d_.le{a:Rat}(h:d_ a b ns n)(e:m<=n):d_ a b ns m:=⟨h.ok,h.sz,Wt e h.bC,Wt (qJ _ e) h.k⟩
theorem d_.pow{a:Rat}(h:d_ a b ns n)(hi:i<=n):af 32020 (.I^i):=((jG h.ok _).pow i).mono (by
 have h1:=(h.le hi).k;have h2:=Wb i (show 6*ns.sum.toNat+1<=6*ns.sum.toNat+1+1 by lia);lia)
theorem d_.aB{a:Rat}(h:d_ a b ns n)(hi:i<=n):af 32020 (aB .I 1 i):=(Rn (jG h.ok _) i).mono (by have:=(h.le hi).k;lia)
theorem rh{a:Rat}(h:.aS)(k:dh ns):dF a b ns (dm .aU):=⟨h.ba,h.bb,λn hn=>by have:=k.each n hn;lia,by rw[yW];have:=k.some;lia,by have:=k.bC;lia,⟨1,rT _,by have:=k.bC;have:=k.upTo;lia⟩⟩
theorem EM{a:Rat}(h:.aS)(k:dh ns):Cm 185 (cD a b ns):=(Ge (ns:=ns) h.ba h.bb (rT .aU)).mono (by have:=k.bC;have:=k.upTo;lia)
theorem yj{a:Rat}(h:.aS)(k:dh ns)(i:Nat):af 185 ((cD a b ns).getD i 0):=(EM h k).get i
theorem dh.nn(k:dh ns):∀n∈ns,0<=n:=λn hn=>by have:=k.each n hn;lia
theorem dh.pos(k:dh ns):1<=ns.sum/\ns.sum<=8:=by
 refine⟨?_,k.sum⟩;have h1:=yH k.nn;have h2:=k.some
 match ns,h2,k.each with
 | n::ns,_,he =>
  have:=he n .bH;rw[vi,Vk]at h1;lia
theorem lC{a:Rat}(h:.aS){S:Nat}(hS:1<=S):a^S=1 ↔ a=1:=by
 obtain⟨m,rfl⟩:∃m,S=m+1:=⟨S-1,by lia⟩
 constructor
 ·intro e
  by_cases z:a<1
  ·have:=RS h.a0 z m
   rw[e]at this;exact absurd this .aF
  ·by_cases y:a=1
   ·exact y
   ·have z3:1<a:=qc (W4.mp z) (WN y)
    have:=zw5 z3 m;rw[e]at this;exact absurd this .aF
 ·intro e
  rw[e,GM.one_pow']
theorem C1{a:Rat}(hF:a^ns.sum.toNat≠1)(hi:i<(cf a b ns).length):(cf a b ns).getD i 0*(1-a^ns.sum.toNat)=(cD a b ns).getD i 0:=by
 rw[Rk hi];exact WG (λe=>hF .aF)
theorem zCZ{a:Rat}(h:.aS)(S n:Nat):af ((6*S+3)*n+1) ((a^S)^n):=((jG h S).pow n).mono (by have:=Wb n (show 6*S+1<=6*S+3 by lia);lia)
theorem SW{a:Rat}(h:.aS)(S n:Nat):af ((6*S+3)*n+1) (aB (a^S) 1 n):=(Rn (jG h S) n).mono (by have:=Wb n (show 6*S+1+1<=6*S+3 by lia);lia)
inductive Ze(K:wa)(v w u:V)(H:Hp)(Q:VK)(E:XK):Prop|v{n:Int}(e2:u=.int n)(h0:Is K H v (.tuple [N U,TN Z]))(h1:Is K H w (TN S))(n0:0<=n)(n1:n<=64)(hl:Z.length=S.length)(hf:S.length<=50)(b0:af 40000 U)(b1:∀W,W<=n.toNat->af 40000 (U^W))(b2:∀W,W<=n.toNat->af 40000 (aB U 1 W))(b3:∀W,af 138000 (S.getD W 0))(b4:∀W,af 138000 (Z.getD W 0))(q:Rs K H Q (TN ((wr S.length).map λW=>fR U (Z.getD W 0) n.toNat (S.getD W 0))))
theorem zrM(T:.o):pc P w base T.DG 4 Ze:=by
 exists T.DG,["both","places","many","push"],"c3",(ak (ay 3 jp (ao (De T) hr (ae (aU (ae .O (ae .aa ag))) .cR)))
     (av (aA (ao (zpN T) hr (by exact(@ae _ _ _ _ _ .C (@ae _ _ _ _ _ .X (@ae _ _ _ _ _ (qi 3) (@ae _ _ _ _ _ (qi 3) ag gj) gj) bM) bM))))))
 obtain@⟨F,ss,xs,n,rfl,h0,h1,n0,n1,hl,hf,b0,b1,b2,b3,b4,q⟩:=h;o_head aD (j:=0) h0 rfl (λv1 i1=>?_);o_head HZ i1 (fF 1 (T.zy _) rfl rfl) .aK;o_head F9.v rfl i2 (b0.mono ⋯) (af.one.mono ⋯) n0 n1 (λi hi=>(b1 i hi).mono ⋯) (λi hi=>(b2 i hi).mono ⋯) .as;k_few;rename_i v4 i4 v5 i5;have T3:=S2.trans S3;refine zqV.v (h0.by T3) (h1.by T3) i4 i5 hl hf (b1 _ .ax) (b2 _ .ax) b3 b4 (λv6 H6 S6 i6=>?_);exact q v6 H6 (T3.trans S6) i6
inductive zhu(K:wa)(v w u t:V)(H:Hp)(Q:VK)(E:XK):Prop|v{n:Int}(e3:t=.int n)(h0:.bo)(h1:Is K H w (TZ S))(h2:Is K H u (TN W))(hl:S.length=W.length+1)(n0:0<=n)(ok:d_ U Z S n.toNat)(b:∀Y,af 138000 (W.getD Y 0))(q:Rs K H Q (TN (aX U Z S n.toNat W)))
theorem R7(T:.o):pi P w base T.Dk 8 zhu:=by
 exists T.Dk,["rule","sizes","places","many"],"c4",(av (aA (ao (zrM T) hr (ae (ao (yx T) hr .cl) (q2 2 3)))))
 obtain@⟨ra,rb,ns,xs,n,rfl,hr',hn',hx',hl,n0,ok,bx,q⟩:=h;have h8:=ok.sz.bC;have hp:=ok.sz.pos;have hn60:=ok.bC;o_head RU.v hr' hn' (rh ok.ok ok.sz) () () .aJ;o_head Ze.v rfl (Z:=cD ra rb ns) i1 (hx'.by S1) n0 () (by rw[mW ()];lia) () (by have:=ok.sz.sum;exact(jG ok.ok _).mono ()) (λi hi=>(ok.pow hi).mono ⋯) (λi hi=>(ok.aB hi).mono ⋯) bx (λi=>(yj ok.ok ok.sz i).mono ⋯) .aK;exact q v2 H2 .aZ i2
theorem TV{k:Nat}{F:Rat}(h:af k F):∀i:Nat,∃U:Int,GM.sumTo (aB F 1) i=wC U (.bn^i)/\Bd ((k+2)*i+2) U
 | 0=>⟨0,by simp[GM.sumTo],⟨by simp⟩⟩
 | i+1=>by
  obtain⟨U,e,bU⟩:=TV h i;obtain⟨T,e2,bT,bd⟩:=zP h i;have hd:.bn^i≠0:=qd (iL F);have hd1:.bn^(i+1)≠0:=qd (iL F);have ed:.bn^(i+1)=.bn^i*.bn:=V2 ..;have h1:(k+2)*(i+1)=(k+2)*i+(k+2):=qQ ..;have h2:(k+1)*i<=(k+2)*i:=Wb i ();refine⟨(U+T)*.bn,?_,((bU.add bT).mul h.b).mono ()⟩
  symm
  refine gr hd1 ?_;have k1:=dG U hd;have k2:=dG T hd;have e3:(((U+T)*.bn:Int):Rat)=((U:Rat)+(T:Rat))*(.bn:Rat):=by rw[vY,VG]
  rw[GM.sumTo,e,e2,ed,vY,e3,<- k1,<- k2]
  grind
theorem TJ(h:af k F)(i:Nat):af ((k+2)*i+2) (GM.sumTo (aB F 1) i):=by
 obtain⟨U,e,bU⟩:=TV h i;obtain⟨T,e2,bT,bd⟩:=zP h i;rw[e];exact af.divInt (qd (iL F)) bU (bd.mono (by have:=Wb i (show k<=k+2 by lia);lia))
theorem d_.sums{a:Rat}(h:d_ a b ns n)(hi:i<=n):af 33240 (GM.sumTo (GM.aB .I 1) i):=(TJ (jG h.ok _) i).mono (by
 have h1:=(h.le hi).k;have h2:=(h.le hi).bC;have e:(6*ns.sum.toNat+1+2)*i=(6*ns.sum.toNat+1+1)*i+i:=by rw[<- Vi]
 lia)
theorem zCp(F s x:Rat)(n:Nat):GM.sumTo (λk=>fR F s k x) n=aB F 1 n*x+GM.sumTo (aB F 1) n*s:=by
 unfold fR;rw[GP]
 have e1:GM.sumTo (λk=>F^k*x) n=aB F 1 n*x:=by
  rw[<- Hy F n,V5,<- An];exact oS n λk _=>V5 ..
 have e2:GM.sumTo (λk=>aB F 1 k*s) n=GM.sumTo (aB F 1) n*s:=by
  rw[V5 (GM.sumTo (aB F 1) n) s,<- An];exact oS n λk _=>V5 ..
 rw[e1,e2]
inductive Z_(K:wa)(v w u:V)(H:Hp)(Q:VK)(E:XK):Prop|v{Z:.p}{n:Int}(e2:u=.int n)(h0:Is K H v (.tuple [N (U^Z.sum.toNat),TN (cD U S Z)]))(h1:Is K H w (TN W))(n0:0<=n)(ok:d_ U S Z n.toNat)(hl:Z.length=W.length+1)(bx:∀Y,af 138000 (W.getD Y 0))(q:Rs K H Q (TN (iF (aB (U^Z.sum.toNat) 1 n.toNat) (GM.sumTo (aB (U^Z.sum.toNat) 1) n.toNat) W (cD U S Z))))
theorem zlX(T:.o):pc P w base T.Lg 4 Z_:=by
 exists T.Lg,["both","places","many","of_place","of_shift","done"],"c3",(ak (ay 3 jp .y)
     (ak (ay 4 jp .y)
     (ak (fi vj rfl (gI rfl T.h0j .cR) (cC (i:=5) jp rfl .s) (ak (ay 4 jp (ao (iV T) hr (q2 4 3)))
     (av (ay 3 jp (ao (iV T) hr (ae (ao (og T) hr (ae .O (q1 3))) (ae .aa ag)))))))
     (av (aA (ao (zpN T) hr (by exact(@ae _ _ _ _ _ .C (@ae _ _ _ _ _ .X (@ae _ _ _ _ _ .ak (@ae _ _ _ _ _ .cL ag bM) bM) bM) bM))))))))
 obtain@⟨ra,rb,xs,ns,n,rfl,h0,h1,n0,ok,hl,bx,q⟩:=h;have h8:=ok.sz.bC;have h60:=ok.bC;have bF:af 49 .bV:=(jG ok.ok _).mono (by have:=ok.sz.sum;lia);generalize hF:ra^ns.sum.toNat=F at *;o_head jO (n:=n) () () (λi σ H'=>∃(f g:V)(o:.bD),σ = [some x0,some x1,some (.int n),some f,some g,o]/\au H H'/\Is K H' f (N (aB F 1 i))/\Is K H' g (N (GM.sumTo (aB F 1) i))) ⟨_,_,_,rfl,au.refl H,fF 0 (T.gg _) rfl rfl,fF 0 (T.gg _) rfl rfl⟩ ?_ ?_
 . rintro i σ H' hi hz;obtain⟨f,g,o,rfl,S1,hf,hg⟩:=hz
   have h01:=h0.by S1;have bf:af 32020 (aB F 1 i):=by rw[<- hF];exact ok.aB ()
   have bg:af 33240 (GM.sumTo (aB F 1) i):=by rw[<- hF];exact ok.sums ()
   have bm:af 34000 (F*aB F 1 i):=(bF.mul bf).mono ⋯;k_few;rename_i v2 H2 S2 i2;refine aD (j:=0) (h01.by S2) rfl (λv3 i3=>?_);have hf2:=hf.by S2;k_few;rename_i v4 H4 S4 i4 v5 H5 S5 i5;exact⟨_,_,_,rfl,S1.trans (S2.trans .bj),i5,i2.by .bj⟩
 . rintro σ H' hz;obtain⟨f,g,o,rfl,S1,hf,hg⟩:=hz
   have bf:af 40000 (aB F 1 n.toNat):=by rw[<- hF];exact(ok.aB .ax).mono ⋯
   have bg:af 40000 (GM.sumTo (aB F 1) n.toNat):=by rw[<- hF];exact(ok.sums .ax).mono ⋯
   o_head zqV.v (h0.by S1) (h1.by S1) hf hg (by rw[mW ()];lia) () bf bg bx (λi=>(yj ok.ok ok.sz i).mono ⋯) .aK;exact q v2 H2 .aZ i2
theorem Yw{c d:Nat}{p q:Rat}(hx:.bM)(hs:Cm j ss)(bp:af c p)(bq:af d q):Cm (m+j+c+d+1) (iF p q xs ss):=by
 obtain⟨B,h0,h1,h2⟩:=hx;obtain⟨D,g0,g1,g2⟩:=hs;have hb:0<B*(p.den:Int)*(D*(q.den:Int)):=Wj (Wj h0 (den_pos p)) (Wj g0 (den_pos q));refine⟨_,hb,((h1.mul bp.b).mul (g1.mul bq.b)).mono (),λx hx=>?_⟩;obtain⟨i,hi,rfl⟩:=wW.mp hx;have hi:=wN.mp hi;obtain⟨u,eu,bu⟩:=h2 _ (getD_mem (d:=0) hi)
 have hv:∃v:Int,ss.getD i 0=wC v D/\Bd j v:=by
  rcases wJ i ss.length with z | z
  ·exact g2 _ (getD_mem z)
  ·rw[wb,wQ z]
   exact⟨0,by simp,⟨by simp;exact Wz j⟩⟩
 obtain⟨v,ev,bv⟩:=hv;refine⟨p.num*u*(D*(q.den:Int))+q.num*v*(B*(p.den:Int)),?_,(((bp.t.mul bu).mul (g1.mul bq.b)).add ((bq.t.mul bv).mul (h1.mul bp.b))).mono ()⟩
 symm
 show wC _ _=p*xs.getD i 0+q*ss.getD i 0
 refine gr () ?_;have k1:=dG u (show B≠0 by lia);have k2:=dG v (show D≠0 by lia);have k3:=ku p;have k4:=ku q;rw[eu,ev];simp only[VG,vY];rw[<- k1,<- k2,<- k3,<- k4];generalize wC u B=y;generalize wC v D=z;generalize (B:Rat)=B';generalize (D:Rat)=D';generalize ((p.den:Int):Rat)=P';generalize ((q.den:Int):Rat)=Q'
 grind
theorem O3{a:Rat}(ok:d_ a b ns n)(c:.bM):Cm (m+188+2*((6*ns.sum.toNat+3)*n)) (aX a b ns n xs):=(Yw c (EM ok.ok ok.sz) (zCZ ok.ok _ n) (SW ok.ok _ n)).mono ()
def fV(a b:Rat)(ns:.p)(xs:.a)(n:Nat):Rat:=GM.sumTo (λk=>c8 a b ns (aX a b ns k xs)) n
def kr(a b:Rat)(ns:.p)(xs:.a)(n:Nat):List Rat:=(iF (aB .I 1 n) (GM.sumTo (aB .I 1) n) xs (cD a b ns)).map λt=>t / .aM
theorem ZX(a b:Rat)(ns:.p)(xs:.a)(n:Nat):(kr a b ns xs n).length=xs.length:=by unfold kr;rw[wn,rm]
theorem Hu(h:1<=n):.aM≠0:=λe=>by
 have:=Vm.mp e;lia
theorem SU{a:Rat}(hi:.cp):(kr a b ns xs n).getD i 0=(iF (aB .I 1 n) (GM.sumTo (aB .I 1) n) xs (cD a b ns)).getD i 0 / .aM:=by
 unfold kr;rw[wb,wA,we (by rw[rm];exact hi),wb,we (by rw[rm];exact hi)]
 rfl
theorem zue{a:Rat}(hl:.D)(h1:1<=n):.aM*c8 a b ns (kr a b ns xs n)=fV a b ns xs n:=by
 unfold fV;refine zpU hl (λk=>aX a b ns k xs) (λk=>cu ..) n _ h1 (ZX ..) λi hi=>?_
 rw[SU hi,WG (Hu h1),Yq hi,<- zCp];exact oS n λk _=>(gx hi).symm
theorem Gu(h:n<=60):af 6 .aM:=by
 have e:(2:Nat)^6=64:=by decide
 exact⟨⟨by rw[xy,e];lia⟩,⟨by rw[xz];decide⟩⟩
theorem zAs{a:Rat}(h:.aS)(S n:Nat):af ((6*S+3)*n+2) (GM.sumTo (aB (a^S) 1) n):=TJ (jG h S) n
theorem Z9{a:Rat}(ok:d_ a b ns n)(c:.bM):Cm (m+189+2*((6*ns.sum.toNat+3)*n)) (iF (aB .I 1 n) (GM.sumTo (aB .I 1) n) xs (cD a b ns)):=(Yw c (EM ok.ok ok.sz) (SW ok.ok _ n) (zAs ok.ok _ n)).mono ()
theorem zAh{a:Rat}(ok:d_ a b ns n)(h1:1<=n)(c:.bM):Cm (m+195+2*((6*ns.sum.toNat+3)*n)) (kr a b ns xs n):=by
 unfold kr;exact(zBe (Z9 ok c) (Gu ok.bC) (Hu h1)).mono ()
inductive Rx(K:wa)(v w u t:V)(H:Hp)(Q:VK)(E:XK):Prop|v{Y:Nat}{n:Int}(e3:t=.int n)(h0:.bo)(h1:Is K H w (TZ S))(h2:Is K H u (TN W))(hl:S.length=W.length+1)(n0:0<=n)(ok:d_ U Z S n.toNat)(c:Cm Y W)(hm:Y+2*((6*S.sum.toNat+3)*n.toNat)<=134000)(q:Rs K H Q (N (fV U Z S W n.toNat)))
theorem C8{n:Int}(q:Rs K H Q (N (n:Rat))):oE K [.int n,.int 1] H Q:=dj (r:=(n:Rat)) (xy n).symm (by rw[xz];rfl) q
theorem zpF(T:.o):pi P w base T.LO 8 Rx:=by
 exists T.LO,["rule","sizes","places","many","count","mean"],"c4",(ak (aY (dB lF .ak ar .cG) (av (aA .y)) bE)
     (ak (ay 4 jp (aU (ae .ak .z)))
     (ak (ay 5 jp (fM K T.h0i (ae (eO rfl (dq ["total","count"] [none,some 4]) (kZ (ao (zlX T) hr (ae (ao (yx T) hr .cl) (q2 2 3)))) .L .ah (λ_ _ _ _ _=>(ao (zx0 T:) hr .cl))) ag)))
     (av (aA (ao (og T) hr (ae .cL (ae (ao (zq3 T) hr (q3 0 1 5)) ag))))))))
 obtain@⟨ra,rb,ns,xs,m,n,rfl,hr',hn',hx',hl,n0,ok,c,hm,q⟩:=h;have h8:=ok.sz.bC;have hp:=ok.sz.pos;have h60:=ok.bC;have hu:=ok.sz.upTo;obtain⟨n,rfl⟩:∃j:Nat,n=(j:Int):=⟨n.toNat,by lia⟩;rw[wE]at q ok h60 hm;k_few
 . rename_i z
   have hz:n=0:=by lia
   subst hz;exact q _ H .ar (fF 0 (T.gg _) rfl rfl)
 . rename_i z
   have h1n:1<=n:=by lia
   have cM:=zAh ok h1n c;have hml:=ZX ra rb ns xs n;have hne:=Hu h1n;have bn:af 6 .aM:=Gu h60;refine C8 .aJ;o_head RU.v (hr'.by S1) (hn'.by S1) (rh ok.ok ok.sz) () () .aK;have T2:=S1.trans S2;o_head Z_.v rfl (U:=ra) (S:=rb) (Z:=ns) i2 (hx'.by T2) () (by rw[wE];exact ok) hl (λi=>(c.get i).mono ()) .as;rw[wE]at i3;have i13:=i1.by .bL;obtain⟨a3,us,rfl,hs3,t3⟩:=cA.mp i3;have hul:=t3.length;rw[wn,rm]at hul;have bw:∀i,af 162000 ((iF (aB .bV 1 n) (GM.sumTo (aB .bV 1) n) xs (cD ra rb ns)).getD i 0):=λi=>((Z9 ok c).get i).mono ()
   o_head ke hs3 (o0:=none) (tl:=[some v1]) rfl (λj y H'=>Is K H' y (N ((kr ra rb ns xs n).getD j 0))) ?_ ?_
   . intro D j x ys o H4 hx inv
     obtain⟨hj,ix⟩:=cO t3 hx;rw[rm]at hj;o_head zxZ.v (ix.by inv.same) (i13.by inv.same) ((bw j).mono ⋯) (bn.mono ⋯) hne .bR;rw[<- SU hj]at i5;exact eT inv () fz ⟨_,rfl⟩ S5 i5
   . intro D ys H4 hn4 S4 e4 hl4 hr4
     have tz:ah K H4 ys ((kr ra rb ns xs n).map N):=fG (by rw[hl4,hul,hml]) hr4;o_head iI (cw e4 tz) .bR;have T5:=T2.trans (S3.trans .bj);have rok:dF ra rb ns (kr ra rb ns xs n):=⟨ok.ok.ba,ok.ok.bb,λk hk=>by have:=ok.sz.each k hk;lia,by rw[hml];exact hl,by lia,⟨_,cM,by lia⟩⟩;o_head UO.v (hr'.by T5) (hn'.by T5) i5 rok cM () (λv6 H6 S6 i6=>?_);have bt:af 160000 (c8 ra rb ns (kr ra rb ns xs n)):=(ZI rok cM () .ax).eH .bH;have i16:=i13.by (S4.trans (S5.trans S6));k_few;rename_i v7 H7 S7 i7;rw[zue hl h1n]at i7;exact q v7 H7 (T5.trans (S6.trans S7)) i7
def lI(ts:.a):List Bool:=ts.map λx=>decide (1<x)
theorem R8{ts:.a}(h:i<ts.length):(lI ts).getD i true=decide (1<ts.getD i 0):=by
 unfold lI;rw[wb,wA,wb,we h]
 rfl
def jN(a b:Rat)(ns:.p):Bool:=!((lI (dk a b ns (cf a b ns))).any id)
theorem zvA{a:Rat}(h:.aS)(k:dh ns)(hF:a^ns.sum.toNat≠1):dF a b ns (cf a b ns):=⟨h.ba,h.bb,λn hn=>by have:=k.each n hn;lia,by rw[k_ k.some];have:=k.some;lia,by have:=k.bC;lia,⟨268,zV h.ba h.bb k.bC k.upTo (by have:=k.sum;lia) hF,by have:=k.bC;have:=k.upTo;lia⟩⟩
inductive O_(K:wa)(v w:V)(H:Hp)(Q:VK)(E:XK):Prop|v(h1:.bo)(h2:Is K H w (TZ S))(ok:aK U Z)(sz:dh S)(ha:U≠1)(q:Rq H Q (.bl (jN U Z S)))
theorem ziT(T:.o):ms P w base T.Dm 9 O_:=by
 exists T.Dm,["rule","sizes"],"c2",(av (aA (rG (dE (show bN _ (.builtin "any") (GS K)from zzF rfl) rfl T.h0u zFS (ae (eO rfl (dq ["top"] [none]) (kZ (ao (zyu T) hr (ae .C (ae .X (ae (ao (RK T) hr .cl) ag))))) .L .ah (λ_ _ _ _ _=>(ao (jy T:) hr (ae .aa .ck)))) ag)))))
 obtain@⟨ra,rb,ns,hr',hn',ok,sz,ha,q⟩:=h;have h8:=sz.bC;have hps:=sz.pos;have hF:ra^ns.sum.toNat≠1:=λe=>ha ((lC ok ()).mp e)
 have rok:=zvA ok sz hF;o_head Ry.v hr' hn' (rh ok sz) () () (λe=>absurd e hF) (λ_ v1 H1 S1 i1=>?_);o_head zxB.v (hr'.by S1) (hn'.by S1) i1 rok .aK;obtain⟨a2,us,rfl,hs2,t2⟩:=cA.mp i2;have hl2:=t2.length;rw[wn,fH]at hl2;refine ke hs2 (o0:=none) (tl:=[]) rfl (λi v H=>v=V.bl ((lI (dk ra rb ns (cf ra rb ns))).getD i true)) ?_ ?_
 ·rintro D i x ys o H3 hx inv
  obtain⟨hi,ix⟩:=cO t2 hx;rw[fH]at hi;have ix3:=ix.by inv.same;have b1:=zS rok hi;have b2:af 1 1:=af.one;k_few;exact eT inv () (λ_ _ _ _ _ h=>h) ⟨_,rfl⟩ .ar (by rw[R8 (by rw[fH];exact hi)])
 ·rintro D ys H3 hn3 S3 e3 hl3 hr3
  have hz:=rR (bs:=lI (dk ra rb ns (cf ra rb ns))) (by unfold lI;rw[wn,fH];lia) hr3;rw[hz]at e3;o_head zDL (.of e3) ?_;k_few;exact q _ (S1.trans .bL)
def rK(ss:.a):List Bool:=ss.map λs=>decide (s=0)
theorem zyS{ts:.a}(h:i<ts.length):(rK ts).getD i true=decide (ts.getD i 0=0):=by
 unfold rK;rw[wb,wA,wb,we h]
 rfl
def dZ(a b:Rat)(ns:.p)(xs:.a):Bool:=if 1<a then decide (xs=cf a b ns)else if a=1 then(rK (cD a b ns)).all id else jN a b ns
inductive UI(K:wa)(v w u:V)(H:Hp)(Q:VK)(E:XK):Prop|v(h1:.bo)(h2:Is K H w (TZ S))(h3:Is K H u (TN W))(ok:aK U Z)(sz:dh S)(q:Rq H Q (.bl (dZ U Z S W)))
theorem zq6(T:.o):pc P w base T.Md 10 UI:=by
 exists T.Md,["rule","sizes","places","way"],"c3",(ak (ay 3 jp (ao (RE T) hr .ck))
     (ak (aY (dX K hu .ak fA) (av (aA (ji K hu (fM K T.h0i .cR) (ao (RK T) hr .cl)))) bE)
     (ak (aY (dX K hu .ak fA) (av (aA (dE (show bN _ (.builtin "all") (mX K)from pR rfl) rfl T.h0v pO (ae (eO rfl (dq ["shift"] [none]) (kZ (eI (ao (yx T) hr .cl))) .L .ah (λ_ _ _ _ _=>(ji K hu .C .y))) ag)))) bE)
     (av (aA (ao (ziT T) hr .cl))))))
 obtain@⟨ra,rb,ns,xs,hr',hn',hx',ok,sz,q⟩:=h;have h8:=sz.bC;have h1:=sz.some;have hps:=sz.pos;o_head zyn.v hr' (ok.ba.mono ⋯) ?_;unfold yE;unfold dZ at q
 by_cases z1:1<ra
 . rw[if_pos z1]at q ⊢
   have hF:ra^ns.sum.toNat≠1:=λe=>absurd ((lC ok ()).mp e) .aF
   o_head ju _ _ true (by rw[wP];decide) ?_;o_head Tr hx' ?_;o_head Ry.v hr' hn' (rh ok sz) () () (λe=>absurd e hF) (λ_ v1 H1 S1 i1=>?_);o_head B6 (hx'.by S1) i1 ?_;exact q _ S1
 . rw[if_neg z1]at q ⊢
   by_cases z2:ra=1
   . rw[if_pos z2]at q ⊢
     o_head ju _ _ false (by rw[wP];decide) ?_;o_head ju _ _ true (by rw[wP];decide) ?_;o_head RU.v hr' hn' (rh ok sz) () () .aJ;o_head aD (j:=1) i1 rfl (λv2 i2=>?_);obtain⟨a2,us,rfl,hs2,t2⟩:=cA.mp i2;have hl2:=t2.length;rw[wn]at hl2;have hsl:(cD ra rb ns).length=ns.length-1:=mW h1;have t2:ah K H1 us ((cD ra rb ns).map N):=t2;have hl2:us.length=(cD ra rb ns).length:=hl2;refine ke hs2 (o0:=none) (tl:=[]) rfl (λi v H=>v=V.bl ((rK (cD ra rb ns)).getD i true)) ?_ ?_
     . rintro D i x ys o H3 hx inv
       obtain⟨hi,ix⟩:=cO t2 hx;have ix3:=ix.by inv.same;k_few;exact eT inv () (λ_ _ _ _ _ h=>h) ⟨_,rfl⟩ .ar (by rw[zyS hi])
     . rintro D ys H3 hn3 S3 e3 hl3 hr3
       have hz:=rR (bs:=rK (cD ra rb ns)) (by unfold rK;rw[wn];lia) hr3;rw[hz]at e3;o_head oK (.of e3) ?_;exact q _ (S1.trans S3)
   . rw[if_neg z2]at q ⊢
     o_head ju _ _ false (by rw[wP];decide) ?_;o_head ju _ _ false (by rw[wP];decide) ?_;k_few;exact O_.v hr' hn' ok sz z2 q
theorem zAX(k:Nat):aX 1 b ns k xs=d9 ((k:Int):Rat) xs (aX 1 b ns 1 xs):=by
 have hl:=cu 1 b ns 1 xs;refine jd (by rw[cu,l_ ()]) λi hi=>?_
 rw[cu]at hi;rw[jQ () hi,gx hi,gx hi,GM.one_pow',nR,nR,je,je,GM.one_pow',GM.one_pow'];generalize (cD 1 b ns).getD i 0=s;rw[sR 1 s k,sR 1 s 1,Jw,Jw];have e:(((1:Nat):Int):Rat)=1:=by decide
 rw[e]
 grind
theorem Kt{a:Rat}(hF:a^ns.sum.toNat≠1)(hl:.D)(k:Nat):aX a b ns k xs=d9 (.I^k) (cf a b ns) xs:=by
 have hs:(cf a b ns).length=xs.length:=by rw[k_ ()];lia
 refine jd (by rw[cu,l_ hs,hs]) λi hi=>?_
 rw[cu]at hi;rw[jQ hs (),gx hi,UX (C1 hF ())]
theorem ZW{u v:Rat}(c0:0<=c)(c1:c<=1)(h:x<u)(k:y<v):x+c*(y-x)<u+c*(v-u):=by
 by_cases z:c=1
 ·subst z;grind
 ·have p:0<1-c:=by have:=qc c1 z;grind
  have h1:=Vv p (show 0<u-x by grind);have h2:=qq c0 (show 0<=v-y by grind)
  grind
theorem zDE(c0:0<c)(c1:c<=1)(h:x<=1)(k:y<1):x+c*(y-x)<1:=by
 have h1:=qq (show 0<=1-c by grind) (show 0<=1-x by grind);have h2:=Vv c0 (show 0<1-y by grind)
 grind
theorem m8{a:Rat} : cH a b ns xs=true ↔ (∀i,i<xs.length+1->(cR xs).getD (i+1) 0<(cR xs).getD i 0) /\ ∀i,i<ns.length->(dk a b ns xs).getD i 0<1:=by
 unfold cH;rw[vf,Wq,Wq]
 constructor
 ·rintro ⟨h1,h2⟩
  refine⟨λi hi=>?_,λi hi=>?_⟩
  ·have:=h1 _ (wW.mpr ⟨i,wN.mpr hi,rfl⟩)
   exact of_decide_eq_true this
  ·have:=h2 _ (wW.mpr ⟨_,getD_mem (d:=0) (show i<(dk a b ns xs).length by rw[fH];exact hi),rfl⟩)
   exact of_decide_eq_true this
 ·rintro ⟨h1,h2⟩
  refine⟨λx hx=>?_,λx hx=>?_⟩
  ·obtain⟨i,hi,rfl⟩:=wW.mp hx
   exact decide_eq_true (h1 i (wN.mp hi))
  ·obtain⟨t,ht,rfl⟩:=wW.mp hx
   obtain⟨i,hi,rfl⟩:=wW.mp ht;have:=h2 i (wN.mp hi);rw[mM (wN.mp hi)]at this;exact decide_eq_true this
theorem zyY(c:Rat)(h:.ag):cR (d9 c xs ys)=d9 c (cR xs) (cR ys):=by
 unfold cR;rw[Gz c (xs:=[1]++xs) (ys:=[1]++ys) (by simp[h])]
 have:d9 c ([1]++xs) ([1]++ys)=[1]++d9 c xs ys:=by
  show(1+c*(1-1))::d9 c xs ys=1::d9 c xs ys
  congr 1
  grind
 rw[this]
theorem zt4{a:Rat}(c:Rat)(hn:.D)(h:.ag)(hi:i<ns.length):(dk a b ns (d9 c xs ys)).getD i 0=(dk a b ns xs).getD i 0+c*((dk a b ns ys).getD i 0-(dk a b ns xs).getD i 0):=by
 have hm:(i+1) % ns.length<ns.length:=Qx _ ();rw[mM hi,mM hi,mM hi,<- Gz c h,G7 a b ns c (by simp[h]) (i+1) .aw,jQ (by rw[dP,dP];simp[h]) (by rw[dP];simp;lia)]
theorem zBI{a:Rat}(hn:.D)(h:.ag)(c0:0<=c)(c1:c<=1)(fx:cH a b ns xs=true)(fy:cH a b ns ys=true):cH a b ns (d9 c xs ys)=true:=by
 have hl:=l_ (c:=c) h;obtain⟨x1,x2⟩:=m8.mp fx;obtain⟨y1,y2⟩:=m8.mp fy;refine m8.mpr ⟨λi hi=>?_,λi hi=>?_⟩
 ·rw[hl]at hi
  rw[zyY c h,jQ (by rw[jB,jB,h]) (by rw[jB];lia),jQ (by rw[jB,jB,h]) (by rw[jB];lia)];exact ZW c0 c1 (x1 i hi) (y1 i ())
 ·rw[zt4 c hn h hi]
  have:=ZW c0 c1 (x2 i hi) (y2 i hi);have e:(1:Rat)+c*(1-1)=1:=by grind
  rw[e]at this;exact this
theorem Rv:∀l:List Rat,(∀i,i+1<l.length->l.getD (i+1) 0<l.getD i 0)->l.Pairwise (· > ·)
 | [],_=>.nil
 | x::l,h=>by
  have h':∀i,i+1<l.length->l.getD (i+1) 0<l.getD i 0:=λi hi=>by
   have:=h (i+1) .aw
   simpa using this
  have hd:∀j,j<l.length->l.getD j 0<x:=λj=>by
   induction j with
   | zero=>intro hj;have:=h 0 .aw;simpa using this
   | succ j ih=>intro hj;have h3:=h' j hj;have h4:=ih ();grind
  refine Vd.mpr ⟨λy hy=>?_,Rv l h'⟩;obtain⟨j,hj,e⟩:=vA hy;have:=hd j hj;rw[wb,we hj]at this
  show y<x
  rw[<- e];exact this
theorem zBL{l:.a}(h:l.Pairwise (· > ·))(hi:i+1<l.length):l.getD (i+1) 0<l.getD i 0:=by
 rw[wb,wb,we hi,we (show i<l.length by lia)];exact(Wo.mp h) i (i+1) () hi ()
theorem pJ(xs:.a)(i:Nat):(cR xs).getD (i+1) 0=(xs++[0]).getD i 0:=by
 unfold cR;rw[Wr]
 rfl
theorem zqD(h:∀i,i<xs.length+1->(cR xs).getD (i+1) 0<(cR xs).getD i 0):jS .aV/\(xs++[0]).getD 0 0<1:=by
 have pw:(xs++[0]).Pairwise (· > ·):=Rv _ λi hi=>by
  have:=h (i+1) (by simp at hi;lia);rw[pJ,pJ]at this;exact this
 refine⟨⟨pw,λy hy=>?_⟩,?_⟩
 ·rcases vG.mp hy with z | z
  ·exact Wk ((qC.mp pw).2.2 y z 0 (wZ.mpr rfl))
  ·rw[wZ.mp z];exact WX
 ·have:=h 0 ()
  rw[pJ]at this;exact this
theorem SA(pw:(xs++[0]).Pairwise (· > ·))(one:(xs++[0]).getD 0 0<1):∀i,i<xs.length+1->(cR xs).getD (i+1) 0<(cR xs).getD i 0
 | 0,_=>by rw[pJ];exact one
 | i+1,hi=>by rw[pJ,pJ];exact zBL pw .aw
theorem Jt{a:Rat}(h:.D):cQ a b ns xs++[0]=aQ a b ns .aV ns.length:=by
 have hl:=oW (a:=a) (b:=b) h;have hr:(aQ a b ns .aV ns.length).length=xs.length+1:=by rw[dP];simp
 refine jd (by rw[hr,wM,hl];rfl) λi hi=>?_
 rw[wM,hl]at hi;have hi:i<xs.length+1:=hi;rcases wJ i xs.length with z | z
 ·rw[Gd (),Hv h z]
 ·have e:i=xs.length:=by lia
  have e2:(cQ a b ns xs++[0]).getD i 0=0:=by rw[e,<- hl];exact tV
  rw[e2,e,h,aQ,ja _ _ _ _ _ _ (by rw[dP];simp),if_pos rfl]
theorem Rj{a b:Rat}(a0:0<a)(b0:0<=b){ns:.p}{row:.a}(F:jS row)(one:row.getD 0 0<1)(j8:∀t,t<row.length->fJ a b ns row t<1):∀i,i<=row.length->jS (turned a b ns row i)
 | 0,_=>F
 | i+1,hi=>by
  have ih:=Rj a0 b0 F one j8 i ()
  have oi:(aQ a b ns row i).getD i 0<1:=by
   cases i with
   | zero=>exact one
   | succ j =>
    have:=j8 j ();unfold fJ at this;rw[uh ()]at this;exact this
  obtain⟨x,l,ex⟩:∃x l,turned a b ns row i=x::l:=by
   cases e:turned a b ns row i with
   | nil =>
    have:=GA a b ns row () i;rw[e]at this;simp at this;lia
   | cons x l=>exact⟨x,l,rfl⟩
  have hx:x=(aQ a b ns row i).getD i 0:=by
   have:=Fw a b ns row (show i<row.length by lia);rw[ex]at this;exact this
  show jS (oY a b (ns.getD i 0).toNat (turned a b ns row i))
  rw[ex]at ih ⊢;exact ih.step a0 b0 (by rw[hx];exact oi)
theorem Y7{a:Rat}(ok:.aS)(hn:.D)(f:cH a b ns xs=true):∀i,i<(cQ a b ns xs).length+1->(cR (cQ a b ns xs)).getD (i+1) 0<(cR (cQ a b ns xs)).getD i 0:=by
 obtain⟨h1,h2⟩:=m8.mp f;obtain⟨F,one⟩:=zqD h1;have hl:(xs++[0]).length=ns.length:=by simp[hn]
 have j8:∀t,t<(xs++[0]).length->fJ a b ns .aV t<1:=λt ht=>by
  have:=h2 t ();rw[mM ()]at this;unfold fJ;rw[hl];exact this
 have Fl:=Rj ok.a0 ok.b0 F one j8 (xs++[0]).length .ax;rw[hl,zxr a b ns _ hl.symm,<- Jt hn]at Fl;have t:=j8 .aU ();unfold fJ at t;rw[hl,show ns.length-1+1=ns.length by lia,Nat.mod_self,<- Jt hn]at t;exact SA Fl.pw t
theorem zFu{a:Rat}(h:.aS){S:Nat}(hS:1<=S)(ha:a<1):0<a^S/\a^S<=1:=by
 obtain⟨m,rfl⟩:∃m,S=m+1:=⟨S-1,by lia⟩;exact⟨oG h.a0 _,Wk (RS h.a0 ha m)⟩
theorem zy5{a:Rat}(ok:.aS)(sz:dh ns)(hn:.D)(ha:a<1)(d:jN a b ns=true)(f:cH a b ns xs=true):cH a b ns (aX a b ns 1 xs)=true:=by
 have hps:=sz.pos
 have hF:a^ns.sum.toNat≠1:=λe=>by
  have:=(lC ok ()).mp e;rw[this]at ha;exact absurd ha ⋯
 have hs:(cf a b ns).length=xs.length:=by rw[k_ sz.some];lia
 refine m8.mpr ⟨?_,λi hi=>?_⟩
 ·rw[oz hn sz.nn]
  exact Y7 ok hn f
 ·rw[Kt hF hn 1,zt4 _ () hs hi]
  have hp:=zFu ok (show 1<=ns.sum.toNat by lia) ha;have e1:.I^1=a^ns.sum.toNat:=by rw[WV,Vz,Ql]
  rw[e1];refine zDE hp.1 hp.2 ?_ ((m8.mp f).2 i hi);unfold jN at d;rw[WY,List.any_eq_false]at d;have:=d (decide (1<(dk a b ns (cf a b ns)).getD i 0)) (wW.mpr ⟨_,getD_mem (d:=0) (show i<(dk a b ns (cf a b ns)).length by rw[fH];exact hi),rfl⟩)
  by_cases z:1<(dk a b ns (cf a b ns)).getD i 0
  ·exact absurd (decide_eq_true z) this
  ·exact W4.mp z
theorem zAe(c:Rat)(xs:.a):d9 c xs xs=xs:=jd (l_ rfl) λi hi=>by
 rw[l_ rfl]at hi;rw[jQ rfl hi]
 grind
def cK(a b:Rat)(ns:.p)(xs:.a)(k:Nat):Bool:=cH a b ns (aX a b ns k xs)
theorem kz{a:Rat}(ok:.aS)(sz:dh ns)(hk:k<=31):d_ a b ns k:=⟨ok,sz,by lia,by
 have h1:=sz.sum;have h2:(6*ns.sum.toNat+1+1)*k<=50*k:=Wb k ();lia⟩
theorem zF9{a:Rat}(ok:.aS)(sz:dh ns)(c:.bM)(hk:k<=31):Cm (m+188+102*k) (aX a b ns k xs):=(O3 (kz ok sz hk) c).mono (by
 have h1:=sz.sum;have h2:(6*ns.sum.toNat+3)*k<=51*k:=Wb k ();lia)
theorem GJ{a:Rat}(ok:.aS)(sz:dh ns)(hn:.D)(c:.bM)(hm:m<=74000)(hk:k<=30):dF a b ns (aX a b ns k xs):=⟨ok.ba,ok.bb,λn hn=>by have:=sz.each n hn;lia,by rw[cu];exact hn,by have:=sz.bC;lia,⟨_,zF9 ok sz c (),by have:=sz.bC;have:=sz.upTo;lia⟩⟩
def Ht(K:wa)(a:Ad):Sp:=λvs H Q E=>∃x0 x1 x2,vs=[x0,x1,x2] /\ ∃(ra rb:Rat)(ns:.p)(xs:.a),Is K H x0 (R ra rb)/\Is K H x1 (TZ ns)/\Is K H x2 (TN xs)/\aK ra rb/\dh ns/\ns.length=xs.length+1/\dF ra rb ns xs/\(dZ ra rb ns xs=false->∃n:Nat,n<=30/\(n=30\/cK ra rb ns xs n=false)/\(∀k,k<=n->dF ra rb ns (aX ra rb ns k xs))/\(∀k,k<n->∀j,af 138000 ((aX ra rb ns k xs).getD j 0))) /\
 (cK ra rb ns xs 0=false->Rq H Q (.int 0)) /\
 (cK ra rb ns xs 0=true->dZ ra rb ns xs=true->Rq H Q .bX) /\
 (∀c:Nat,1<=c->c<=30->dZ ra rb ns xs=false->(∀k,k<c->cK ra rb ns xs k=true)->cK ra rb ns xs c=false->Rq H Q (.int (c:Int))) /\
 (dZ ra rb ns xs=false->(∀k,k<=30->cK ra rb ns xs k=true)->∀H',au H H'->E (.ref a.jj) none H')
theorem zoR{v w:V}(h1:Is K H v (R ra rb))(h2:Is K H w (TZ ns))(h3:Is K H u (TN xs))(ok:aK ra rb)(sz:dh ns)(hn:.D)(r0:dF ra rb ns xs)(hb:dZ ra rb ns xs=false->∃n:Nat,n<=30/\(n=30\/cK ra rb ns xs n=false)/\(∀k,k<=n->dF ra rb ns (aX ra rb ns k xs))/\(∀k,k<n->∀j,af 138000 ((aX ra rb ns k xs).getD j 0)))
  (q0:cK ra rb ns xs 0=false->Rq H Q (.int 0))
  (q1:cK ra rb ns xs 0=true->dZ ra rb ns xs=true->Rq H Q .bX)
  (q2:∀c:Nat,1<=c->c<=30->dZ ra rb ns xs=false->(∀k,k<c->cK ra rb ns xs k=true)->cK ra rb ns xs c=false->Rq H Q (.int (c:Int)))
  (q3:dZ ra rb ns xs=false->(∀k,k<=30->cK ra rb ns xs k=true)->∀H',au H H'->E (.ref a.jj) none H'):Ht K a [v,w,u] H Q E:=⟨_,_,_,rfl,ra,rb,ns,xs,h1,h2,h3,ok,sz,hn,r0,hb,q0,q1,q2,q3⟩
theorem zqK{v w:V}(h1:Is K H v (R ra rb))(h2:Is K H w (TZ ns))(h3:Is K H u (TN xs))(ok:aK ra rb)(sz:dh ns)(hn:.D)(c:.bM)(hm:m<=74000)
  (q0:cK ra rb ns xs 0=false->Rq H Q (.int 0))
  (q1:cK ra rb ns xs 0=true->dZ ra rb ns xs=true->Rq H Q .bX)
  (q2:∀c:Nat,1<=c->c<=30->dZ ra rb ns xs=false->(∀k,k<c->cK ra rb ns xs k=true)->cK ra rb ns xs c=false->Rq H Q (.int (c:Int)))
  (q3:dZ ra rb ns xs=false->(∀k,k<=30->cK ra rb ns xs k=true)->∀H',au H H'->E (.ref a.jj) none H'):Ht K a [v,w,u] H Q E :=
 zoR h1 h2 h3 ok sz hn (by have:=GJ ok sz hn c hm (k:=0) ⋯;rw[lH]at this;exact this) (λ_=>⟨30,wu 30,.inl rfl,λk hk=>GJ ok sz hn c hm hk,λk hk j=>((zF9 ok sz c (k:=k) ()).get j).mono ()⟩) q0 q1 q2 q3
theorem zqv(T:.o):ii P w base T.LS 11 (Ht K a):=by
 exists T.LS,["rule","sizes","places","both","ahead","count"],"y3",(ak (aY (c7 (cF (ao (yN T) hr (q3 0 1 2)))) (av (aA ar)) bE)
     (ak (aY (cF (ao (zq6 T) hr (q3 0 1 2))) (av (aA gD)) bE)
     (ak (ay 3 jp (ao (yx T) hr .cl))
     (ak (ay 4 jp .au)
     (ak (fi XZ rfl (zzw rfl T.h0j (ae ar (ae (az cv (oQ rfl T.Mz) ar) ag))) (cC (i:=5) jp rfl .s) (ak (ay 4 jp (ao (zrM T) hr (ae .ak (ae .cL .z))))
     (av (aY (c7 (cF (ao (yN T) hr (q3 0 1 4)))) (av (aA .cI)) bE))))
     (av (ztZ T.aan rfl rfl T.NN YG (ae fA ag))))))))
 obtain⟨ra,rb,ns,xs,hr',hn',hx',ok,sz,hn,r0,hb,q0,q1,q2,q3⟩:=h;have h8:=sz.bC;have h1:=sz.some;have hps:=sz.pos;have e0:cK ra rb ns xs 0=cH ra rb ns xs:=by unfold cK;rw[lH]
 o_head YC.v hr' hn' hx' r0 (λH1 S1=>?_);k_few
 . rename_i z
   exact q0 (by rw[e0];exact z) H1 S1
 . rename_i z
   have hr1:=hr'.by S1;have hn1:=hn'.by S1;have hx1:=hx'.by S1;refine UI.v hr1 hn1 hx1 ok sz (λH2 S2=>?_);k_few
   . rename_i y
     exact q1 (by rw[e0];exact z) y H2 .aZ
   . rename_i y
     have y:dZ ra rb ns xs=false:=by first | exact y | exact ul _ ▸ y
     obtain⟨n,n30,stop,rd,bd⟩:=hb y;refine RU.v (hr1.by S2) (hn1.by S2) (rh ok sz) () () .as;have T3:au H H3:=S1.trans .bL;have hr3:=hr'.by T3;have hn3:=hn'.by T3;have hx3:=hx'.by T3;clear hr1 hn1 hx1 S1 S2 S3;o_head zBC ?_;o_head zwK (lo:=1) (hi:=31) ⋯ ⋯ ⋯ ⋯ (λi σ H'=>∃(v:V)(o:.bD),σ = [some x0,some x1,some x2,some v3,some v,o]/\au H3 H'/\Is K H' v (TN (aX ra rb ns i xs)) /\ ∀k,k<=i->cK ra rb ns xs k=true) ⟨_,_,rfl,au.refl _,by rw[lH];exact hx3,λk hk=>by rw[show k=0 by lia,e0];exact z⟩ ?_ ?_
     . rintro i σ H4 hi hz;obtain⟨v,o,rfl,S4,iv,fr⟩:=hz
       have hi:i<30:=hi;have i34:=i3.by S4
       have hin:i<n:=by
         rcases stop with e | e
         . lia
         . rcases wJ i n with u | u
           . exact u
           . rw[fr n u]at e;cases e
       o_head Ze.v rfl (Z:=cD ra rb ns) i34 iv ⋯ ⋯ (by rw[mW h1,cu];lia) (by rw[cu];lia) ((jG ok _).mono (by have:=sz.sum;lia)) (λj hj=>((kz ok sz (k:=1) ⋯).pow hj).mono ⋯) (λj hj=>((kz ok sz (k:=1) ⋯).aB hj).mono ⋯) (λj=>bd i hin j) (λj=>(yj ok sz j).mono ⋯) .bR;have i5:Is K H5 v5 (TN (aX ra rb ns 1 (aX ra rb ns i xs))):=i5;rw[p_]at i5;have T5:=S4.trans S5;o_head YC.v (hr3.by T5) (hn3.by T5) i5 (rd (i+1) ()) (λH6 S6=>?_);have T6:=T5.trans S6;k_few
       . rename_i w
         have q:=q2 (i+1) () () y (λk hk=>fr k ()) (by unfold cK;exact w) H6 (T3.trans T6);rw[show((i+1:Nat):Int)=1+(i:Int) by lia]at q;exact q
       . rename_i w
         refine⟨_,_,rfl,T6,i5.by S6,λk hk=>?_⟩;rcases wJ k (i+1)with u | u
         . exact fr k ()
         . have:k=i+1:=by lia
           subst this;unfold cK
           first | exact w | exact Bool.not_eq_false _ ▸ w
     . rintro σ H4 hz;obtain⟨v,o,rfl,S4,iv,fr⟩:=hz
       k_few;exact⟨by simp;decide,q3 y (λk hk=>fr k hk) H4 (T3.trans S4)⟩
inductive Pk(K:wa)(v u:V)(H:Hp)(Q:VK)(E:XK):Prop|v{U:.a}(e1:u=.int (U.length:Int))(i:Is K H v (.tuple (N Z::TN U::S)))(h8:U.length<=8)(q:Rq H Q .cJ)
theorem Yn(T:.o):ms P w base T.Du 3 Pk:=by
 exists T.Du,["row","worms"],"c2",(ak (aY (PW.pt (fI (c7 (cF (ao (zev T) hr .cb))) (fI (c7 (cF (dE .cA rfl T.h0c ko (ae .O (ae (jR (v:=.ty "tuple") rfl T.h0i oD rfl) ag))))) (g6 (iD K hu (cT K T.h0t .cb) .X))))) .bI bE)
     (av (aA (dE (show bN _ (.builtin "all") (mX K)from pR rfl) rfl T.h0v pO (ae (eO rfl (dq ["phase"] [none]) (kZ .O) .L .ah (λ_ _ _ _ _=>(ao (zev T:) hr .ck))) ag)))))
 obtain@⟨hh,ds,xs,rfl,hi,h8,q⟩:=h;o_head aD (j:=0) hi rfl (λv0 i0=>?_);k_few
 all_goals first | (rename_i e;rw[tQ]at e;cases (show true=false from e)) | skip
 refine aD (j:=1) hi rfl (λv1 i1=>?_);k_few
 all_goals first | (rename_i e;cases (show true=false from e)) | skip
 refine aD (j:=1) hi rfl (λv2 i2=>?_);o_head sU i2 ?_;k_few
 all_goals first | (rename_i e;exact absurd rfl e) | skip
 refine aD (j:=1) hi rfl (λv3 i3=>?_);k_few;obtain⟨a3,vs3,rfl,s3,t3⟩:=cA.mp i3;refine ke s3 (o0:=none) (tl:=[]) rfl (λj y _=>y=.bl true) ?_ ?_
 . intro D j x ys o H1 hx inv
   obtain⟨hj,ix⟩:=cO t3 hx;have ix:=ix.by inv.2.2.1;k_few;rw[tQ];exact eT inv () (λ_ _ _ _ _ h=>h) ⟨_,rfl⟩ .ar rfl
 . intro D ys H1 n1 S1 e1 l1 r1
   have ey:ys=(vy ys.length true).map V.bl:=by
     refine WS ∅ λi h1 h2=>?_
     rw[r1 i ys[i] (we h1)];simp
   rw[ey]at e1;o_head oK (.of e1) ?_;rw[show(vy ys.length true).all id=true by simp];exact q _ S1
def Z8(K:wa):Sp:=λvs H Q _=>∃x0 x1,vs=[x0,x1] /\ ∃(h:Rat)(xs:.a)(f g:Int),Is K H x0 (.tuple [N h,TN xs,.int f,.int g])/\x1=.int .cE/\xs.length<=8/\0<=f/\f<=30/\0<=g/\g<=40/\Rq H Q .cJ
theorem zzQ{f g:Int}{v:V}(e:xs.length=n)(i:Is K H v (.tuple [N h,TN xs,.int f,.int g]))(h8:xs.length<=8)(f0:0<=f)(f1:f<=30)(g0:0<=g)(g1:g<=40)(q:Rq H Q .cJ):Z8 K [v,.int (n:Int)] H Q E:=⟨_,_,rfl,h,xs,f,g,i,by rw[e],h8,f0,f1,g0,g1,q⟩
theorem zyX(T:.o):dL P w base T.N3 4 (Z8 K):=by
 exists T.N3,["thing","worms"],"b2",(ak (aY (PW.pt (fI (c7 (cF (dE .cA rfl T.h0c ko (ae .C (ae (jR (v:=.ty "tuple") rfl T.h0i oD rfl) ag))))) (fI (iD K hu (cT K T.h0t .ck) ar) (g6 (c7 (cF (ao (Yn T) hr .cl))))))) .bI bE)
     (av (aA (e_ (ao (zhx T) hr (ae ar (ae (oQ rfl T.Mz) .cb))) (gL (ao (zhx T) hr (ae ar (ae (oQ rfl T.aah) .cb))))))))
 obtain⟨hh,xs,f,g,hi,rfl,h8,f0,f1,g0,g1,q⟩:=h;k_few
 all_goals first | (rename_i e;cases (show true=false from e)) | skip
 refine nS hi ?_;k_few
 all_goals first | (rename_i e;exact absurd rfl e) | skip
 refine Pk.v rfl hi h8 (λH1 S1=>?_);have hi1:=hi.by S1;o_head aD (j:=2) hi1 rfl (λv2 i2=>?_);o_head YN.v rfl rfl i2 ?_;rw[show oM 0 30 (.int f)=true by simp[oM,f0,f1]];o_head aD (j:=3) hi1 rfl (λv3 i3=>?_);o_head YN.v rfl rfl i3 ?_;rw[show oM 0 40 (.int g)=true by simp[oM,g0,g1]];exact q _ S1
def gT(w:.am):Prop:=w="one"\/w="rests"\/w="drawn"
def YB(K:wa):Sp:=λvs H Q _=>∃x0 x1,vs=[x0,x1] /\ ∃(h:Rat)(xs:.a)(w:.am),Is K H x0 (.tuple [N h,TN xs,.str (wB w)])/\x1=.int .cE/\xs.length<=8/\gT w/\Rq H Q .cJ
theorem zqL{w:.am}{v:V}(e:xs.length=n)(i:Is K H v (.tuple [N h,TN xs,.str (wB w)]))(h8:xs.length<=8)(hw:gT w)(q:Rq H Q .cJ):YB K [v,.int (n:Int)] H Q E:=⟨_,_,rfl,h,xs,w,i,by rw[e],h8,hw,q⟩
def yf:List wF:=[.str (wB "one"),.str (wB "rests"),.str (wB "drawn")]
theorem JG{w:PySem.Str}(h:XB w=true):Sh 1 (.str w):=⟨by simpa [vD] using h,by simp[WC]⟩
theorem zwS :vD (.tuple yf)=true:=(oP (n:=1) λd hd=>by
 simp only[yf,wO,WT,or_false]at hd;rcases hd with rfl | rfl | rfl<;>exact JG (z8 _)).1
theorem zFG{w:.am}(t:a_ K H p [.str (wB "one"),.str (wB "rests"),.str (wB "drawn")])(h:gT w)(q:Q .cJ H):tH K (.str (wB w)) .ay H Q:=by
 refine⟨.str (wB w),yf,cN.mpr rfl,cA.mpr ⟨p,_,rfl,t,.cons .aY (.cons .aY (.cons .aY .nil))⟩,(JG (z8 _)).mono ⋯,zwS,?_⟩
 rw[show yf.any (wP · (.str (wB w)))=true by
  unfold yf;simp only[Qn,List.any_nil,wP,uX,uG,beq_iff_eq];rcases h with rfl | rfl | rfl<;>simp]
 exact q
theorem zpL(T:.o):dL P w base T.LJ 4 (YB K):=by
 refine T.LJ.F.ok zpw ?_ ?_;wtm_at "b2";have hgd:=hr.gd
 refine⟨_,(ak (aY (PW.pt (fI (c7 (cF (dE .cA rfl T.h0c ko (ae .C (ae (jR (v:=.ty "tuple") rfl T.h0i oD rfl) ag))))) (fI (iD K hu (cT K T.h0t .ck) ar) (g6 (c7 (cF (ao (Yn T) hr .cl))))))) .bI bE)
     (av (aA (e_ (dE .cA rfl T.h0c ko (ae .O (ae (jR (v:=.ty "str") rfl T.h0r zFW rfl) ag))) (gL (jF (show bV _ (vR .In) (tH K)from O1 hu) .O (cJ (v:=.ref a.DI) rfl T.aas rfl) .af)))))),?_⟩
 wtm_at "cl";rw[show start J0 [x0,x1]=[some x0,some x1]from rfl];obtain⟨hh,xs,ww,hi,rfl,h8,hw,q⟩:=h;k_few
 all_goals first | (rename_i e;cases (show true=false from e)) | skip
 refine nS hi ?_;k_few
 all_goals first | (rename_i e;exact absurd rfl e) | skip
 refine Pk.v rfl hi h8 (λH1 S1=>?_);have hi1:=hi.by S1;o_head aD (j:=2) hi1 rfl (λv2 i2=>?_);o_head zBA i2 ?_;rw[show Ie (.str (wB ww))=true from rfl];o_head aD (j:=2) hi1 rfl (λv3 i3=>?_);cases cN.mp i3;k_few;exact zFG (T.aat _) hw (q _ S1)
structure aV where
 h:Rat
 xs:List Rat
 r:Nat
 g:Nat
def aV.d(e:aV):wF:=.tuple [N e.h,TN e.xs,.int (e.r:Int),.int (e.g:Int)]
def gq(h:Rat)(xs:.a)(w:.am):wF:=.tuple [N h,TN xs,.str (wB w)]
inductive zol(K:wa)(v u:V)(H:Hp)(Q:VK)(E:XK):Prop|v{U:Nat}{Z:.cS}{w:.am}(e1:u=.int (U:Int))(i:Is K H v (.list (Z.map aV.d++[gq S W w])))(h8:U<=8)(hp:∀Y∈Z,Y.xs.length=U/\Y.r<=30/\Y.g<=40)(hx:W.length=U)(hw:gT w)(bC:Z.length<=100)(q:Rq H Q .cJ)
theorem Ur(ds:.cc)(d : α):L2.cutD (ds++[d]) none (some (-1))=ds:=by
 unfold L2.cutD;have e1:HT.bK (ds++[d]).length 0 none=0:=by simp[HT.bK]
 have e2:HT.bK (ds++[d]).length (ds++[d]).length (some (-1))=ds.length:=by
  rw[wM,vL];simp[HT.bK];lia
 rw[e1,e2];simp
theorem zGd(t:ah K H us (ps.map aV.d)){x:V}(hx:us[i]? = some x):∃e∈ps,i<ps.length/\Is K H x e.d:=by
 obtain⟨hi,ix⟩:=kl t hx;rw[wn]at hi;refine⟨ps[i],vF hi,hi,?_⟩;rw[wb,wA,we hi]at ix;exact ix
theorem zuA(T:.o):ms P w base T.M0 5 zol:=by
 exists T.M0,["thing","worms"],"c2",(ak (aY (PW.pt (fI (c7 (cF (dE .cA rfl T.h0c ko (ae .C (ae (jR (v:=.ty "list") rfl T.h0m fS rfl) ag))))) (g6 (c7 (AR .C))))) .bI bE)
     (av (aA (e_ (dE (show bN _ (.builtin "all") (mX K)from pR rfl) rfl T.h0v pO (ae (eO rfl (dq ["row","worms"] [none,some 1]) (fT (fN fK .C fW (fE .cs))) .L .ah (λ_ _ _ _ _=>(ao (zyX T:) hr .cl))) ag)) (gL (ao (zpL T) hr (ae (cB ck .C .cs .J) (q1 1))))))))
 obtain@⟨hl',xs,n,ps,wd,rfl,hi,h8,hp,hx',hw,bC,q⟩:=h;o_head zAU hi ?_;rw[show mV (PyData.list (ps.map aV.d++[gq hl' xs wd]))=true from rfl];o_head Fv hi ?_;rw[show(!(ps.map aV.d++[gq hl' xs wd]).isEmpty)=true by simp];o_head iE hi (λl1 H1 us n1 S1 e1 t1=>?_);rw[Ur]at t1;have lt:=t1.length;rw[wn]at lt;o_head lM (.of e1) (o0:=none) (tl:=[some (.int (n:Int))]) rfl (λj y _=>y=.bl true) ?_ ?_
 . intro D j x ys o H2 hx inv
   obtain⟨e,he,hj,ir⟩:=zGd t1 hx;obtain⟨p1,p2,p3⟩:=hp e he;unfold aV.d at ir;o_head zzQ p1 (ir.by inv.2.2.1) () () () () () (λH3 S3=>?_);k_few;exact eT inv () (λ_ _ _ _ _ h=>h) ⟨_,rfl⟩ S3 rfl
 . intro D ys H2 n2 S2 e2 l2 r2
   have ey:ys=(vy ys.length true).map V.bl:=by
     refine WS ∅ λi h1 h2=>?_
     rw[r2 i ys[i] (we h1)];simp
   rw[ey]at e2;o_head oK (.of e2) ?_;rw[show(vy ys.length true).all id=true by simp];have T2:=S1.trans S2;o_head jW (hi.by T2) (λv3 i3=>?_);unfold gq at i3;o_head zqL hx' i3 () hw (λH3 S3=>?_);exact q _ (T2.trans S3)
theorem yw{a:Rat}(ok:.aS){ps:.a}(L:gX xs (ps++[0]) fl ns)(hn:ns.length=ps.length+1)(f:cH a b ns ps=true) :
  gX (ai a b xs ns.length) (cQ a b ns ps++[0]) fl ns/\(∀t,t<ns.length->cE a b (ai a b xs t)=[bZ xs.length fl t])/\aE a b xs ns.length=c8 a b ns ps:=by
 have hl:(ps++[0]).length=ns.length:=by simp[hn]
 have j8:∀t,t<(ps++[0]).length->fJ a b ns (ps++[0]) t<1:=λt ht=>by
  have:=(m8.mp f).2 t ();rw[mM ()]at this;unfold fJ;rw[hl];exact this
 obtain⟨P,F,_,W⟩:=B3 ok.a0 ok.b0 L _ .ax j8;have ht:=ZG ok.a0 ok.b0 L _ .ax j8;rw[hl]at P W ht;rw[<- Jt hn]at P;have st:=zqD (Y7 ok hn f);have hbl:=oW (a:=a) (b:=b) hn;have hbl2:(cQ a b ns ps++[0]).length=(ps++[0]).length:=by simp[hbl]
 have hpl:=bS a b xs ns.length;refine⟨⟨P,st.1,st.2,by rw[hbl2];exact L.len,λc hc=>?_,λc hc=>?_⟩,W,?_⟩
 ·rw[hpl];exact L.some c ()
 ·rw[hpl];exact L.size c ()
 ·rw[ht];rfl
theorem ky{a b:Rat}(ok:.aS){xs ps:.a}{fl:Nat->Nat}{ns:.p}(L:gX xs (ps++[0]) fl ns)(hn:ns.length=ps.length+1)(n0:∀n∈ns,0<=n):∀k,(∀j,j<k->cK a b ns ps j=true) ->
  gX (ai a b xs (k*ns.length)) (aX a b ns k ps++[0]) fl ns/\aE a b xs (k*ns.length)=fV a b ns ps k
 | 0,_=>by
  rw[VD,lH];exact⟨L,rfl⟩
 | k+1,h=>by
  obtain⟨Lk,Hk⟩:=ky ok L hn n0 k λj hj=>h j ()
  have hl:ns.length=(aX a b ns k ps).length+1:=by rw[cu];exact hn
  obtain⟨L1,_,H1⟩:=yw ok Lk hl (h k ());rw[dS,<- oz hl n0,p_]at L1;have e:(k+1)*ns.length=k*ns.length+ns.length:=Vi ..;rw[e];refine⟨L1,?_⟩;rw[<- kf,Hk,H1]
  rfl
theorem Ux{a:Rat}(ok:.aS){ps:.a}(L:gX xs (ps++[0]) fl ns)(hn:ns.length=ps.length+1)(n0:∀n∈ns,0<=n){t:Nat}(h:∀j,j<k+1->cK a b ns ps j=true)(ht:t<ns.length):cE a b (ai a b xs (k*ns.length+t))=[bZ xs.length fl t]:=by
 obtain⟨Lk,_⟩:=ky ok L hn n0 k λj hj=>h j ()
 have hl:ns.length=(aX a b ns k ps).length+1:=by rw[cu];exact hn
 have:=(yw ok Lk hl (h k ())).2.1 t ht;rw[dS,bS]at this;exact this
theorem YS{a b:Rat}(a0:0<a)(b0:0<=b){xs row:.a}{fl:Nat->Nat}{ns:.p}(L:gX xs row fl ns):∀n,n<=row.length->(¬ ∀t,t<n->fJ a b ns row t<1)->∃t,t<n/\1<(cE a b (ai a b xs t)).length
 | 0,_,z=>absurd (λt ht=>by lia) z
 | n+1,hn,z=>by
  by_cases y:∀t,t<n->fJ a b ns row t<1
  ·refine⟨n,by lia,zzH a0 b0 L () y (λu=>z λt ht=>?_)⟩
   rcases wJ t n with k | k
   ·exact y t k
   ·have:t=n:=by lia
    rw[this];exact u
  ·obtain⟨t,h1,h2⟩:=YS a0 b0 L n () y
   exact⟨t,by lia,h2⟩
theorem zr7{a:Rat}(ok:.aS){ps:.a}(L:gX xs (ps++[0]) fl ns)(hn:ns.length=ps.length+1)(f:cH a b ns ps=false):∃t,t<ns.length/\1<(cE a b (ai a b xs t)).length:=by
 have hl:(ps++[0]).length=ns.length:=by simp[hn]
 refine YS ok.a0 ok.b0 L ns.length () λz=>?_
 have:cH a b ns ps=true:=m8.mpr ⟨SA L.mU.pw L.one,λi hi=>by
  have:=z i hi;unfold fJ at this;rw[hl]at this;rw[mM hi];exact this⟩
 rw[f]at this;cases this
theorem JN{row:.a}(L:gX xs row fl ns)(hn:xs.length=n):((wr n).map λw=>row.getD (fl w) 0)=xs:=by
 refine jd (by simp[hn]) λw hw=>?_
 have hw:w<n:=by simpa using hw
 rw[L.pl.at' w (),wb,wA,vZ hw]
 rfl
theorem oU(h1:.al)(h8:xs.length<=8):dh .aq:=by
 have hs:=oA xs;have hv:=jn xs;have hp:=lu h1;refine⟨by lia,by lia,λn hn=>?_,?_⟩
 ·have h2:=zwY xs n hn
  refine⟨?_,by lia⟩;obtain⟨v,hv,rfl⟩:=wW.mp hn;have hm:=n_ hv;obtain⟨j,hj,e⟩:=vA hm;have:j∈fm xs v:=ve.mpr ⟨wN.mpr hj,decide_eq_true (by rw[wb,we hj];exact e)⟩;have:=xG this;lia
 ·have h3:=GV xs
  have:=yH (iB xs);lia
def fC(a b:Rat)(xs:.a)(r:Nat):Prop:=∀k,k<r->cK a b .aq .aT k=true
structure iZ(a b:Rat)(xs:.a):Prop where
 ok:aK a b
 h1:1<=xs.length
 h8:xs.length<=8
 hp:cq xs
 h0:0∈xs
 cm:Cm 72000 xs
theorem iZ.round{a:Rat}(h:iZ a b xs):dF a b .aq .aT/\dh .aq/\(aG xs).length=(aH xs).length+1:=by
 have hz:aH xs++[0]=aj xs:=GW h.hp h.h0;have h8:=h.h8;have sz:=oU h.h1 h8;have hsl:=oA xs;have hvl:=jn xs;have hsu:=Zm xs;have hpl:(aH xs).length+1=(aj xs).length:=by rw[<- hz];simp
 refine⟨⟨h.ok.ba,h.ok.bb,λn hn=>by have:=sz.each n hn;lia,by lia,by lia,⟨72000,kn h.cm,by lia⟩⟩,sz,by lia⟩
theorem Hf(F:Rat):∀n:Nat,F^n=1+(F-1)*aB F 1 n
 | 0=>by
  rw[Vz]
  show(1:Rat)=1+(F-1)*0
  grind
 | n+1=>by
  rw[WV,Hf F n]
  show(1+(F-1)*aB F 1 n)*F=1+(F-1)*(F*aB F 1 n+1)
  grind
theorem Fq{F:Rat}(f0:0<F):∀n:Nat,aB F 1 n<aB F 1 (n+1)
 | 0=>by
  show(0:Rat)<F*0+1
  grind
 | n+1=>by
  have h:=Q1 (Fq f0 n) f0
  show F*aB F 1 n+1<F*aB F 1 (n+1)+1
  grind
theorem zFb(f0:0<F)(h:k<=n):aB F 1 k<=aB F 1 n:=by
 induction n with
 | zero =>
  have:k=0:=by lia
  subst this;exact WX
 | succ n ih =>
  rcases wJ k (n+1)with z | z
  ·exact Qw (ih ()) (Wk (Fq f0 n))
  ·have:k=n+1:=by lia
   subst this;exact WX
theorem TF{a:Rat}(ok:.aS)(hn:.D)(f0:cH a b ns xs=true)(f1:cH a b ns (aX a b ns n xs)=true)(hk:k<=n):cH a b ns (aX a b ns k xs)=true:=by
 cases n with
 | zero =>
  have:k=0:=by lia
  subst this;exact f1
 | succ n =>
  have F0:0<a^ns.sum.toNat:=Rat.pow_pos ok.a0
  have G0:0<aB .I 1 (n+1):=by
   have h1:=oX F0 (show(0:Rat)<=1 by decide) n;have h2:=Fq F0 n
   grind
  have Gn:aB .I 1 (n+1)≠0:=λe=>by rw[e]at G0;exact absurd G0 ⋯
  have Gk:=oX F0 (show(0:Rat)<=1 by decide) k;have Gl:=zFb F0 hk
  have e:aX a b ns k xs=d9 (aB .I 1 k / aB .I 1 (n+1)) xs (aX a b ns (n+1) xs):=by
   refine rD (by rw[cu,l_ (by rw[cu])]) λi hi=>?_
   rw[cu]at hi;rw[jQ (by rw[cu]) hi,gx hi,gx hi];unfold fR;rw[Hf .I k,Hf .I (n+1)];have hc:=WG (a:=aB .I 1 k) Gn;generalize aB .I 1 k / aB .I 1 (n+1)=c at *;generalize aB .I 1 (n+1)=G at *;rw[<- hc];generalize (cD a b ns).getD i 0=s;generalize xs.getD i 0=x;generalize a^ns.sum.toNat=F
   grind
  rw[e];have hc:=WG (a:=aB .I 1 k) Gn;refine zBI hn (by rw[cu]) ?_ ?_ f0 f1
  ·generalize aB .I 1 k / aB .I 1 (n+1)=c at *
   refine W4.mp λz=>?_
   have:=qA z G0
   grind
  ·generalize aB .I 1 k / aB .I 1 (n+1)=c at *
   refine W4.mp λz=>?_
   have:=qA z G0
   grind
def cX(a b:Rat)(ys:.a)(r:Nat):Prop:=r=0\/(0∈ys/\fC a b ys r)
theorem cX.none{a:Rat}(r1:1<=r)(h:¬ (0∈ys/\fC a b ys r)):¬ cX a b ys r:=λg=>by
 rcases g with g | g
 ·lia
 ·exact h g
theorem fC.first{a:Rat}(r1:1<=r)(f:fC a b ys r):cH a b (aG ys) (aH ys)=true:=by
 have:=f 0 ();unfold cK at this;rw[lH]at this;exact this
theorem fC.last{a:Rat}(r1:1<=r)(f:fC a b ys r):cH a b (aG ys) (aX a b (aG ys) (r-1) (aH ys))=true:=f (r-1) ()
theorem zAx{a:Rat}(ok:.aS)(h1:1<=ys.length)(h4:ys.length<=4)(h30:r<=30)(c:Cm 34000 ys):Cm 65400 (aX a b (aG ys) (r-1) (aH ys)):=by
 have sz:=oU h1 ();have sm:=sz.pos;have cp:Cm 34000 (aH ys):=kn c
 exact(O3 (kz ok sz ()) cp).mono (by
  have h3:=GV ys;have h5:=yH (iB ys);have h1:6*(aG ys).sum.toNat+3<=27:=by lia
  have h2:=Ve h1 (show r-1<=29 by lia);lia)
inductive zqM(K:wa)(v u:V)(H:Hp)(Q:VK)(E:XK):Prop|v{U:Nat}(e1:u=.int (U:Int))(h:Is K H v (bG Z S W))(ok:aK Z S)(h1:1<=W.length)(h8:W.length<=8)(hp:cq W)(c:Cm 34000 W)(r1:1<=U)(h30:U<=30)(qt:cX Z S W U->Rq H Q .cJ)(qf:¬ cX Z S W U->Rq H Q .cn)
theorem zwc(T:.o):ms P w base T.NK 9 zqM:=by
 exists T.NK,["swarm","rounds","both","last"],"c2",(ak (aY (c7 (cF (ao (EJ T) hr .ck))) .bI bE)
     (ak (ay 2 jp (sf (CM T) hr T.sM Fn .ck))
     (ak (ay 3 jp (ao (R7 T) hr (by exact(@ae _ _ _ _ _ .O (@ae _ _ _ _ _ (qi 2) (@ae _ _ _ _ _ (qi 2) (@ae _ _ _ _ _ (az fL .X ar) ag AU) gj) gj) gj))))
     (av (aA (e_ (ao (yN T) hr (ae .O (ae (qi 2) (ae (qi 2) ag)))) (gL (ao (yN T) hr (ae .O (ae (qi 2) (q1 3)))))))))))
 obtain@⟨ra,rb,xs,r,rfl,hw,ok,x1',x8,hp,cm,r1,h30,qt,qf⟩:=h
 by_cases z0:0∈xs
 case neg =>
   o_head U9.v hw ?_;rw[decide_eq_false z0];k_few;exact qf (cX.none r1 λh=>z0 h.1) _ .ar
 have sw:iZ ra rb xs:=⟨ok,x1',x8,hp,z0,cm.mono ⋯⟩;obtain⟨rok,sz,hn⟩:=sw.round;have bx:∀i,af 80000 .an:=λi=>(cm.get i).mono ⋯
 have cp:Cm 34000 .aT:=kn cm;have e1:((r:Int)-1).toNat=r-1:=by lia
 have hlk:d_ ra rb .aq ((r:Int)-1).toNat:=kz ok sz ();have hbp:∀i,af 138000 ((aH xs).getD i 0):=λi=>(cp.get i).mono ⋯
 o_head U9.v hw ?_;rw[decide_eq_true z0];o_head CS hw x8 bx (λz=>absurd z0 z) (λ_ vl H1 S1 il=>?_);have hw1:=hw.by S1;o_head aD (j:=0) hw1 rfl (λvr ir=>?_);o_head aD (j:=0) il rfl (λvz iz=>?_);o_head aD (j:=1) il rfl (λvp ip=>?_);o_head zhu.v rfl ir iz ip hn () hlk hbp .aK;rw[e1]at i2;o_head aD (j:=0) (hw1.by S2) rfl (λvr2 ir2=>?_);o_head aD (j:=0) (il.by S2) rfl (λvz2 iz2=>?_);o_head aD (j:=1) (il.by S2) rfl (λvp2 ip2=>?_);o_head YC.v ir2 iz2 ip2 rok (λH3 S3=>?_);have S23:=S2.trans S3;cases f0:cH ra rb .aq .aT
 case false =>
   k_few;exact qf (cX.none r1 λh=>by rw[h.2.first r1]at f0;cases f0) _ (S1.trans S23)
 o_head aD (j:=0) (hw1.by S23) rfl (λvr3 ir3=>?_);o_head aD (j:=0) (il.by S23) rfl (λvz3 iz3=>?_);o_head YC.v ir3 iz3 (i2.by S3) (GJ ok sz hn cp ⋯ ()) (λH4 S4=>?_);cases f1:cH ra rb .aq (aX ra rb .aq (r-1) .aT)
 case false=>exact qf (cX.none r1 λh=>by rw[h.2.last r1]at f1;cases f1) _ (S1.trans (S23.trans S4))
 case true=>exact qt (.inr ⟨z0,λk hk=>TF ok hn f0 f1 ()⟩) _ (S1.trans (S23.trans S4))
inductive UU(K:wa)(v u:V)(H:Hp)(Q:VK)(E:XK):Prop|v{U:Nat}(e1:u=.int (U:Int))(h:Is K H v (bG Z S W))(ok:iZ Z S W)(h30:U<=30)(f:fC Z S W U)(q:Rs K H Q (BD Z S W (U*(aj W).length)))
theorem EX{K:wa}{H:Hp} : ∀{xs:.a}{us:.x},ah K H us .bg->∃cs:List wf,us=cs.map V.ref
 | [],us,h=>⟨[],fO.mp h⟩
 | x::xs,us,h=>by
  obtain⟨v,r,rfl,iv,t⟩:=cP.mp h;obtain⟨a,_,rfl,_,_⟩:=cA.mp (show Is K H v (.tuple _)from iv);obtain⟨cs,rfl⟩:=EX t;exact⟨a::cs,rfl⟩
def iu(x:Rat):List Int:=[x.num,.ac]
theorem zBm(h:iu x=iu y):x=y:=by
 unfold iu at h
 injection h with h1 h2
 injection h2 with h2 _
 exact uT h1 ()
theorem zxk(h:xs.Nodup):(xs.map iu).Nodup:=by
 unfold List.Nodup at *;rw[Q5];exact h.imp λ{a b} n e=>n (zBm e)
theorem zuN(h:j<xs.length):(xs.map iu).getD j []=iu (xs.getD j 0):=by
 rw[wb,wA,wb,we h]
 rfl
theorem zzA{ks:.bm}{us ws:.bZ}(nd:ks.Nodup)(hl:ks.length=us.length)(hj:j<us.length):om (iR ks us ws) (ks.getD j [])=some (ws.getD j 0):=by
 unfold om iR;rw[List.find?_map];have pw:=Wo.mp nd;cases e:(wr us.length).find? ((λx:NE=>decide (x.1=ks.getD j [])) ∘ λj=>(ks.getD j [],us.getD j 0,ws.getD j 0))with
 | none =>
  have:=List.find?_eq_none.mp e j (wN.mpr hj);simp at this
 | some i =>
  have hm:=wN.mp (xb e);have hp:=uM e;have hp:ks.getD i []=ks.getD j []:=of_decide_eq_true hp;have hi:i<ks.length:=by lia
  have hj':j<ks.length:=by lia
  rw[wb,wb,we hi,we hj']at hp
  have hij:i=j:=by
   rcases ql i j with z | z | z
   ·exact absurd hp (pw i j hi hj' z)
   ·exact z
   ·exact absurd hp.symm (pw j i hj' hi z)
  rw[hij];rfl
theorem zzo{cs ws:.bZ}(t:ah K H (cs.map V.ref) .bg):Bb K H (iR (xs.map iu) cs ws):=by
 intro x hx;obtain⟨j,hj,rfl⟩:=wW.mp hx;have hj:=wN.mp hj;have hl:=t.length;simp only[wn]at hl;have:=(cO t (i:=j) (x:=.ref (cs.getD j 0)) (by rw[wA,wb,we hj];rfl)).2
 show Is K H (.ref (cs.getD j 0)) (TZ ((xs.map iu).getD j []))
 rw[zuN ()];exact this
theorem zhE(T:.o):ms P w base T.Dj 9 UU:=by
 exists T.Dj,["swarm","rounds","both","later","now","phases"],"c2",(ak (ay 2 jp (sf (CM T) hr T.sM Fn .ck))
     (ak (ay 3 jp (ao (R7 T) hr (by exact(@ae _ _ _ _ _ .O (@ae _ _ _ _ _ (qi 2) (@ae _ _ _ _ _ (qi 2) (@ae _ _ _ _ _ .X ag bM) gj) gj) gj))))
     (ak (ay 4 jp (zBD rfl (Vc (Xo ⋯ _) hu) rfl T.h0l rfl T.h0p (ae (az (show bV _ (WE .Add) (pT K)from zL) (qi 2) (aU (ae .y ag))) (ae (az (show bV _ (WE .Add) (pT K)from zL) .ak (aU (ae .y ag))) ag))))
     (ak (ay 5 jp (fM K T.h0i (ae (eO rfl (dq ["phase","now"] [none,some 4]) (kZ .O) .L .ah (λ_ _ _ _ _=>(show PE _ _ (Ep K _ _)from(zBx (by exact(Vc (Xo ⋯ _) hu)) .X .C .J)))) ag)))
     (av (aA (aU (ae (ao (zpF T) hr (by exact(@ae _ _ _ _ _ .O (@ae _ _ _ _ _ (qi 2) (@ae _ _ _ _ _ (qi 2) (@ae _ _ _ _ _ .X ag bM) gj) gj) gj))) (ae (aU (ae .O (q1 5))) ag)))))))))
 obtain@⟨ra,rb,xs,r,rfl,hw,ok,h30,fr,q⟩:=h;have hz:aH xs++[0]=aj xs:=GW ok.hp ok.h0;have h1:=ok.h1;have h8:=ok.h8;have sz:=oU h1 h8;have hsl:=oA xs;have hvl:=jn xs;have hvp:=lu h1;have hpl:(aH xs).length+1=(aj xs).length:=by rw[<- hz];simp
 have hn:(aG xs).length=(aH xs).length+1:=by lia
 have L:gX xs (aH xs++[0]) .b8 .aq:=by rw[hz];exact PX ok.hp.nn ok.hp.lt
 obtain⟨Lr,Hr⟩:=ky ok.ok L hn (iB xs) r fr;rw[hsl]at Lr Hr;have hel:=JN Lr (bS ra rb xs _);have bx:∀i,af 80000 .an:=λi=>(ok.cm.get i).mono ⋯
 have cp:Cm 72000 .aT:=kn ok.cm;have hlk:d_ ra rb .aq ((r:Int)).toNat:=by rw[wE];exact kz ok.ok sz ()
 have hbp:∀i,af 138000 ((aH xs).getD i 0):=λi=>(cp.get i).mono ⋯
 o_head CS hw h8 bx (λz=>absurd ok.h0 z) (λ_ vl H1 S1 il=>?_);have hw1:=hw.by S1;o_head aD (j:=0) hw1 rfl (λvr ir=>?_);o_head aD (j:=0) il rfl (λvz iz=>?_);o_head aD (j:=1) il rfl (λvp ip=>?_);o_head zhu.v rfl ir iz ip hn () hlk hbp .aK;rw[wE]at i2;o_head aD (j:=1) (il.by S2) rfl (λvp2 ip2=>?_);o_head cW (ds:=[N 0]) ∅ (.cons (fF 0 (T.gg _) rfl rfl) .nil) .as;refine Cj (ip2.by S3) i3 (by rw[wn];simp;lia) (λv4 H4 S4 i4=>?_);o_head cW (ds:=[N 0]) ∅ (.cons (fF 0 (T.gg _) rfl rfl) .nil) .bR;have S25:=S3.trans .bj;refine Cj (i2.by S25) i5 (by rw[wn,cu];simp;lia) (λv6 H6 S6 i6=>?_)
 have i46:Is K H6 v4 (TN (aj xs)):=by
   have:=i4.by (S5.trans S6);rw[<- hz];unfold TN;rw[wU];exact this
 have i66:Is K H6 v6 (TN (aX ra rb .aq r .aT++[0])):=by
   unfold TN;rw[wU];exact i6
 have S16:=S2.trans (S25.trans S6);have hw6:=hw1.by S16;have il6:=il.by S16;have T6:=S1.trans S16;clear hw hw1 il ir iz ip i2 ip2 i3 i4 i5 i6 S1 S2 S3 S4 S5 S6 S25 S16;have hrl:(aX ra rb .aq r .aT++[0]).length=(aj xs).length:=by rw[wM,cu];simp;lia
 generalize aX ra rb .aq r .aT++[0]=row at *;obtain⟨aa,us,rfl,hs1,tu⟩:=cA.mp i46;obtain⟨ab,ws,rfl,hs2,tw⟩:=cA.mp i66;obtain⟨cs,rfl⟩:=EX tu;obtain⟨ds,rfl⟩:=EX tw;have hcl:=tu.length;have hdl:=tw.length;simp only[wn]at hcl hdl;have nd:=zxk (zpu xs);have hkl:((aj xs).map iu).length=cs.length:=by rw[wn];lia
 o_head ⟨aa,ab,(aj xs).map iu,cs,ds,rfl,hs1,hs2,by lia,by lia,?_,nd,λD ep hD=>?_⟩
 . rw[VB]
   exact tu
 . have S7:au H6 (upd H6 D (jZ D ep (iR ((aj xs).map iu) cs ds))):=au.upd hD
   have e7:upd H6 D (jZ D ep (iR ((aj xs).map iu) cs ds)) D=some (jZ D ep (iR ((aj xs).map iu) cs ds)):=dR;generalize upd H6 D (jZ D ep (iR ((aj xs).map iu) cs ds))=H7 at *;have tu7:ah K H7 (cs.map V.ref) ((aj xs).map N):=ah.same S7 _ _ tu;have tw7:ah K H7 (ds.map V.ref) (row.map N):=ah.same S7 _ _ tw;have hw7:=hw6.by S7;o_head aD (j:=1) hw7 rfl (λvq iq=>?_);obtain⟨aq,uq,rfl,hsq,tq⟩:=cA.mp iq;have hql:=tq.length;rw[wn]at hql;refine ke hsq (o0:=none) (tl:=[some .bG]) rfl (λj y H'=>Is K H' y (N (((wr xs.length).map λw=>row.getD (aM xs w) 0).getD j 0))) ?_ ?_
   . intro D' j x ys o H8 hx inv
     obtain⟨hj,ix⟩:=cO tq hx;have S8:=inv.same;obtain⟨ax,_,rfl,_,_⟩:=cA.mp (show Is K H7 x (.tuple _)from ix);have hfl:=(mz xs).lt j hj;have hxe:xs.getD j 0=(aj xs).getD (aM xs j) 0:=(mz xs).at' j hj;o_head ⟨D,ax,ep,_,iu (xs.getD j 0),ds.getD (aM xs j) 0,rfl,rfl,S8 _ _ e7,zzo (ah.same S8 _ _ tu7),ix.by S8,?_,?_⟩
     . rw[hxe,<- zuN hfl]
       exact zzA nd hkl ()
     . refine eT inv () fz ⟨_,rfl⟩ .ar ?_
       have hr:((wr xs.length).map λw=>row.getD (aM xs w) 0).getD j 0=row.getD (aM xs j) 0:=by
         rw[wb,wA,vZ hj];rfl
       rw[hr];exact(cO tw7 (i:=aM xs j) (x:=.ref (ds.getD (aM xs j) 0)) (by rw[wA,wb,we ()];rfl)).2.by S8
   . intro D' ys H8 n8 S8 e8 hl8 hr8
     have t8:ah K H8 ys (((wr xs.length).map λw=>row.getD (aM xs w) 0).map N):=fG (by rw[hl8,hql];simp) hr8;rw[hel]at t8;o_head iI (cw e8 t8) (λv9 H9 S9 i9=>?_);have S69:=S7.trans (S8.trans S9);o_head aD (j:=0) (hw6.by S69) rfl (λvr9 ir9=>?_);o_head aD (j:=0) (il6.by S69) rfl (λvz9 iz9=>?_);o_head aD (j:=1) (il6.by S69) rfl (λvp9 ip9=>?_);k_few
     refine Rx.v rfl ir9 iz9 ip9 hn () hlk cp (by
       have h5:=sz.sum;rw[wE];have:(6*(aG xs).sum.toNat+3)*r<=51*30:=Ve () h30;lia) .cH
     rw[wE,<- Hr]at i10;o_head aD (j:=0) (hw6.by (S69.trans S10)) rfl (λvr10 ir10=>?_);o_head cW (ds:=[R ra rb,TN (ai ra rb xs .Q)]) ∅ (.cons ir10 (.cons (i9.by S10) .nil)) (λv11 H11 S11 i11=>?_);o_head cW (ds:=[N (aE ra rb xs .Q),bG ra rb (ai ra rb xs .Q)]) ∅ (.cons (i10.by S11) (.cons i11 .nil)) (λv12 H12 S12 i12=>?_);exact q v12 H12 (T6.trans (S69.trans (S10.trans .cx))) i12
inductive zkK(K:wa)(v u w:V)(H:Hp)(Q:VK)(E:XK):Prop|v{U:Nat}{Z:Nat}(e1:u=.int (U:Int))(e2:w=.int (Z:Int))(h:Is K H v (bG S W Y))(ok:aK S W)(h1:1<=Y.length)(h8:Y.length<=8)(f:1<=U->iZ S W Y/\U<=30/\fC S W Y U)(hg:Z<=40)(c:af 160000 (aE S W Y (U*(aj Y).length)))(c2:∀D,D<=Z->Cm 74000 (aE S W (ai S W Y (U*(aj Y).length)) D::ai S W (ai S W Y (U*(aj Y).length)) D))(q:Rs K H Q (BD S W Y (U*(aj Y).length+Z)))
theorem Px(T:.o):pc P w base T.Dt 10 zkK:=by
 exists T.Dt,["swarm","rounds","glows","first","then"],"c3",(ak (ay 3 jp (sX (dB kS .X ar .cG) (ao (zhE T) hr .cl) (aU (ae .y .ck))))
     (ak (ay 4 jp (ao (zyF T) hr (ae (qi 3) .cR)))
     (av (aA (aU (ae (ao (iV T) hr (ae (qi 3) (ae (qi 4) ag))) (ae (qi 4) ag)))))))
 obtain@⟨ra,rb,xs,r,g,rfl,rfl,hw,ok,h1,h8,f,hg,c,c2,q⟩:=h;k_few
 . rename_i z
   obtain⟨sw,h30,fr⟩:=f ();refine UU.v rfl hw sw h30 fr .aJ;o_head aD (j:=1) i1 rfl (λv2 i2=>?_);o_head Yr.v rfl i2 ok.ba ok.bb (by rw[bS];exact h1) (by rw[bS];exact h8) () () (by rw[wE];exact c2) .as;rw[wE]at i3;have i13:=i1.by S3;o_head aD (j:=0) i13 rfl .cT;o_head aD (j:=0) i3 rfl (λv5 i5=>?_);have b5:af 74000 (aE ra rb (ai ra rb xs .Q) g):=(c2 g .ax).eH .bH;k_few;rename_i v6 H6 S6 i6;refine aD (j:=1) (i3.by S6) rfl (λv7 i7=>?_);k_few;rw[kf]at i6;rw[dS]at i7;refine cW (ds:=[N (aE ra rb xs (r*(aj xs).length+g)),bG ra rb (ai ra rb xs (r*(aj xs).length+g))]) ∅ (.cons i6 (.cons i7 .nil)) .bv;exact q v8 H8 (S1.trans (S3.trans (S6.trans S8))) i8
 . rename_i z
   have hr0:r=0:=by lia
   refine cW (ds:=[N 0,bG ra rb xs]) ∅ (.cons (fF 0 (T.gg _) rfl rfl) (.cons hw .nil)) .aJ;have i1:Is K H1 v1 (BD ra rb xs .Q):=by rw[hr0,VD];exact i1
   o_head aD (j:=1) i1 rfl (λv2 i2=>?_);o_head Yr.v rfl i2 ok.ba ok.bb (by rw[bS];exact h1) (by rw[bS];exact h8) () () (by rw[wE];exact c2) .as;rw[wE]at i3;have i13:=i1.by S3;o_head aD (j:=0) i13 rfl .cT;o_head aD (j:=0) i3 rfl (λv5 i5=>?_);have b5:af 74000 (aE ra rb (ai ra rb xs .Q) g):=(c2 g .ax).eH .bH;k_few;rename_i v6 H6 S6 i6;refine aD (j:=1) (i3.by S6) rfl (λv7 i7=>?_);k_few;rw[kf]at i6;rw[dS]at i7;refine cW (ds:=[N (aE ra rb xs (r*(aj xs).length+g)),bG ra rb (ai ra rb xs (r*(aj xs).length+g))]) ∅ (.cons i6 (.cons i7 .nil)) .bv;exact q v8 H8 (S1.trans (S3.trans (S6.trans S8))) i8
def jX(h:Rat)(xs:.a)(r g:Nat):wF:=.tuple [N h,TN xs,.int (r:Int),.int (g:Int)]
def b_(a b:Rat)(xs:.a)(i r g:Nat):Nat:=i+(r*(aj .B).length+g)
def ny(a b:Rat)(xs:.a)(e:Nat × Nat × Nat):wF:=jX (aE a b xs e.1) (ai a b xs e.1) e.2.1 e.2.2
def sY(a b:Rat)(xs:.a)(n:Nat)(w:.am):wF:=.tuple [N (aE a b xs n),TN (ai a b xs n),.str (wB w)]
def jV(a b:Rat)(xs:.a)(es:.aD)(n:Nat)(w:.am):List wF:=es.map (ny a b xs)++[sY a b xs n w]
def kI(es:.aD)(n j:Nat):Nat:=(es.map (·.1)++[n]).getD j 0
theorem zzL(es:.aD)(n:Nat):kI es n es.length=n:=by
 unfold kI;rw[wb,vC ∅];simp
inductive Y9(K:wa)(v w u:V)(H:Hp)(Q:VK)(E:XK):Prop|v{Y:Nat}{D:Nat}(h0:.bo)(h1:Is K H w (jX S W Y D))(h2:Is K H u (.tuple (N h'::TN G::I)))(ok:aK U Z)(x1:1<=W.length)(x8:W.length<=8)(hp:cq W)(cm:Cm 34000 W)(c6:Y<=30)(hg:D<=40)(bh:af 70000 S)(c:∀J L,J+L<=Y*(aj W).length+D->Cm 70000 (aE U Z (ai U Z W J) L::ai U Z (ai U Z W J) L))(qf:¬ cX U Z W Y->Rq H Q .cn)(qt:cX U Z W Y->Rq H Q (.bl (decide (h'=S+aE U Z W (Y*(aj W).length+D))&&decide (G=ai U Z W (Y*(aj W).length+D)))))
theorem zvP(T:.o):pc P w base T.MT 11 Y9:=by
 exists T.MT,["rule","row","following","swarm","told"],"c3",(ak (ay 3 jp (aU (ae .C (ae .br ag))))
     (ak (aY (PW.pt (mB (dB kS .br ar .cG) (lY (c7 (cF (ao (zwc T) hr (ae .ak (ae .br ag)))))))) .bI bE)
     (ak (ay 4 jp (ao (Px T) hr (ae .ak (ae .br (ae .br ag)))))
     (av (aA (e_ (ji K hu (qi 2) (ao (iV T) hr (ae .br (ae (qi 4) ag)))) (gL (ji K hu (qi 2) (eI (qi 4))))))))))
 obtain@⟨ra,rb,hh,xs,hn,ys,ds,r,g,hr,hrow,hf,ok,x1',x8,hp,cm,c6,hg,bh,c,qf,qt⟩:=h;unfold jX at hrow;have bk:af 70000 (aE ra rb xs (r*(aj xs).length+g)):=(c 0 _ ()).eH .bH;have c1:af 160000 (aE ra rb xs .Q):=((c 0 .Q ()).eH .bH).mono ⋯;have c2:∀i,i<=g->Cm 74000 (aE ra rb (ai ra rb xs .Q) i::ai ra rb (ai ra rb xs .Q) i):=λi hi=>(c _ i ()).mono ⋯
 clear c;o_head aD (j:=1) hrow rfl (λv1 i1=>?_);o_head cW (ds:=[R ra rb,TN xs]) ∅ (.cons hr (.cons i1 .nil)) .aK;have i2:Is K H2 v2 (bG ra rb xs):=i2;have hrow2:=hrow.by S2;o_head aD (j:=2) hrow2 rfl (λv3 i3=>?_);rw[cj.mp i3];k_few
 all_goals first
   | (rename_i z
      refine aD (j:=2) hrow2 rfl (λv3 i3=>?_);rw[cj.mp i3];o_head zqM.v rfl i2 ok x1' x8 hp cm () c6 (λgo H3 F=>?_) (λng H3 F=>by k_few;exact qf ng H3 (S2.trans F));k_few)
   | (have F:=au.refl H2;have go:cX ra rb xs r:=.inl ())
 all_goals
   have q:=qt go;have hrow3:=hrow2.by F;have i23:=i2.by F;have T3:=S2.trans F;have hf3:=hf.by T3;clear F qf qt;refine aD (j:=2) hrow3 rfl .cT;rw[cj.mp i4];o_head aD (j:=3) hrow3 rfl (λv5 i5=>?_);rw[cj.mp i5];o_head zkK.v rfl rfl i23 ok x1' x8 (λr1=>go.elim (λe=>absurd e ()) λz=>⟨⟨ok,x1',x8,hp,z.1,cm.mono ⋯⟩,c6,z.2⟩) hg c1 c2 (λv6 H6 S6 i6=>?_);unfold BD at i6;have hf6:=hf3.by S6;o_head aD (j:=0) hf6 rfl (λv7 i7=>?_);o_head aD (j:=0) (hrow3.by S6) rfl (λv8 i8=>?_);o_head aD (j:=0) i6 rfl (λv9 i9=>?_);k_few
   . rename_i v10 H10 S10 i10 z
     have q':=q H10 (T3.trans (S6.trans S10));rw[decide_eq_true z,W3]at q';refine aD (j:=1) (hf6.by S10) rfl (λv11 i11=>?_);o_head aD (j:=1) (i6.by S10) rfl (λv12 i12=>?_);o_head aD (j:=1) (show Is K H10 v12 (bG ra rb _)from i12) rfl (λv13 i13=>?_);exact B6 i11 i13 q'
   . rename_i v10 H10 S10 i10 z
     have q':=q H10 (T3.trans (S6.trans S10));rw[decide_eq_false z,WO]at q';exact q'
def dW(a b:Rat)(xs:.a):Option String :=
 if(aj xs).length=1 then some "one"
 else if cH a b .aq .aT=true then
  if cQ a b .aq .aT=aH xs then some "rests"
  else if a<1/\jN a b .aq=true then some "drawn" else none
 else none
def mr:Option String->V
 | none=>.bX
 | some s=>.str (wB s)
def iC(a b:Rat)(xs:.a):Option String:=if 0∈xs then dW a b xs else if(aj xs).length=1 then some "one" else none
structure AK(a b:Rat)(xs:.a):Prop where
 ok:aK a b
 h1:1<=xs.length
 h8:xs.length<=8
 hp:cq xs
 cm:Cm 72000 xs
theorem AK.sw{a:Rat}(h:AK a b xs)(h0:0∈xs):iZ a b xs:=⟨h.ok,h.h1,h.h8,h.hp,h0,h.cm⟩
def JP(K:wa):Sp:=λvs H Q _=>∃x0,vs=[x0] /\ ∃(a b:Rat)(xs:.a),Is K H x0 (bG a b xs)/\AK a b xs/\Rq H Q (mr (iC a b xs))
theorem UY{a:Rat}{v:V}(h:Is K H v (bG a b xs))(ok:AK a b xs)(q:Rq H Q (mr (iC a b xs))):JP K [v] H Q E:=⟨_,rfl,a,b,xs,h,ok,q⟩
theorem zv6{a:Rat}{v:V}(h:Is K H v (bG a b xs))(ok:iZ a b xs)(q:Rq H Q (mr (dW a b xs))):JP K [v] H Q E:=UY h ⟨ok.ok,ok.h1,ok.h8,ok.hp,ok.cm⟩ (by unfold iC;rw[if_pos ok.h0];exact q)
theorem ZT(T:.o):dL P w base T.DC 10 (JP K):=by
 exists T.DC,["swarm","both"],"b1",(ak (aY (dX K hu (cT K T.h0t (ae (ao (zrB T) hr .ck) ag)) ar) (av (aA fA)) bE)
     (ak (aY (c7 (cF (ao (EJ T) hr .ck))) (av (aA gD)) bE)
     (ak (ay 1 jp (sf (CM T) hr T.sM Fn .ck))
     (ak (aY (c7 (cF (ao (yN T) hr (ae .O (ae .br (ae .br ag)))))) (av (aA gD)) bE)
     (ak (aY (dX K hu (ao (Zw T) hr (ae .O (ae .br (ae .br ag)))) .br) (av (aA fA)) bE)
     (ak (aY (PW.pt (mB (dX K hu (ao (RE T) hr .cb) fA) (lY (cF (ao (ziT T) hr (ae .O (ae .br ag))))))) (av (aA fA)) bE)
     (av (aA gD))))))))
 obtain⟨ra,rb,xs,hw,oka,q⟩:=h;unfold iC at q
 by_cases z0:0∈xs
 case neg =>
   rw[if_neg z0]at q;have h8:=oka.h8;have bx:∀i,af 80000 .an:=λi=>(oka.cm.get i).mono ⋯
   o_head zsp.v hw h8 bx (λlf H1 us1 n1 S1 e1 t1=>?_);have hul:=t1.length;rw[wn]at hul;have hw1:=hw.by S1;o_head eP (.of e1) ?_;rw[hul];k_few
   . rename_i z
     rw[if_pos ()]at q;exact q _ S1
   . rename_i z
     rw[if_neg ()]at q;refine U9.v hw1 ?_;rw[decide_eq_false z0];k_few;exact q _ S1
 rw[if_pos z0]at q;have ok:=oka.sw z0;obtain⟨rok,sz,hn⟩:=ok.round;have h8:=ok.h8;have bx:∀i,af 80000 .an:=λi=>(ok.cm.get i).mono ⋯
 have bp:∀i,af 80000 ((aH xs).getD i 0):=λi=>((kn ok.cm).get i).mono ⋯
 unfold dW at q;o_head zsp.v hw h8 bx (λlf H1 us1 n1 S1 e1 t1=>?_);have hul:=t1.length;rw[wn]at hul;have hw1:=hw.by S1;o_head eP (.of e1) ?_;rw[hul];k_few
 . rename_i z
   have z:(aj xs).length=1:=by lia
   rw[if_pos z]at q;exact q _ S1
 . rename_i z
   have z:¬ (aj xs).length=1:=by lia
   rw[if_neg z]at q;refine U9.v hw1 ?_;rw[decide_eq_true ok.h0];o_head CS hw1 h8 bx (λz=>absurd ok.h0 z) (λ_ vl H2 S2 il=>?_);have hw2:=hw1.by S2;o_head aD (j:=0) hw2 rfl (λvr ir=>?_);o_head aD (j:=0) il rfl (λvz iz=>?_);o_head aD (j:=1) il rfl (λvp ip=>?_);o_head YC.v ir iz ip rok (λH3 S3=>?_);have T3:=S1.trans .bL;have hw3:=hw2.by S3;have il3:=il.by S3;clear hw hw1 hw2 il ir iz ip S1 S2 S3 e1 t1 n1;k_few
   . rename_i y
     rw[if_neg (by rw[y];decide)]at q;exact q _ T3
   . rename_i y
     rw[if_pos y]at q;refine aD (j:=0) hw3 rfl (λvr ir=>?_);o_head aD (j:=0) il3 rfl (λvz iz=>?_);o_head aD (j:=1) il3 rfl (λvp ip=>?_);o_head YM.v ir iz ip rok (λv4 H4 S4 i4=>?_);o_head aD (j:=1) (il3.by S4) rfl (λvp4 ip4=>?_);refine B6 i4 ip4 ?_;k_few
     . rename_i u
       rw[if_pos u]at q;exact q _ (T3.trans S4)
     . rename_i u
       rw[if_neg u]at q;refine aD (j:=0) (hw3.by S4) rfl (λvr4 ir4=>?_);o_head zyn.v ir4 (ok.ok.ba.mono ⋯) ?_;unfold yE
       by_cases z1:1<ra
       . rw[if_pos z1]
         o_head ju _ _ false (by rw[wP];decide) ?_;k_few;rw[if_neg (λh=>absurd h.1 .aF)]at q;exact q _ (T3.trans S4)
       . rw[if_neg z1]
         by_cases z2:ra=1
         . rw[if_pos z2]
           o_head ju _ _ false (by rw[wP];decide) ?_;k_few;rw[if_neg (λh=>absurd h.1 .aF)]at q;exact q _ (T3.trans S4)
         . rw[if_neg z2]
           have ha:ra<1:=by
             by_cases h:ra<1
             . exact h
             . exact absurd (qc (W4.mp h) (WN z2)) z1
           o_head ju _ _ true (by rw[wP];decide) ?_;o_head aD (j:=0) (hw3.by S4) rfl (λvr5 ir5=>?_);o_head aD (j:=0) (il3.by S4) rfl (λvz5 iz5=>?_);o_head O_.v ir5 iz5 ok.ok sz z2 (λH5 S5=>?_);k_few
           . rename_i d
             rw[if_pos ⟨ha,d⟩]at q;exact q _ (T3.trans .bj)
           . rename_i d
             rw[if_neg (λh=>by rw[h.2]at d;cases d)]at q;exact q _ (T3.trans .bj)
def Ov(B:Int)(x:Rat):Prop:=∃t:Int,x=wC t B
theorem Ov.zero(B:Int):Ov B 0:=⟨0,by simp⟩
theorem Ov.more{d:Int}(h:Ov B x)(hB:0<B)(hd:0<d):Ov (B*d) x:=by
 obtain⟨t,rfl⟩:=h;exact⟨t*d,sS hB hd⟩
theorem zDs(t u:Int):∃m,Bd m t/\Bd m u:=⟨t.natAbs+u.natAbs,⟨Vc (by lia:t.natAbs<=t.natAbs+u.natAbs) Xp⟩,⟨Vc (by lia:u.natAbs<=t.natAbs+u.natAbs) Xp⟩⟩
theorem zF8{a:Rat}(h:.aS):Bd 6 a.num:=by
 have h1:=h.a0;have h2:=h.a4;have h3:=h.ad;have n0:0<=a.num:=qX.mpr (Wk h1)
 have n1:a.num<=4*a.den:=by
   have:=(xY a 4).mp h2
   simpa using this
 exact ⟨by have : (2 : Nat) ^ 6 = 64 := by decide
           lia⟩
theorem zGE{a:Rat}(h:.aS):Bd 4 .E:=by
 have h3:=h.ad
 exact ⟨by have : (2 : Nat) ^ 4 = 16 := by decide
           lia⟩
theorem zGg{a:Rat}(h:.aS):Bd 4 b.num:=by
 have h1:=h.b0;have h2:=h.b1;have h3:=h.bd;have n0:0<=b.num:=qX.mpr h1
 have n1:b.num<=b.den:=by
   have:=(xY b 1).mp h2
   simpa using this
 exact ⟨by have : (2 : Nat) ^ 4 = 16 := by decide
           lia⟩
theorem Ov.push{a:Rat}(ok:.aS)(hB:0<B)(hd:.bc ∣ B)(h:Ov B x)(n:Nat):Ov (B*.E^n) (push a b n x):=by
 obtain⟨t,rfl⟩:=h;obtain⟨m,h1,h2⟩:=zDs t B;obtain⟨_,_,_,T,e,_⟩:=zqj (zF8 ok) (zGE ok) (zGg ok) hB hd h1 h2 n;exact⟨T,e⟩
theorem tM(a:Rat)(n:Nat):0<.E^n:=X4 (den_pos a)
theorem Ov.up{a:Rat}(h:Ov B x)(hB:0<B)(n:Nat):Ov (B*.E^n) x:=h.more hB (tM a n)
theorem UH(h:∀x∈xs,Ov B x)(i:Nat):Ov B .an:=by
 rcases wJ i xs.length with z | z
 ·exact h _ (getD_mem z)
 ·rw[wb,wQ z];exact Ov.zero B
theorem zyI(h:∀i,i<xs.length->Ov B .an):∀x∈xs,Ov B x:=λx hx=>by
 obtain⟨j,hj,rfl⟩:=vA hx;have:=h j hj;rw[wb,we hj]at this;exact this
theorem zuL{a b:Rat}(ok:.aS):∀(n:Nat)(B:Int)(ps:.a)(left:List Nat),0<B->.bc ∣ B->left.Nodup->(∀w∈left,w<ps.length)->(∀x∈ps,Ov B x)->∀x∈(dA a b n ps left).2.2,Ov (B*.E^(dA a b n ps left).1.flatten.length) x
 | 0,B,ps,left,hB,_,_,_,h=>λx hx=>by
  have:Ov (B*.E^0) x:=by rw[QD,Qh];exact h x hx
  exact this
 | n+1,B,ps,left,hB,hd,nd,lt,h=>by
  by_cases e:aC ps left=[]
  ·rw[pg e]
   intro x hx;have:Ov (B*.E^0) x:=by rw[QD,Qh];exact h x hx
   exact this
  ·rw[kx e]
   have nd':(cg left .aL).Nodup:=rF nd;have lt':=q_ (wave:=aC ps left) lt
   have ih:=zuL ok n (B*.E^(aC ps left).length) (di (a^(aC ps left).length) (aB a b (aC ps left).length) ps (cg left .aL)) (cg left .aL) (Wj hB (tM a _)) (qG hd (VP ..)) nd' (λw hw=>by rw[jx];exact lt' w hw) (zyI λi hi=>by
    rw[kb _ _ _ _ nd' lt']
    split
    ·rw[<- je];exact(UH h i).push ok hB hd _
    ·exact(UH h i).up hB _)
   intro x hx;have:=ih x hx
   show Ov (B*.E^(aC ps left::_).flatten.length) x
   rw[VO,wM,X6,<- V8];exact this
theorem Ov.rise(hx:Ov B x)(hy:Ov B y)(hB:0<B):Ov B (x+(1-y)):=by
 obtain⟨t,rfl⟩:=hx;obtain⟨z,rfl⟩:=hy;refine⟨t+B-z,?_⟩
 symm
 refine gr () ?_;have q1:=dG t (show B≠0 by lia);have q2:=dG z (show B≠0 by lia);have q3:((t+B-z:Int):Rat)=(t:Rat)+(B:Rat)-(z:Rat):=by push_cast;rfl
 rw[q3,<- q1,<- q2]
 grind
def lq(a b:Rat)(xs:.a):Nat:=(cE a b xs).flatten.length
theorem zC3{a:Rat}(ok:.aS)(hB:0<B)(hd:.bc ∣ B)(h1:.al)(h:∀x∈xs,Ov B x):∀y∈dH a b xs,Ov (B*.E^lq a b xs) y:=by
 have hr:∀x∈cb xs,Ov B x:=λx hx=>by
  obtain⟨y,hy,rfl⟩:=wW.mp hx;exact(h y hy).rise (h _ (gY h1)) hB
 have:=zuL ok xs.length B .cd .G hB hd W1 (λw hw=>by rw[fX];exact wN.mp hw) hr;intro y hy;rcases zBg y hy with z | z
 ·exact this y z
 ·rw[z];exact Ov.zero _
def cV(a b:Rat)(xs:.a):Nat->Nat
 | 0=>0
 | k+1=>cV a b xs k+lq a b .bW
theorem rf(a b:Rat)(xs:.a)(m:Nat):∀k,cV a b xs (m+k)=cV a b xs m+cV a b (ai a b xs m) k
 | 0=>rfl
 | k+1=>by
  show cV a b xs (m+k)+lq a b (ai a b xs (m+k))=cV a b xs m+(cV a b (ai a b xs m) k+lq a b (ai a b (ai a b xs m) k))
  rw[rf a b xs m k,dS];lia
theorem J_{a b:Rat}(ok:.aS){B:Int}(hB:0<B)(hd:.bc ∣ B){xs:.a}(h1:.al)(h:∀x∈xs,Ov B x):∀k,(∀y∈ai a b xs k,Ov (B*.E^cV a b xs k) y)/\Ov (B*.E^cV a b xs k) (aE a b xs k)
 | 0=>by
  show(∀y∈xs,Ov (B*.E^0) y)/\Ov (B*.E^0) 0
  rw[QD,Qh];exact⟨h,Ov.zero B⟩
 | k+1=>by
  obtain⟨hp,hh⟩:=J_ ok hB hd h1 h k;have hBk:=Wj hB (tM a (cV a b xs k));have hpl:=bS a b xs k
  have e:B*.E^cV a b xs (k+1)=B*.E^cV a b xs k*.E^lq a b .bW:=by
   rw[V8,<- X6];rfl
  rw[e];refine⟨zC3 ok hBk (qG hd (VP ..)) () hp,?_⟩;exact(Ov.rise hh (hp _ (gY ())) hBk).up hBk _
theorem Yv{a b:Rat}(a0:0<a)(b0:0<=b){xs:.a}(h1:.al)(hp:cq xs):∀k:Nat,0<=aE a b xs k/\aE a b xs k<=((k:Int):Rat)
 | 0=>⟨WX,WX⟩
 | k+1=>by
  obtain⟨l,u⟩:=Yv a0 b0 h1 hp k;have hk:=hp.at a0 b0 k;have hm:=gY (xs:=ai a b xs k) (by rw[bS];exact h1);have m0:=hk.nn _ hm;have m1:=hk.lt _ hm;have e:aE a b xs (k+1)=aE a b xs k+(1-bQ .bW):=rfl;have ek:(((k+1:Nat):Int):Rat)=((k:Int):Rat)+1:=by push_cast;rfl
  rw[e,ek];exact⟨by grind,by grind⟩
theorem IX{l:Nat}(hB:0<B)(bB:Bd m B)(h:Ov B x)(x0:0<=x)(x1:x<=(((2^l:Nat):Int):Rat)):∃t:Int,x=wC t B/\Bd (m+l+1) t:=by
 obtain⟨t,rfl⟩:=h;refine⟨t,rfl,?_⟩;have q1:=dG t (show B≠0 by lia);have hBr:(0:Rat)<(B:Rat):=uE.mpr hB;have t0:(0:Rat)<=(t:Rat):=by rw[<- q1];exact qq x0 (Wk hBr)
 have t1:(t:Rat)<=(((2^l:Nat):Int):Rat)*(B:Rat):=by
  rw[<- q1];exact QE x1 (Wk hBr)
 have t0':0<=t:=Rat.intCast_nonneg.mp t0
 have t1':t<=((2^l:Nat):Int)*B:=by
  rw[<- vY]at t1;exact Vw.mp t1
 have b:=bB.lt;refine⟨?_⟩
 have hb:t.natAbs<=2^l*B.natAbs:=by
  have e:((2^l*B.natAbs:Nat):Int)=((2^l:Nat):Int)*B:=by
   rw[VF]
   congr 1
   lia
  lia
 have:2^l*B.natAbs<2^l*2^m:=Nat.mul_lt_mul_of_pos_left b (Wz l);have e2:2^(m+l+1)=2^l*2^m*2:=by rw[Xy,X3,xf (2^m)]
 lia
theorem zDc{a:Rat}(ok:.aS)(h:Bd m B)(n:Nat):Bd (m+3*n) (B*.E^n):=by
 refine⟨?_⟩;have h1:=h.lt;have h8:=ok.ad;rw[xL,Int.natAbs_pow,Int.natAbs_natCast,X3,Nat.pow_mul];have e:(2:Nat)^3=8:=by decide
 rw[e];have h2:a.den^n<=8^n:=Nat.pow_le_pow_left h8 n;have hp:0<8^n:=Nat.pow_pos ⋯;exact Vc (qJ _ h2) (Nat.mul_lt_mul_of_pos_right h1 hp)
theorem Ov.sub(hx:Ov B x)(hy:Ov B y)(hB:0<B):Ov B (x-y):=by
 obtain⟨t,rfl⟩:=hx;obtain⟨z,rfl⟩:=hy;refine⟨t-z,?_⟩
 symm
 refine gr () ?_;have q1:=dG t (show B≠0 by lia);have q2:=dG z (show B≠0 by lia);have q3:((t-z:Int):Rat)=(t:Rat)-(z:Rat):=by push_cast;rfl
 rw[q3,<- q1,<- q2]
 grind
theorem FH{a:Rat}(ok:.aS)(c:gO b.den m xs)(h1:.al)(hp:cq xs){l:Nat}(hk:k<=2^l):Cm (m+3*cV a b xs (i+k)+l+1) (aE a b .B k::ai a b .B k):=by
 obtain⟨B,hB,hd,bB,hx⟩:=c;have hov:=J_ ok hB hd h1 (λx hx'=>let ⟨t,e,_⟩:=hx x hx';⟨t,e⟩);obtain⟨hph,hh⟩:=hov (i+k);have hBk:=Wj hB (tM a (cV a b xs (i+k)))
 have hi:Ov (B*.E^cV a b xs (i+k)) (aE a b xs i):=by
  have:=((hov i).2).up (a:=a) (Wj hB (tM a (cV a b xs i))) (cV a b .B k);rw[V8,<- X6,<- rf]at this;exact this
 have hhk:Ov (B*.E^cV a b xs (i+k)) (aE a b .B k):=by
  have e:aE a b .B k=aE a b xs (i+k)-aE a b xs i:=by
   have:=kf a b xs i k
   grind
  rw[e];exact hh.sub hi hBk
 have bb:=zDc ok bB (cV a b xs (i+k));have hpi:=hp.at ok.a0 ok.b0 i;have hpk:=hpi.at ok.a0 ok.b0 k;have hl:(((k:Nat):Int):Rat)<=(((2^l:Nat):Int):Rat):=Vw.mpr ()
 have h1l:(1:Rat)<=(((2^l:Nat):Int):Rat):=by
  have:((1:Int):Rat)<=(((2^l:Nat):Int):Rat):=Vw.mpr (by have:=Wz l;lia);exact this
 refine⟨_,hBk,bb.mono (),λx hx'=>?_⟩;rcases wO.mp hx' with rfl | hx'
 ·have hb:=Yv ok.a0 ok.b0 (xs:=ai a b xs i) (by rw[bS];exact h1) hpi k
  exact IX hBk bb hhk hb.1 (Qw hb.2 hl)
 ·have:=hph x (by rw[<- dS];exact hx')
  exact IX hBk bb this (hpk.nn x hx') (Qw (Wk (hpk.lt x hx')) h1l)
theorem zA9{a:Rat}(a0:0<a)(b0:0<=b)(h1:.al)(hp:cq xs):lq a b xs<=xs.length:=by
 obtain⟨v,J⟩:=yF a0 b0 h1 hp.nn hp.lt;unfold lq;rw[J.perm.length_eq];unfold seg;have:=Wl (λw=>decide (0<=aM xs w)&&decide (aM xs w<v)) .G;rw[vv]at this;exact this
theorem yb{a b:Rat}(a0:0<a)(b0:0<=b){xs:.a}(h1:.al)(hp:cq xs):∀k,cV a b xs k<=k*xs.length
 | 0=>Vh _
 | k+1=>by
  have ih:=yb a0 b0 h1 hp k;have hl:=bS a b xs k;have:=zA9 a0 b0 (xs:=ai a b xs k) () (hp.at a0 b0 k);rw[Vi]
  show cV a b xs k+lq a b .bW<=_
  lia
theorem R1{a:Rat}(a0:0<a)(b0:0<=b)(h1:.al)(hp:cq xs):1<=(cE a b xs).length:=by
 obtain⟨v,J⟩:=yF a0 b0 h1 hp.nn hp.lt;obtain⟨ws,e,_⟩:=J.first;rw[e];simp
theorem zxx{a:Rat}(a0:0<a)(b0:0<=b)(h1:.al)(hp:cq xs):(aj (dH a b xs)).length<=(aj xs).length/\(1<(cE a b xs).length->(aj (dH a b xs)).length<(aj xs).length):=by
 obtain⟨v,J⟩:=yF a0 b0 h1 hp.nn hp.lt;have e:=congrArg xC J.new;rw[jY,wM,Wg,jY,vL]at e;have v1:=J.v1;have vm:=J.vm;exact⟨by lia,λh=>by have:=J.more.mp h;lia⟩
theorem AE{a b:Rat}(a0:0<a)(b0:0<=b){xs:.a}(h1:.al)(hp:cq xs):∀k,(aj .bW).length<=(aj xs).length
 | 0=>wu _
 | k+1=>Wt (zxx a0 b0 (xs:=ai a b xs k) (by rw[bS];exact h1) (hp.at a0 b0 k)).1 (AE a0 b0 h1 hp k)
theorem Tb{a b:Rat}(ok:.aS){xs ps:.a}{fl:Nat->Nat}{ns:.p}(L:gX xs (ps++[0]) fl ns)(hn:ns.length=ps.length+1)(f:cH a b ns ps=true):∀t,t<=ns.length->cV a b xs t=upTo ns t
 | 0,_=>rfl
 | t+1,ht=>by
  have ih:=Tb ok L hn f t ();have hw:=(yw ok L hn f).2.1 t ();have hl:(ps++[0]).length=ns.length:=by simp[hn]
  have hs:=L.size t ()
  show cV a b xs t+lq a b (ai a b xs t)=_
  unfold lq;rw[hw,ih,pU (),hs];simp
theorem zlK{a b:Rat}(ok:.aS){xs ps:.a}{fl:Nat->Nat}{ns:.p}(L:gX xs (ps++[0]) fl ns)(hn:ns.length=ps.length+1)(n0:∀n∈ns,0<=n):∀k,(∀j,j<k->cK a b ns ps j=true)->cV a b xs (k*ns.length)=k*upTo ns ns.length
 | 0,_=>by rw[VD,VD];rfl
 | k+1,h=>by
  have ih:=zlK ok L hn n0 k λj hj=>h j ()
  obtain⟨Lk,_⟩:=ky ok L hn n0 k λj hj=>h j ()
  have hl:ns.length=(aX a b ns k ps).length+1:=by rw[cu];exact hn
  rw[Vi,rf,ih,Tb ok Lk hl (h k ()) _ .ax,Vi]
structure j5(a b:Rat)(xs:.a)(r g:Nat):Prop where
 c6:r<=30
 free:fC a b xs r
 ends:cK a b .aq .aT r=false
 g1:1<=g
 gN:g<=(aj xs).length
 one:∀t,t+1<g->(cE a b (ai a b .bS t)).length=1
 join:1<(cE a b (ai a b .bS (g-1))).length
theorem Yz{p:Nat->Prop} : ∀n,(∃t,t<n /\ ¬ p t)->∃g,g<n/\(∀t,t<g->p t) /\ ¬ p g
 | 0,h=>by obtain⟨t,ht,_⟩:=h;lia
 | n+1,h=>by
  by_cases z:∃t,t<n /\ ¬ p t
  ·obtain⟨g,h1,h2,h3⟩:=Yz n z
   exact⟨g,by lia,h2,h3⟩
  ·obtain⟨t,ht,hp⟩:=h
   have htn:t=n:=by
    rcases wJ t n with y | y
    ·exact absurd ⟨t,y,hp⟩ z
    ·lia
   subst htn;exact⟨t,by lia,λs hs=>Ws.mp λy=>z ⟨s,hs,y⟩,hp⟩
structure zEN(a b:Rat)(xs:.a):Prop where
 hz:aH xs++[0]=aj xs
 hn:(aG xs).length=(aH xs).length+1
 hs:(aG xs).length=(aj xs).length
 L:gX xs (aH xs++[0]) .b8 .aq
theorem kh{a:Rat}(hp:cq xs)(h0:0∈xs):zEN a b xs:=by
 have hz:aH xs++[0]=aj xs:=GW hp h0;have hsl:=oA xs;have hpl:(aH xs).length+1=(aj xs).length:=by rw[<- hz];simp
 exact⟨hz,by lia,hsl,by rw[hz];exact PX hp.nn hp.lt⟩
theorem zvm{a:Rat}(ok:.aS)(h1:.al)(hp:cq xs)(h0:0∈xs)(h30:r<=30)(f:fC a b xs r)(e:cK a b .aq .aT r=false):∃g,j5 a b xs r g:=by
 obtain⟨hz,hn,hs,L⟩:=kh (a:=a) (b:=b) hp h0;obtain⟨Lr,_⟩:=ky ok L hn (iB xs) r f;obtain⟨t,ht,hj⟩:=zr7 ok Lr (by rw[cu];exact hn) e;rw[hs]at ht hj;obtain⟨g,g1,g2,g3⟩:=Yz (p:=λt=>(cE a b (ai a b .bS t)).length=1) (aj xs).length ⟨t,ht,λz=>by rw[z]at hj;lia⟩;refine⟨g+1,h30,f,e,by lia,by lia,λt ht=>g2 t (),?_⟩;have:=R1 (a:=a) (b:=b) ok.a0 ok.b0 (xs:=ai a b .bS g) (by rw[bS,bS];exact h1) ((hp.at ok.a0 ok.b0 _).at ok.a0 ok.b0 _);rw[qR];have g3:¬ (cE a b (ai a b .bS g)).length=1:=g3;lia
theorem j5.cV{a:Rat}(R:j5 a b xs r g)(ok:.aS)(h1:.al)(hp:cq xs)(h0:0∈xs){t:Nat}(ht:t<=g):cV a b xs (r*(aj xs).length+t)<=30*xs.length+xs.length*xs.length:=by
 obtain⟨hz,hn,hs,L⟩:=kh (a:=a) (b:=b) hp h0;have h2:=zlK ok L hn (iB xs) r R.free;rw[hs]at h2;have h3:=Zm xs;rw[hs]at h3;have h4:=yb ok.a0 ok.b0 (xs:=ai a b xs .Q) (by rw[bS];exact h1) (hp.at ok.a0 ok.b0 _) t;rw[bS]at h4;rw[rf,h2];have h5:r*upTo .aq (aj xs).length<=30*xs.length:=Ve R.c6 h3;have h6:t*xs.length<=xs.length*xs.length:=Wb _ (by have:=R.gN;have:=jn xs;lia);lia
theorem j5.ON{a:Rat}(R:j5 a b xs r g)(ok:.aS)(h1:.al)(hp:cq xs):(aj (ai a b xs (r*(aj xs).length+g))).length<(aj xs).length:=by
 have g1:=R.g1
 have e:ai a b xs (r*(aj xs).length+g)=dH a b (ai a b .bS (g-1)):=by
  rw[<- dS];obtain⟨k,rfl⟩:∃k,g=k+1:=⟨g-1,by lia⟩
  rfl
 have h2:cq (ai a b .bS (g-1)):=(hp.at ok.a0 ok.b0 _).at ok.a0 ok.b0 _;have hl:(ai a b .bS (g-1)).length=xs.length:=by rw[bS,bS]
 have h3:=(zxx ok.a0 ok.b0 (xs:=ai a b .bS (g-1)) () h2).2 R.join;have h4:=AE ok.a0 ok.b0 (xs:=xs) h1 hp (r*(aj xs).length+(g-1));rw[dS]at h3;rw[dS]at e;rw[e];lia
theorem zva{a:Rat}(ok:.aS)(sz:dh ns)(hn:.D)(st:dZ a b ns xs=true):cQ a b ns xs=xs\/(a<1/\jN a b ns=true):=by
 have hps:=sz.pos;unfold dZ at st
 by_cases z1:1<a
 ·rw[if_pos z1]at st
  have e:=of_decide_eq_true st;have hF:a^ns.sum.toNat≠1:=λe=>absurd ((lC ok ()).mp e) .aF
  refine .inl ?_;rw[<- oz hn sz.nn,Kt hF hn 1];rw[<- e,zAe]
 ·rw[if_neg z1]at st
  by_cases z2:a=1
  ·rw[if_pos z2]at st
   refine .inl ?_;rw[<- oz hn sz.nn]
   exact jd (cu ..) λi hi=>by
    rw[cu]at hi;have hi':i<(cD a b ns).length:=by rw[mW ()];lia
    have hz:(cD a b ns).getD i 0=0:=by
     rw[Wq]at st;have:=st _ (wW.mpr ⟨_,getD_mem (d:=0) hi',rfl⟩);exact of_decide_eq_true this
    rw[gx hi,hz];unfold fR;rw[z2,GM.one_pow',GM.one_pow']
    grind
  ·rw[if_neg z2]at st
   refine .inr ⟨?_,st⟩
   by_cases h:a<1
   ·exact h
   ·exact absurd (qc (W4.mp h) (WN z2)) z1
structure Tm(m n:Nat)(e:aV):Prop where
 len:e.xs.length=n
 cm:Cm m e.xs
 bh:af m e.h
 c6:e.r<=30
 eK:e.g<=40
theorem Tm.mono{e:aV}(t:Tm m n e)(h:m<=k):Tm k n e:=⟨t.len,t.cm.mono h,t.bh.mono h,t.c6,t.eK⟩
structure dU(m n:Nat)(ps:.cS)(h:Rat)(ys:.a)(w:.am):Prop where
 rows:∀e∈ps,Tm m n e
 len:ys.length=n
 cm:Cm m ys
 bh:af m h
 wd:gT w
 bC:ps.length<=60
theorem dU.mono{w:.am}(t:dU m n ps h ys w)(e:m<=k):dU k n ps h ys w:=⟨λx hx=>(t.rows x hx).mono e,t.len,t.cm.mono e,t.bh.mono e,t.wd,t.bC⟩
def bL(ps:.cS)(h:Rat)(ys:.a)(w:.am):List wF:=ps.map aV.d++[gq h ys w]
theorem rW(ps:.cS)(h:Rat)(ys:.a)(w:.am):(bL ps h ys w).length=ps.length+1:=by simp[bL]
def fe(ps:.cS)(h:Rat)(j:Nat):Rat:=(ps.map aV.h++[h]).getD j 0
def cY(ps:.cS)(ys:.a)(j:Nat):List Rat:=(ps.map aV.xs++[ys]).getD j []
theorem ou(hj:j<ps.length):fe ps h j=ps[j].h:=by
 unfold fe;rw[wb,vO (by simpa using hj),wA,we hj];rfl
theorem nP(hj:j<ps.length):cY ps ys j=ps[j].xs:=by
 unfold cY;rw[wb,vO (by simpa using hj),wA,we hj];rfl
theorem tW(ps:.cS)(h:Rat):fe ps h ps.length=h:=by
 unfold fe;rw[wb,vC ∅];simp
theorem pY(ps:.cS)(ys:.a):cY ps ys ps.length=ys:=by
 unfold cY;rw[wb,vC ∅];simp
theorem Yk{w:.am}(hj:j<=ps.length):∃ds,(bL ps h ys w)[j]? = some (.tuple (N (fe ps h j)::TN (cY ps ys j)::ds)):=by
 unfold bL;rcases wJ j ps.length with z | z
 ·rw[vO (by simpa using z),wA,we z,ou z,nP z]
  exact⟨_,rfl⟩
 ·have e:j=ps.length:=by lia
  subst e;rw[vC ∅,wn,W6,tW,pY];exact⟨_,rfl⟩
theorem Gg{w:.am}(hj:j<ps.length):(bL ps h ys w)[j]? = some ps[j].d:=by
 unfold bL;rw[vO (by simpa using hj),wA,we hj];rfl
def dJ(a b:Rat)(xs:.a):Nat->List aV->Rat->List Rat->Prop
 | i,[],h,ys=>h=aE a b xs i/\ys=ai a b xs i
 | i,e::ps,h,ys=>e.h=aE a b xs i/\e.xs=ai a b xs i/\cX a b .B e.r/\dJ a b xs (b_ a b xs i e.r e.g) ps h ys
theorem dJ.first{a:Rat}(hj:j<=ps.length)(f:dJ a b xs i (ps.drop j) h ys):fe ps h j=aE a b xs i/\cY ps ys j=ai a b xs i:=by
 rcases wJ j ps.length with z | z
 ·rw[WK z]at f
  rw[ou z,nP z];exact⟨f.1,f.2.1⟩
 ·have e:j=ps.length:=by lia
  subst e;rw[xl]at f;rw[tW,pY];exact f
theorem dJ.next{a:Rat}(hj:j<ps.length)(e1:ps[j].h=aE a b xs i)(e2:ps[j].xs=ai a b xs i)(go:cX a b .B ps[j].r):dJ a b xs i (ps.drop j) h ys ↔ dJ a b xs (b_ a b xs i ps[j].r ps[j].g) (ps.drop (j+1)) h ys:=by
 rw[WK hj];exact⟨λf=>f.2.2.2,λf=>⟨e1,e2,go,f⟩⟩
theorem dJ.pI{a:Rat}(hj:j<ps.length)(f:dJ a b xs i (ps.drop j) h ys):cX a b .B ps[j].r:=by
 rw[WK hj]at f;exact f.2.2.1
def gR(a b:Rat)(xs:.a)(ps:.cS)(h:Rat)(ys:.a)(w:.am):Prop:=dJ a b xs 0 ps h ys/\iC a b ys=some w
theorem Ii{a:Rat}(ok:.aS)(h1:1<=ys.length)(h4:ys.length<=4)(hp:cq ys)(c:Cm m ys)(hk:i+k<=160):Cm (m+2000) (aE a b (ai a b ys i) k::ai a b (ai a b ys i) k):=by
 have bd:Bd 4 .bc:=⟨by have:=ok.bd;have:(2:Nat)^4=16:=⋯;lia⟩;have g:=yb ok.a0 ok.b0 h1 hp (i+k);have g2:(i+k)*ys.length<=160*4:=Ve hk h4;exact(FH ok (gO.of c (den_pos b) bd) h1 hp (i:=i) (k:=k) (l:=8) (by have:(2:Nat)^8=256:=⋯;lia)).mono ()
theorem FC(h4:ys.length<=4)(c6:r<=30)(eK:g<=40):r*(aj ys).length+g<=160:=by
 have h:=jn ys;have:=Ve c6 (show(aj ys).length<=4 by lia);lia
theorem jt(ps:.cS)(h:Rat)(ys:.a)(w:.am):aT (bL ps h ys w)=true:=by
 unfold bL
 induction ps with
 | nil=>rw[Qt,qb,aT,aT,show c_ (gq h ys w)=true by rw[gq,c_,aT,aT,aT,aT,ee,d6];rfl];rfl
 | cons e ps ih=>rw[vi,xi,aT,ih,show c_ (aV.d e)=true by rw[aV.d,c_,aT,aT,aT,aT,aT,ee,d6];rfl];rfl
theorem Jy{w:.am}(hj:j<=ps.length):(bL ps h ys w).take j=(ps.take j).map aV.d:=by
 unfold bL;rw[QG (by simpa using hj),Xg]
theorem zu1{w:.am}(hj:j<=ps.length):∃d ds,(bL ps h ys w)[j]? = some (.tuple (N (fe ps h j)::TN (cY ps ys j)::d::ds)):=by
 unfold bL;rcases wJ j ps.length with z | z
 ·rw[vO (by simpa using z),wA,we z,ou z,nP z]
  exact⟨_,_,rfl⟩
 ·have e:j=ps.length:=by lia
  subst e;rw[vC ∅,wn,W6,tW,pY];exact⟨_,_,rfl⟩
theorem dU.at{w:.am}(t:dU m n ps h ys w)(hj:j<=ps.length):af m (fe ps h j)/\Cm m (cY ps ys j)/\(cY ps ys j).length=n:=by
 rcases wJ j ps.length with z | z
 ·rw[ou z,nP z]
  have:=t.rows _ (vF z);exact⟨this.bh,this.cm,this.len⟩
 ·have e:j=ps.length:=by lia
  subst e;rw[tW,pY];exact⟨t.bh,t.cm,t.len⟩
theorem zB6{t u:Bool}{g:TG}{tb:TS}{D:df}{σ : L2.St}{a b:wf}{xs ys:.x}(hx:dC t K H a xs)(hy:dC u K H b ys)(hxy:ys.length<xs.length)(Pv:Nat->L2.St->Hp->Prop)(h0:Pv 0 σ H)(hl:∀i σ H,i<=ys.length->Pv i σ H->dC t K H a xs/\dC u K H b ys)
  (hs:∀i x y σ H c H',xs[i]? = some x->ys[i]? = some y->Pv i σ H->H c=none->au H H'->H' c=some (.tup [x,y])->g (.ref c) σ H' λσ2 H2=>tb {D with nx:=Pv (i+1),ct:=Pv (i+1),bk:=D.nx} σ2 H2) (hd:∀σ H,Pv ys.length σ H->D.nx σ H):HQ t u K g tb D σ [.ref a,.ref b] H:=by
 refine⟨a,b,rfl,⟨xs,hx⟩,⟨ys,hy⟩,λi m σ H=>i+m=ys.length/\Pv i σ H,⟨ys.length,by lia,h0⟩,?_⟩;rintro i m σ H ⟨him,hp⟩;obtain⟨hq1,hq2⟩:=hl i σ H () hp
 by_cases hm:m=0
 ·have e:i=ys.length:=by lia
  subst e;exact .inl ⟨⟨xs,ys,hq1,hq2,.inr ⟨hxy,rfl⟩⟩,hd _ _ hp⟩
 ·have hi:i<xs.length:=by lia
  have hj:i<ys.length:=by lia
  refine .inr ⟨⟨xs,xs[i],ys,ys[i],hq1,by simp[hi],hq2,by simp[hj]⟩,λσ' H'=>Pv (i+1) σ' H',λσ' H' h=>⟨m-1,by lia,by lia,h⟩,?_⟩;rintro v H' hz;obtain⟨c,x,y,rfl,hn,hx',hy',rfl⟩:=hz;exact hs i x y σ H c _ (hx' xs hq1) (hy' ys hq2) hp hn (au.upd hn) dR
theorem Fc{a:Rat} : dW a b xs=none \/ ∃w,dW a b xs=some w/\gT w:=by
 unfold dW
 split
 ·exact .inr ⟨_,rfl,.inl rfl⟩
 ·split
  ·split
   ·exact .inr ⟨_,rfl,.inr .aI⟩
   ·split
    ·exact .inr ⟨_,rfl,.inr (.inr rfl)⟩
    ·exact .inl rfl
  ·exact .inl rfl
theorem Kg{a:Rat} : iC a b xs=none \/ ∃w,iC a b xs=some w/\gT w:=by
 unfold iC
 split
 ·exact Fc
 ·split
  ·exact .inr ⟨_,rfl,.inl rfl⟩
  ·exact .inl rfl
theorem zFx{o:Option String}{w:.am}(ho:o=none \/ ∃w,o=some w/\gT w)(hw:gT w)(q:Q (.bl (decide (o=some w))) H):jo K (mr o) (.str (wB w)) H Q:=by
 rcases ho with rfl | ⟨v,rfl,hv⟩
 ·exact nu (d:=.none) (e:=.str (wB w)) (nT.mpr rfl) .aY ⋯ (Bl w) (by rw[show wP .none (.str (wB w))=decide ((none:Option String)=some w) by rw[wP]<;>simp];exact q)
 ·refine ju _ _ _ ?_ q
  rcases hv with rfl | rfl | rfl<;>rcases hw with rfl | rfl | rfl<;>rw[wP]<;>decide
inductive Rz(K:wa)(v u:V)(H:Hp)(Q:VK)(E:XK):Prop|v{w:.am}(i:Is K H v (bG U Z S))(hp:Is K H u (.list (bL W Y D w)))(ok:aK U Z)(h1:1<=S.length)(h4:S.length<=4)(ph:cq S)(T:dU 20000 S.length W Y D w)(qt:gR U Z S W Y D w->Rq H Q .cJ)(qf:¬ gR U Z S W Y D w->Rq H Q .cn)
theorem zw4(T:.o):ms P w base T.Nl 12 Rz:=by
 exists T.Nl,["swarm","paper","row","following"],"c2",(ak (aY (c7 (cF (ao (zuA T) hr (ae .X (ae (cT K T.h0t .cb) ag))))) .bI bE)
     (ak (aY (PW.pt (fI (iD K hu (eI .br) .y) (g6 (iD K hu (eI .br) .O)))) .bI bE)
     (ak (fi vj rfl (AH rfl T.h0p (ae .X (ae (fN fK .X (fE ar) fW) ag))) (gZ (n:=2) rfl (dg (cC (i:=2) jp rfl .s) (dg (cC (i:=3) jp rfl .s) gQ))) (av (aY (c7 (cF (ao (zvP T) hr (ae .O (q2 2 3))))) .bI bE)))
     (av (aA (ji K hu (ao (ZT T) hr (ae (aU (ae .O (ae (eI (cB ck .X .cs .J)) ag))) ag)) (eI (cB ck .X .cs .J))))))))
 obtain@⟨ra,rb,xs,ps,hl,yl,wd,hw,hp,ok,x1',x4,ph,TP,qt,qf⟩:=h;have x8:xs.length<=8:=by lia
 have bC:=TP.bC;o_head aD (j:=1) hw rfl (λv1 i1=>?_);o_head sU i1 ?_;o_head zol.v rfl (U:=xs.length) (Z:=ps) (S:=hl) (W:=yl) (w:=wd) hp () (λe he=>⟨(TP.rows e he).len,(TP.rows e he).c6,(TP.rows e he).eK⟩) TP.len TP.wd () (λH1 S1=>?_);have hp1:=hp.by S1;have hw1:=hw.by S1;obtain⟨ds0,e0⟩:=Yk (ps:=ps) (h:=hl) (ys:=yl) (w:=wd) (j:=0) ();have no0:¬ (fe ps hl 0=0/\cY ps yl 0=xs)->¬ gR ra rb xs ps hl yl wd:=λz f=>z (dJ.first (j:=0) () f.1)
 o_head gf (j:=0) hp1 e0 (λv2 i2=>?_);o_head aD (j:=0) i2 rfl (λv3 i3=>?_);k_few
 . rename_i z
   exact qf (no0 λh=>z h.1) H1 S1
 rename_i z0;refine gf (j:=0) hp1 e0 .cT;o_head aD (j:=1) i4 rfl (λv5 i5=>?_);o_head aD (j:=1) hw1 rfl .cU;refine PY (show Is K H1 v5 (TN (cY ps yl 0))from i5) i6 ?_
 by_cases hxy:cY ps yl 0=xs
 case neg =>
   rw[decide_eq_false hxy];k_few;exact qf (no0 λh=>hxy h.2) H1 S1
 rw[decide_eq_true hxy];obtain⟨lp,us,rfl,hsp,tp⟩:=bY.mp hp1;have hul:=tp.length;have hpl:=rW ps hl yl wd;o_head iE hp1 (λl2 H2 us2 n2 S2 e2 t2=>?_);rw[Gv]at t2;have hul2:=t2.length;rw[V3,hpl]at hul2;o_head zB6 (t:=false) (u:=false) (S2.seq hsp) (aF.of e2) () (λj σ H'=>(∃o2 o3,σ = [some x0,some .bU,o2,o3])/\au H2 H' /\ ∃k,fe ps hl j=aE ra rb xs k/\cY ps yl j=ai ra rb xs k/\(dJ ra rb xs 0 ps hl yl ↔ dJ ra rb xs k (ps.drop j) hl yl)) ⟨⟨_,_,rfl⟩,au.refl _,0,z0,hxy,XJ⟩ (λj σ H' _ h=>⟨h.2.1.seq (S2.seq hsp),h.2.1.seq (aF.of e2)⟩) ?_ ?_
 . rintro j x y σ H3 cc H4 hx hy ⟨⟨o2,o3,rfl⟩,S3,k,hk1,hk2,hk⟩ nc S4 e4
   obtain⟨hi,ix⟩:=kl tp hx;obtain⟨hi2,iy⟩:=kl t2 hy;rw[V3,hpl]at hi2;have hj:j<ps.length:=by lia
   obtain⟨ds,ey⟩:=Yk (ps:=ps) (h:=hl) (ys:=yl) (w:=wd) (j:=j+1) ();rw[wb,Gg hj]at ix;rw[wb,List.getElem?_tail,ey]at iy;have T4:=S2.trans .ca;have te:=TP.rows _ (vF hj);rw[ou hj]at hk1;rw[nP hj]at hk2;have nx:=λgo=>(dJ.next (a:=ra) (b:=rb) (xs:=xs) (h:=hl) (ys:=yl) hj hk1 hk2 go)
   have gos:=λf=>(dJ.pI (a:=ra) (b:=rb) (xs:=xs) (i:=k) (h:=hl) (ys:=yl) hj f)
   have cx:=te.cm;have b0:=te.bh;have c6:=te.c6;have eK:=te.eK;rw[hk2]at cx;rw[hk1]at b0;have ix4:Is K H4 x (jX (aE ra rb xs k) (ai ra rb xs k) ps[j].r ps[j].g):=by rw[<- hk1,<- hk2];exact ix.by T4
   have iy4:Is K H4 y (.tuple (N (fe ps hl (j+1))::TN (cY ps yl (j+1))::ds)):=iy.by .ca;have l1:1<=(ai ra rb xs k).length:=by rw[bS];exact x1'
   have l4:(ai ra rb xs k).length<=4:=by rw[bS];exact x4
   have pk:=ph.at ok.a0 ok.b0 k;have fg:=FC l4 c6 eK;have fst:=λi=>(dJ.first (a:=ra) (b:=rb) (xs:=xs) (i:=i) (ps:=ps) (h:=hl) (ys:=yl) (j:=j+1) ())
   unfold b_ at nx;generalize ps[j].r=r at *;generalize ps[j].g=g at *;refine mF (.of e4) rfl ?_;o_head aD (j:=0) (hw1.by T4) rfl (λv7 i7=>?_);o_head Y9.v i7 ix4 iy4 ok l1 () pk (cx.mono ⋯) c6 eK (b0.mono ⋯) (λi k' hik=>(Ii ok l1 l4 pk cx ()).mono ⋯) (λng H5 S5=>?_) (λgo H5 S5=>?_)
   . k_few
     exact qf (λf=>ng (gos (hk.mp f.1))) H5 (S1.trans (T4.trans S5))
   . rw[kf,dS]
     by_cases y1:fe ps hl (j+1)=aE ra rb xs (k+(r*(aj (ai ra rb xs k)).length+g))
     . by_cases y2:cY ps yl (j+1)=ai ra rb xs (k+(r*(aj (ai ra rb xs k)).length+g))
       . rw[decide_eq_true y1,decide_eq_true y2,Q2]
         k_few;exact⟨⟨_,_,rfl⟩,S3.trans .bj,_,y1,y2,hk.trans (nx go)⟩
       . rw[decide_eq_true y1,decide_eq_false y2,xS]
         k_few;exact qf (λf=>y2 (fst _ ((nx go).mp (hk.mp f.1))).2) H5 (S1.trans (T4.trans S5))
     . rw[decide_eq_false y1,WO]
       k_few;exact qf (λf=>y1 (fst _ ((nx go).mp (hk.mp f.1))).1) H5 (S1.trans (T4.trans S5))
 . rintro σ H3 hz;obtain⟨⟨o2,o3,rfl⟩,S3,k,hk1,hk2,hk⟩:=hz
   have eu:us2.length=ps.length:=by lia
   rw[eu]at hk1 hk2 hk;rw[tW]at hk1;rw[pY]at hk2;rw[xl]at hk;have ft:dJ ra rb xs 0 ps hl yl:=hk.mpr ⟨hk1,hk2⟩;have T3:=S2.trans S3;have hw3:=hw1.by T3;have hp3:Is K H3 .bU (.list (ps.map aV.d++[gq hl yl wd])):=hp1.by T3;have py:cq yl:=by rw[hk2];exact ph.at ok.a0 ok.b0 k
   have ly:=TP.len;o_head aD (j:=0) hw3 rfl (λv7 i7=>?_);o_head jW hp3 (λv8 i8=>?_);unfold gq at i8;o_head aD (j:=1) i8 rfl (λv9 i9=>?_);o_head cW (ds:=[R ra rb,TN yl]) ∅ (.cons i7 (.cons i9 .nil)) .cH;o_head UY (show Is K H10 v10 (bG ra rb yl)from i10) ⟨ok,by lia,by lia,py,TP.cm.mono ⋯⟩ (λH11 S11=>?_);have S311:=S10.trans S11;o_head jW (hp3.by S311) (λv12 i12=>?_);unfold gq at i12;o_head aD (j:=2) i12 rfl (λv13 i13=>?_);rw[cN.mp i13];refine zFx Kg TP.wd ?_
   by_cases wz:iC ra rb yl=some wd
   . rw[decide_eq_true wz]
     exact qt ⟨ft,wz⟩ H11 (S1.trans (T3.trans S311))
   . rw[decide_eq_false wz]
     exact qf (λf=>wz f.2) H11 (S1.trans (T3.trans S311))
inductive zhA(K:wa)(v:V)(H:Hp)(Q:VK)(E:XK):Prop|v{W:Nat}(h:Is K H v (bG U Z S))(ok:aK U Z)(h1:1<=S.length)(h8:S.length<=8)(hg:W<=8)(c:∀Y,Y<=W->Cm 74000 (ai U Z S Y))(w1:∀Y,Y<W->(cE U Z (ai U Z S Y)).length=1)(w2:(cE U Z (ai U Z S W)).length≠1)(q:Rq H Q (.int ((W+1:Nat):Int)))
theorem znL(T:.o):kw P w base T.Ls 5 zhA:=by
 exists T.Ls,["swarm","count","told"],"c1",(ak (ay 1 jp ar)
     (ak (ay 2 jp (ao (Js T) hr .ck))
     (ak (nI vj (dX K hu (cT K T.h0t (ae (qi 2) ag)) ar) (ak (zFm (i:=1) jp rfl .s ar zEy)
     (av (ay 2 jp (ao (Js T) hr (ae (qi 2) ag))))))
     (av (aA .X)))))
 obtain@⟨ra,rb,xs,g,hw,ok,h1,h8,hg,c,w1,w2,q⟩:=h;o_head Zz.v hw ok.ba ok.bb h1 h8 (c 0 ()) () .aK;o_head rN (λm σ' H'=>∃(t:Nat)(v:V),σ'=[some x0,some (.int ((t+1:Nat):Int)),some v]/\m=g-t/\t<=g/\au H H'/\Is K H' v (GD ra rb (ai ra rb xs t))) _ ⟨0,v2,rfl,rfl,by lia,S2,i2⟩ ?_;rintro m σ' H3 hz;obtain⟨t,v,rfl,rfl,ht,S3,iv⟩:=hz;o_head aD (j:=1) iv rfl .cT;o_head nS i4 ?_;rw[wn];k_few
 . rename_i z
   have z:(cE ra rb (ai ra rb xs t)).length=1:=by lia
   have htg:t<g:=by
     rcases wJ t g with y | y
     . exact y
     . have:t=g:=by lia
       subst this;exact absurd z w2
   have hpl:=bS ra rb xs t;have hpl2:=bS ra rb xs (t+1);refine rV ?_;o_head zCy rfl ?_;o_head zFw ?_;o_head aD (j:=2) iv rfl (λv5 i5=>?_);o_head Zz.v (show Is K H3 v5 (bG ra rb (ai ra rb xs (t+1)))from i5) ok.ba ok.bb () () (c (t+1) ()) () (λv6 H6 S6 i6=>?_);k_few;exact⟨g-(t+1),by lia,t+1,v6,by push_cast;rfl,rfl,by lia,S3.trans S6,i6⟩
 . rename_i z
   have htg:t=g:=by
     rcases wJ t g with y | y
     . exact absurd (by rw[w1 t y];rfl) z
     . lia
   subst htg;exact q H3 S3
theorem zCU{a:Rat}(ok:iZ a b xs)(h:dW a b xs=none)(f:cK a b .aq .aT 0=true):dZ a b .aq .aT=false:=by
 obtain⟨_,sz,hn⟩:=ok.round;unfold cK at f;rw[lH]at f;cases e:dZ a b .aq (aH xs)with
 | false=>rfl
 | true =>
  unfold dW at h;rw[if_pos f]at h
  split at h
  ·cases h
  ·split at h
   ·cases h
   ·rename_i y
    rcases zva ok.ok sz hn e with z | z
    ·exact absurd z y
    ·rw[if_pos z]at h;cases h
def UB(K:wa)(a:Ad):Sp:=λvs H Q E=>∃x0 x1,vs=[x0,x1] /\ ∃(ra rb h:Rat)(xs:.a),Is K H x0 (N h)/\Is K H x1 (bG ra rb xs)/\iZ ra rb xs/\dW ra rb xs=none/\(∀r g t,j5 ra rb xs r g->t<=g->Cm 72000 (ai ra rb xs (r*(aj xs).length+t))) /\
 ((∀k,k<=30->cK ra rb .aq .aT k=true)->∀H',au H H'->E (.ref a.jj) none H') /\ ∀r g v H',j5 ra rb xs r g->au H H'->Is K H' v (jX h xs r g)->Q v H'
theorem zvb{v w:V}(h1:Is K H v (N h))(h2:Is K H w (bG ra rb xs))(ok:iZ ra rb xs)(hw:dW ra rb xs=none)(c:∀r g t,j5 ra rb xs r g->t<=g->Cm 72000 (ai ra rb xs (r*(aj xs).length+t)))(qe:(∀k,k<=30->cK ra rb .aq .aT k=true)->∀H',au H H'->E (.ref a.jj) none H')(q:∀r g v H',j5 ra rb xs r g->au H H'->Is K H' v (jX h xs r g)->Q v H'):UB K a [v,w] H Q E:=⟨_,_,rfl,ra,rb,h,xs,h1,h2,ok,hw,c,qe,q⟩
theorem zu9(T:.o):ii P w base T.M7 12 (UB K a):=by
 exists T.M7,["hour","swarm","both","rounds","glows"],"y2",(ak (ay 2 jp (sf (CM T) hr T.sM J4 (q1 1)))
     (ak (ay 3 jp (sf (zqv T) hr T.LS J4 (ae .br (ae (qi 2) (ae (qi 2) ag)))))
     (ak (ay 4 jp (ao (znL T) hr (ae (eI (ao (zhE T) hr (q2 1 3))) ag)))
     (av (aA (aU (by exact(@ae _ _ _ _ _ .C (@ae _ _ _ _ _ .br (@ae _ _ _ _ _ .ak (@ae _ _ _ _ _ .cL ag bM) bM) gj) bM))))))))
 obtain⟨ra,rb,hr',xs,ih,hw,ok,hno,hc,qe,q⟩:=h;obtain⟨rok,sz,hn⟩:=ok.round;have h8:=ok.h8;have bx:∀i,af 80000 .an:=λi=>(ok.cm.get i).mono ⋯
 o_head CS hw h8 bx (λz=>absurd ok.h0 z) (λ_ vl H1 S1 il=>?_);have hw1:=hw.by S1;o_head aD (j:=0) hw1 rfl (λvr ir=>?_);o_head aD (j:=0) il rfl (λvz iz=>?_);o_head aD (j:=1) il rfl (λvp ip=>?_);o_head zqK ir iz ip ok.ok sz hn (kn ok.cm) ⋯ (λz H2 S2=>?_) (λz y H2 S2=>?_) (λc c1 c2 y z w H2 S2=>?_) (λy z H2 S2=>?_)
 . have RR:(0:Nat)<=30:=by decide
   have FF:fC ra rb xs 0:=λk hk=>by lia
   have EE:=z;k_few;obtain⟨g,R⟩:=zvm ok.ok ok.h1 ok.hp ok.h0 RR FF EE;have g1:=R.g1;have gN:=R.gN;have hvl:=jn xs;refine UU.v rfl (U:=0) (hw1.by S2) ok RR FF .as;o_head aD (j:=1) i3 rfl .cT;k_few;have hj:=R.join;refine zhA.v (W:=g-1) i4 ok.ok (by rw[bS];exact ok.h1) (by rw[bS];exact h8) () (λt ht=>by rw[dS];exact(hc _ g t R ()).mono ⋯) (λt ht=>R.one t ()) () (λH5 S5=>?_);rw[show g-1+1=g by lia];have S15:=S2.trans (S3.trans S5);o_head aD (j:=1) (hw1.by S15) rfl .cU;o_head cW (ds:=[N hr',TN xs,.int ((0:Nat):Int),.int (g:Int)]) ∅ (.cons (ih.by (S1.trans S15)) (.cons i6 (.cons .bp (.cons .bp .nil)))) (λv7 H7 S7 i7=>?_);exact q 0 g v7 H7 R (S1.trans (S15.trans S7)) i7
 . rw[zCU ok hno z]at y
   cases y
 . have RR:=c2
   have FF:fC ra rb xs c:=z;have EE:=w;k_few;obtain⟨g,R⟩:=zvm ok.ok ok.h1 ok.hp ok.h0 RR FF EE;have g1:=R.g1;have gN:=R.gN;have hvl:=jn xs;refine UU.v rfl (U:=c) (hw1.by S2) ok RR FF .as;o_head aD (j:=1) i3 rfl .cT;k_few;have hj:=R.join;refine zhA.v (W:=g-1) i4 ok.ok (by rw[bS];exact ok.h1) (by rw[bS];exact h8) () (λt ht=>by rw[dS];exact(hc _ g t R ()).mono ⋯) (λt ht=>R.one t ()) () (λH5 S5=>?_);rw[show g-1+1=g by lia];have S15:=S2.trans (S3.trans S5);o_head aD (j:=1) (hw1.by S15) rfl .cU;o_head cW (ds:=[N hr',TN xs,.int (c:Int),.int (g:Int)]) ∅ (.cons (ih.by (S1.trans S15)) (.cons i6 (.cons .bp (.cons .bp .nil)))) (λv7 H7 S7 i7=>?_);exact q c g v7 H7 R (S1.trans (S15.trans S7)) i7
 . exact qe z H2 .aZ
def pj(a b:Rat)(xs:.a)(i r g:Nat):Prop:=(i=0/\r=0/\g=1)\/(1<=i/\dW a b .B=none/\j5 a b .B r g)
def gk(a b:Rat)(xs:.a):Nat->List (Nat × Nat × Nat)->Nat->Prop
 | i,[],n=>i=n
 | i,e::es,n=>e.1=i/\pj a b xs i e.2.1 e.2.2/\gk a b xs (b_ a b xs i e.2.1 e.2.2) es n
theorem gk.snoc{a b:Rat}{xs:.a} : ∀{es:.aD}{i n r g:Nat},gk a b xs i es n->pj a b xs n r g->gk a b xs i (es++[(n,r,g)]) (b_ a b xs n r g)
 | [],i,n,r,g,h,k=>by
  have e:i=n:=h;subst e;exact⟨rfl,k,rfl⟩
 | e::es,i,n,r,g,h,k=>⟨h.1,h.2.1,gk.snoc h.2.2 k⟩
theorem sv(h:Rat)(xs:.a)(r g:Nat):c_ (jX h xs r g)=true:=by rw[jX,c_,aT,aT,aT,aT,aT,ee,d6];rfl
theorem zzC(a b:Rat)(xs:.a)(n:Nat)(w:.am):c_ (sY a b xs n w)=true:=by rw[sY,c_,aT,aT,aT,aT,ee,d6];rfl
structure dy(a b:Rat)(xs:.a):Prop where
 ok:aK a b
 h1:1<=xs.length
 h6:xs.length<=6
 hp:cq xs
 sz:∃m,gO b.den m xs/\m+648*xs.length<=3935
theorem dy.of{a:Rat}(ok:.aS)(h1:.al)(h6:xs.length<=6)(ph:∀x∈xs,f_ x):dy a b xs/\gO b.den 47 xs:=by
 have b6:∀j,af 6 (xs.getD j 0):=λj=>by
  rcases wJ j xs.length with z | z
  ·exact(ph _ (getD_mem z)).eH
  ·rw[wb,wQ z];exact af.zero.mono ⋯
 have c0:Cm 43 xs:=(Cm.aax b6).mono ();have c1:gO b.den 47 xs:=gO.of c0 (den_pos b) ⟨by have:=ok.bd;have:(2:Nat)^4=16:=⋯;lia⟩;exact⟨⟨ok,h1,h6,⟨λx hx=>(ph x hx).nn,λx hx=>(ph x hx).lt⟩,47,c1,by lia⟩,c1⟩
def nW(a b:Rat)(xs:.a)(i:Nat):Prop:=cV a b xs i+216*(aj .B).length<=6+216*xs.length/\i+186*(aj .B).length<=1+186*6
structure ml(a b:Rat)(xs:.a)(es:.aD)(n:Nat)(w:.am):Prop where
 walk:gk a b xs 0 es n
 e1:1<=es.length
 bC:es.length<=9
 n1:1<=n
 word:dW a b (ai a b xs n)=some w
 sp:nW a b xs n
theorem dy.j_{a:Rat}(h:dy a b xs)(hg:cV a b xs (i+k)+216<=20+216*xs.length)(hk:k<=1024):Cm 70000 (aE a b .B k::ai a b .B k):=by
 obtain⟨m,c,hm⟩:=h.sz;exact(FH h.ok c h.h1 h.hp (i:=i) (k:=k) (l:=10) (by rw[show(2:Nat)^10=1024 by decide];exact hk)).mono ()
theorem dy.cm{a:Rat}(h:dy a b xs)(hg:cV a b xs i+216<=20+216*xs.length)(hi:i<=1024):Cm 70000 (aE a b xs i::ai a b xs i):=h.j_ (i:=0) (k:=i) (by rw[xk];exact hg) hi
theorem dy.OW{a:Rat}(h:dy a b xs)(h1:1<=i)(c:Cm 70000 (aE a b xs i::ai a b xs i)):iZ a b .B :=
 ⟨h.ok,by rw[bS];exact h.h1,by rw[bS];have:=h.h6;lia,h.hp.at h.ok.a0 h.ok.b0 i,h.hp.zero h.ok.a0 h.ok.b0 h.h1 h1,(lP c λy hy=>wH _ hy).mono ⋯⟩
theorem dy.nf{a:Rat}(h:dy a b xs)(i:Nat):1<=(aj .B).length/\(aj .B).length<=6:=by
 have:=jn .B;rw[bS]at this;have h6:=h.h6;exact⟨lu (by rw[bS];exact h.h1),by lia⟩
theorem dy.nl{a:Rat}(i:Nat):(aj .B).length<=xs.length:=by
 have:=jn .B;rw[bS]at this;exact this
theorem dy.one{a:Rat}(h:dy a b xs):nW a b xs 1:=by
 have h6:=h.h6;have h1:=h.h1;have:=yb h.ok.a0 h.ok.b0 h.h1 h.hp 1;have:=(h.nf 1).2;have:=dy.nl (a:=a) (b:=b) (xs:=xs) 1;exact⟨by lia,by lia⟩
theorem dy.within{a:Rat}(h:dy a b xs){t:Nat}(i1:1<=i)(sp:nW a b xs i)(n2:2<=(aj .B).length)(R:j5 a b .B r g)(ht:t<=g):cV a b xs (i+(r*(aj .B).length+t))+216<=20+216*xs.length/\i+(r*(aj .B).length+t)<=1024/\cV a b xs (i+(r*(aj .B).length+t))<=cV a b xs i+216/\r*(aj .B).length+t<=186:=by
 have h6:=h.h6;have nf:=(h.nf i).2;have hl:=bS a b xs i;have g1:=R.cV h.ok (by rw[hl];exact h.h1) (h.hp.at h.ok.a0 h.ok.b0 i) (h.hp.zero h.ok.a0 h.ok.b0 h.h1 i1) ht;rw[hl]at g1
 have g2:30*xs.length+xs.length*xs.length<=216:=by
  have:xs.length*xs.length<=6*6:=Ve h6 h6;lia
 have g3:r*(aj .B).length<=30*6:=Ve R.c6 nf;have g4:=R.gN;obtain⟨s1,s2⟩:=sp;rw[rf];exact⟨by lia,by lia,by lia,by lia⟩
theorem dy.next{a:Rat}(h:dy a b xs)(i1:1<=i)(sp:nW a b xs i)(n2:2<=(aj .B).length)(R:j5 a b .B r g):nW a b xs (b_ a b xs i r g):=by
 obtain⟨_,_,w1,w2⟩:=h.within i1 sp n2 R (wu g);have f:=R.ON h.ok (by rw[bS];exact h.h1) (h.hp.at h.ok.a0 h.ok.b0 i);rw[dS]at f;obtain⟨s1,s2⟩:=sp;unfold nW b_;exact⟨by lia,by lia⟩
theorem PV{a:Rat}(h:dW a b xs=none)(h1:1<=(aj xs).length):2<=(aj xs).length:=by
 unfold dW at h
 split at h
 ·cases h
 ·lia
theorem gk.first{a:Rat}{es:.aD}(h:gk a b xs i es n):kI es n 0=i:=by
 cases es with
 | nil=>exact(show i=n from h).symm
 | cons e es=>exact h.1
theorem gk.at{a b:Rat}{xs:.a} : ∀{es:.aD}{i n:Nat},gk a b xs i es n->∀j (hj:j<es.length),es[j].1=kI es n j/\pj a b xs es[j].1 es[j].2.1 es[j].2.2/\b_ a b xs es[j].1 es[j].2.1 es[j].2.2=kI es n (j+1)
 | [],_,_,_,j,hj=>absurd hj ∅
 | e::es,i,n,h,j,hj=>by
  cases j with
  | zero =>
   have h1:=h.2.2.first;have e1:=h.1;refine⟨rfl,?_,?_⟩
   ·show pj a b xs e.1 e.2.1 e.2.2
    rw[e1];exact h.2.1
   ·show b_ a b xs e.1 e.2.1 e.2.2=kI es n 0
    rw[h1,e1]
  | succ j=>exact gk.at h.2.2 j (by simpa using hj)
def yy(a b:Rat)(xs:.a):Prop:=∃es i,gk a b xs 0 es i/\1<=i/\dW a b .B=none /\ ∀k,k<=30->cK a b (aG .B) (aH .B) k=true
def Jm(K:wa)(a:Ad):Sp:=λvs H Q E=>∃x0,vs=[x0] /\ ∃(ra rb:Rat)(xs:.a),Is K H x0 (bG ra rb xs)/\dy ra rb xs /\
 (yy ra rb xs->∀H',au H H'->E (.ref a.jj) none H') /\ ∀l H' es n w us,ml ra rb xs es n w->H l=none->au H H'->H' l=some (.lst us)->ah K H' us (jV ra rb xs es n w)->Q .az H'
theorem zs7{v:V}(h:Is K H v (bG ra rb xs))(ok:dy ra rb xs)(qe:yy ra rb xs->∀H',au H H'->E (.ref a.jj) none H')(q:∀l H' es n w us,ml ra rb xs es n w->H l=none->au H H'->H' l=some (.lst us)->ah K H' us (jV ra rb xs es n w)->Q .az H'):Jm K a [v] H Q E:=⟨_,rfl,ra,rb,xs,h,ok,qe,q⟩
theorem zvj(T:.o):ii P w base T.ze 13 (Jm K a):=by
 exists T.ze,["swarm","rows","word","row","told","hour"],"y1",(ak (ay 1 jp (cZ (ae (aU (by exact(@ae _ _ _ _ _ .y (@ae _ _ _ _ _ .O (@ae _ _ _ _ _ ar (@ae _ _ _ _ _ ar ag rL) rL) gj) bM))) ag)))
     (ak (ay 2 jp gD)
     (ak (nI XZ (dB tY .au gD .cG) (ak (ay 3 jp (cB ck .X .cs .J))
     (ak (ay 4 jp (ao (Px T) hr (ae (aU (ae .O (ae (qi 3) ag))) (ae (qi 3) (ae (qi 3) ag)))))
     (ak (ay 5 jp (ao (iV T) hr (ae (qi 3) (ae (qi 4) ag))))
     (ak (ay 2 jp (ao (ZT T) hr (ae (qi 4) ag)))
     (av (jP (jD vP vV vW jk .X (ae (sX (dB tY .au gD .cG) (sf (zu9 T) hr T.M7 J4 (ae .cI (ae (qi 4) ag))) (aU (ae .cI (ae (eI (qi 4)) .cR)))) ag)))))))))
     (av (aA .X)))))
 obtain⟨ra,rb,xs,hw,ok,qe,q⟩:=h;o_head aD (j:=1) hw rfl (λv1 i1=>?_);o_head cW (ds:=[N 0,TN xs,.int 0,.int 1]) ∅ (.cons (fF 0 (T.gg _) rfl rfl) (.cons i1 (.cons .bp (.cons .bp .nil)))) .aK;o_head c9 ∅ (λlr H3 n3 S3 e3=>?_);have hlr:H lr=none:=gH S2 n3;k_few
 refine rN (λm σ' H'=>∃(us:.x)(es:.aD)(vw:V)(o3 o4 o5:.bD),σ'=[some x0,some (.ref lr),some vw,o3,o4,o5]/\au H H'/\H' lr=some (.lst us) /\
   ((vw=.bX /\ ∃i r g,gk ra rb xs 0 es i/\pj ra rb xs i r g/\ah K H' us ((es++[(i,r,g)]).map (ny ra rb xs))/\(1<=i->nW ra rb xs i)/\es.length+(aj (ai ra rb xs (b_ ra rb xs i r g))).length<=6/\m=(aj (ai ra rb xs (b_ ra rb xs i r g))).length) \/
     ∃n w,vw=.str (wB w)/\ml ra rb xs es n w/\ah K H' us (jV ra rb xs es n w)/\m=0)) _ ⟨[v2],[],.bX,_,_,_,rfl,S2.trans S3,e3,.inl ⟨rfl,0,0,1,rfl,.inl ⟨rfl,rfl,rfl⟩,.cons (i2.by S3) .nil,λh=>by lia,by have:=(ok.nf (b_ ra rb xs 0 0 1)).2;simpa using this,rfl⟩⟩ ?_
 rintro m σ' H4 hz;obtain⟨us,es,vw,o3,o4,o5,rfl,S4,e4,C⟩:=hz;rcases C with⟨rfl,i,r,g,wk,ro,t4,sp,bC,rfl⟩ | ⟨n,w',rfl,P,t4,rfl⟩
 . have hN:=(ok.nf i).2
   have h6:=ok.h6;have h1L:=ok.h1
   have facts:g<=40/\(1<=r->iZ ra rb .Z/\r<=30/\fC ra rb .Z r)/\cV ra rb xs (b_ ra rb xs i r g)+216<=20+216*xs.length/\b_ ra rb xs i r g<=1024/\cV ra rb xs i+216<=20+216*xs.length/\i<=1024/\(∀t,t<=g->cV ra rb xs (i+(r*(aj .Z).length+t))+216<=20+216*xs.length)/\nW ra rb xs (b_ ra rb xs i r g)/\r<=30:=by
     rcases ro with⟨rfl,rfl,rfl⟩ | ⟨i1,hno,R⟩
     . have e:b_ ra rb xs 0 0 1=1:=by unfold b_;lia
       have h2:=yb ok.ok.a0 ok.ok.b0 ok.h1 ok.hp;refine⟨by lia,λz=>by lia,by rw[e];have:=h2 1;lia,by lia,by have:=h2 0;lia,by lia,λt ht=>?_,by rw[e];exact ok.one,by lia⟩;have h3:=h2 (0+(0*(aj (ai ra rb xs 0)).length+t));have h4:(0+(0*(aj (ai ra rb xs 0)).length+t))*xs.length<=1*6:=Ve () h6;lia
     . have n2:=PV hno (ok.nf i).1
       have sp:=sp i1;have w:=λ{t:Nat}(ht:t<=g)=>ok.within i1 sp n2 R ht
       have w0:=w (wu g);have g4:=R.gN;have si:=sp.1;have si2:=sp.2;have c:Cm 70000 (aE ra rb xs i::ai ra rb xs i):=ok.cm () ();exact⟨by lia,λ_=>⟨ok.OW i1 c,R.c6,R.free⟩,w0.1,w0.2.1,by lia,by lia,λt ht=>(w ht).1,ok.next i1 sp n2 R,R.c6⟩
   obtain⟨eK,fr,gl,nl,gi,ni,gw,sl,c6⟩:=facts;have cI:=ok.cm gi ni;have cL:=ok.cm gl nl
   have n1:1<=b_ ra rb xs i r g:=by
     unfold b_;rcases ro with⟨rfl,rfl,rfl⟩ | ⟨i1,hno,R⟩
     . lia
     . lia
   have swL:=ok.OW n1 cL;have hrN:r*(aj .Z).length<=30*6:=Ve c6 hN;have hul:=t4.length;rw[wn,wM,vL]at hul;have hnf:=(ok.nf (b_ ra rb xs i r g)).1;o_head rV ?_;k_few
   have il:Is K H4 (.ref lr) (.list (es.map (ny ra rb xs)++[ny ra rb xs (i,r,g)])):=by
     rw[wU]at t4;exact bY.mpr ⟨lr,us,rfl,.of e4,t4⟩
   refine jW il (λv5 i5=>?_);have i5:Is K H4 v5 (jX (aE ra rb xs i) .Z r g):=i5;have hw4:=hw.by S4;o_head aD (j:=0) hw4 rfl .cU;o_head aD (j:=1) i5 rfl (λv7 i7=>?_);o_head cW (ds:=[R ra rb,TN .Z]) ∅ (.cons i6 (.cons i7 .nil)) .bv;have i58:=i5.by S8;o_head aD (j:=2) i58 rfl (λv9 i9=>?_);rw[cj.mp i9];o_head aD (j:=3) i58 rfl (λv10 i10=>?_);rw[cj.mp i10];k_few;have bH:af 160000 (aE ra rb .Z (r*(aj .Z).length)):=((ok.j_ (i:=i) (k:=r*(aj .Z).length) (by have:=gw 0 ();rw[xh]at this;exact this) ()).eH .bH).mono ⋯
   have cG:∀t,t<=g->Cm 74000 (aE ra rb (ai ra rb .Z (r*(aj .Z).length)) t::ai ra rb (ai ra rb .Z (r*(aj .Z).length)) t):=λt ht=>by
     rw[dS ra rb xs];exact(ok.j_ (i:=i+r*(aj .Z).length) (k:=t) (by have:=gw t ht;rw[<- VL]at this;exact this) ()).mono ⋯
   refine zkK.v rfl rfl (show Is K H8 v8 (bG ra rb .Z)from i8) ok.ok (by rw[bS];exact ok.h1) (by rw[bS];lia) fr eK bH cG (λv11 H11 S11 i11=>?_);have i11:Is K H11 v11 (.tuple [N (aE ra rb .Z (r*(aj .Z).length+g)),bG ra rb (ai ra rb .Z (r*(aj .Z).length+g))]):=i11;rw[dS]at i11;have i11:Is K H11 v11 (.tuple [N (aE ra rb .Z (r*(aj .Z).length+g)),bG ra rb (ai ra rb xs (b_ ra rb xs i r g))]):=i11;have i511:=i58.by S11;have bI:af 70000 (aE ra rb xs i):=cI.eH .bH;have bJ:af 70000 (aE ra rb .Z (r*(aj .Z).length+g)):=(ok.j_ (i:=i) (k:=r*(aj .Z).length+g) gl ()).eH .bH;o_head aD (j:=0) i511 rfl (λv12 i12=>?_);o_head aD (j:=0) i11 rfl (λv13 i13=>?_);k_few;rename_i v14 H14 S14 i14;rw[kf]at i14;have i14:Is K H14 v14 (N (aE ra rb xs (b_ ra rb xs i r g))):=i14;have i1114:=i11.by S14;refine aD (j:=1) i1114 rfl (λv15 i15=>?_);have i15:Is K H14 v15 (bG ra rb (ai ra rb xs (b_ ra rb xs i r g))):=i15;o_head zv6 i15 swL (λH16 S16=>?_);have S816:=S8.trans (S11.trans (S14.trans S16));have e16:=S816 _ _ e4;have t16:ah K H16 us ((es++[(i,r,g)]).map (ny ra rb xs)):=ah.same S816 _ _ t4;have S416:=S4.trans S816;have i1116:=i1114.by S16;have i1416:=i14.by S16;have i1516:=i15.by S16;have wk':=wk.snoc ro;generalize hlead:b_ ra rb xs i r g=n at *;cases hwd:dW ra rb (ai ra rb xs n)with
   | none =>
     first | show kj 2 V.bX _ _ _ | rw[show mr none=V.bX from rfl]
     o_head jh (aF.of e16) ?_;o_head aD (j:=1) i1116 rfl (λv17 i17=>?_);k_few;have n2:=PV hwd hnf;refine zvb i1416 (show Is K H16 v17 (bG ra rb (ai ra rb xs n))from i17) swL hwd (λr' g' t R ht=>?_) (λz H' S=>qe ⟨_,n,wk',n1,hwd,z⟩ H' (S416.trans S)) (λr' g' v18 H18 R S18 i18=>?_)
     . have w:=ok.within n1 sl n2 R ht
       rw[dS];exact(lP (ok.cm w.1 w.2.1) λy hy=>wH _ hy).mono ⋯
     . k_few
       have e18:=S18 _ _ e16;refine jm e18 () (λH19 E19 e19=>?_);have K19:=E19.keep e18;have fw:=R.ON ok.ok (by rw[bS];exact ok.h1) (ok.hp.at ok.ok.a0 ok.ok.b0 n);rw[dS]at fw;have fw:(aj (ai ra rb xs (b_ ra rb xs n r' g'))).length<(aj (ai ra rb xs n)).length:=fw;o_head ⟨_,fw,us++[v18],es++[(i,r,g)],.bX,_,_,_,rfl,(S416.trans S18).grow hlr E19,e19,.inl ⟨rfl,n,r',g',wk',.inr ⟨n1,hwd,R⟩,?_,λ_=>sl,?_,rfl⟩⟩
       . rw[wU]
         exact(ah.keep K19 _ _ (w_ _ (λe=>sv _ _ _ _) _) (ah.same S18 _ _ t16)).append (.cons (i18.dw K19 (sv _ _ _ _)) .nil)
       . rw[wM,vL]
         lia
   | some wd =>
     first | show kj 2 (V.str (wB wd)) _ _ _ | rw[show mr (some wd)=V.str (wB wd)from rfl]
     o_head jh (aF.of e16) ?_;k_few
     . rename_i z;cases z
     . refine aD (j:=1) i1116 rfl (λv17 i17=>?_)
       o_head aD (j:=1) i17 rfl (λv18 i18=>?_);o_head cW (ds:=[N (aE ra rb xs n),TN (ai ra rb xs n),.str (wB wd)]) ∅ (.cons i1416 (.cons i18 (.cons .aY .nil))) (λv19 H19 S19 i19=>?_);k_few;have e19:=S19 _ _ e16;refine jm e19 () (λH20 E20 e20=>?_);have K20:=E20.keep e19;o_head ⟨0,by lia,us++[v19],es++[(i,r,g)],_,_,_,_,rfl,(S416.trans S19).grow hlr E20,e20,.inr ⟨n,wd,rfl,⟨wk',by simp,by rw[wM,vL];lia,n1,hwd,sl⟩,?_,rfl⟩⟩;exact(ah.keep K20 _ _ (w_ _ (λe=>sv _ _ _ _) _) (ah.same S19 _ _ t16)).append (.cons (i19.dw K20 (zzC _ _ _ _ _)) .nil)
 . k_few
   . rename_i z;cases z
   . exact q lr H4 es n w' us P hlr S4 e4 t4
inductive zn3(K:wa)(u w:V)(H:Hp)(Q:VK)(E:XK):Prop|v{U:.p}{a:wf}{k:Int}(e0:u=.ref a)(e1:w=.int k)(h:ki K H a (U.map V.int))(hl:U.length<=63)(h0:0<=k)(h1:k<=1000)(q:∀Z:Int,Q (.int Z) H)
theorem zvs(T:.o):ms P w base T.MU 1 zn3:=by
 exists T.MU,["_law_script","_law_k"],"c2",(ak (aY (dB lF .X (cT K T.h0t .ck) .cG) (av (aA (dE oR rfl T.h0o oV (ae (cB ck .C .X .J) ag)))) bE)
     (ak (aY (dX K hu (cT K T.h0t .ck) ar) (av (aA (az cv (az de ar .X) ar))) bE)
     (av (aA (az cv (az jl (dE oR rfl T.h0o oV (ae (cB ck .C (az jl .X (cT K T.h0t .ck)) .J) ag)) (Gp (v:=100000000000000000) ⟨by decide,by decide,by decide⟩ .bQ)) (az de ar .X))))))
 obtain@⟨ns,a',k,rfl,rfl,hs,hl,h0,h1,q⟩:=h;o_head eP hs.sq ?_;k_few
 . refine Rt hs h0 .bJ (λz=>?_)
   k_few;exact q _
 . refine eP hs.sq ?_
   k_few
   . exact q _
   . refine eP hs.sq ?_
     o_head Rt hs (QC _ ()) (qU _ ()) (λz=>?_);k_few;exact q _
def bA(H:Hp)(p:wf)(k:Int):Prop:=∃(a:Int)(b:Bool)(n:Int),H p=some (.lst [.int a,.bl b,.int n])/\0<=n/\n<=k
theorem bA.same{k:Int}(s:au H H')(h:bA H p k):bA H' p k:=by
 obtain⟨x,y,n,e,h1,h2⟩:=h;exact⟨x,y,n,s _ _ e,h1,h2⟩
theorem bA.keep{k:Int}(s:Exc p H H')(h:bA H p k):aW H H':=by
 obtain⟨x,y,n,e,_,_⟩:=h;exact s.keep e
theorem bA.le{j k:Int}(h:bA H p j)(e:j<=k):bA H p k:=by
 obtain⟨x,y,n,z,h1,h2⟩:=h;exact⟨x,y,n,z,h1,Int.le_trans h2 e⟩
theorem bA.ne{k:Int}(e:H q=none)(h:bA H p k):q≠p:=by
 obtain⟨x,y,n,z,_⟩:=h;exact(mw z e).symm
def zqs(K:wa):Sp:=λvs H Q _=>∃x0 x1,vs=[x0,x1] /\ ∃(a:wf)(ns:.p)(k:Int),x0=.ref a/\x1=.int k/\ki K H a .aC/\ns.length<=63/\0<=k/\k<=1000 /\
 ∀p H',H p=none->au H H'->bA H' p 0->Q .ay H'
theorem FZ{a:wf}{k:Int}(h:ki K H a .aC)(hl:ns.length<=63)(h0:0<=k)(h1:k<=1000)
  (q:∀p H',H p=none->au H H'->bA H' p 0->Q .ay H'):zqs K [.ref a,.int k] H Q E:=⟨_,_,rfl,a,ns,k,rfl,rfl,h,hl,h0,h1,q⟩
local macro_rules | `(tactic| wtm_at "pen")=>`(tactic| first
 | assumption
 | (apply bA.same;(focus assumption);wtm_at "pen"))
local macro_rules | `(tactic| wtm_at "ne")=>`(tactic| ((with_reducible apply bA.ne); (focus assumption); wtm_at "pen"))
local macro_rules | `(tactic| wtm_at "penle")=>`(tactic| exact bA.le (by wtm_at "pen") ())
theorem Ga(T:.o):dL P w base T.zm 2 (zqs K):=by
 exists T.zm,["_law_script","_law_k","_law_cell_here"],"b2",(ak (ay 2 jp (ao (zvs T) hr .cl))
     (av (aA (cZ (ae .au (ae (jF CO .au (Gp (v:=1000000000000000000) ⟨by decide,by decide,by decide⟩ .bQ) .cG) .z))))))
 obtain⟨a',ns,k,rfl,rfl,hs,hl,h0,h1,q⟩:=h;o_head zn3.v rfl rfl hs hl h0 h1 (λc=>?_);k_few;exact c9 (by show 3<=1000;decide) λp H' hp s e=>q p H' hp s ⟨_,_,0,e,by decide,by decide⟩
def Z7(K:wa):Sp:=λvs H Q _=>∃x0 x1,vs=[x0,x1] /\ ∃(p:wf)(k m:Int),x0=.ref p/\x1=.int m/\bA H p k/\k<=1000000/\0<m/\Bd 179980 m /\
 ∀(r:Int)(H':Hp),0<=r->r<m->Exc p H H'->aW H H'->bA H' p (k+1)->Q (.int r) H'
theorem zua{k m:Int}(h:bA H p k)(hk:k<=1000000)(hm:0<m)(hb:Bd 179980 m)
  (q:∀(r:Int)(H':Hp),0<=r->r<m->Exc p H H'->aW H H'->bA H' p (k+1)->Q (.int r) H'):Z7 K [.ref p,.int m] H Q E:=⟨_,_,rfl,p,k,m,rfl,rfl,h,hk,hm,hb,q⟩
local macro_rules | `(tactic| wtm_at "gs")=>`(tactic| subst 1 7 zua "pen" "L" "L" "bd128")
theorem dN(T:.o):dL P w base T.dD 1 (Z7 K):=by
 exists T.dD,["_law_pen_here","_law_most","_law_found","_law_mixed"],"b2",(ak (fQ (az cv .O ar) (j3 .C ar jL))
     (ak (aY (cF .O) (ak (ay 2 jp (az jl .O .X))
     (ak (fQ (az .aj .O .X) (j3 .C ar jL))
     (av (aA .au)))) bE)
     (ak (ay 3 jp (az jl (az de (az cv (az jl .O ar) ar) (az cv ar (az de .O .O))) ar))
     (ak (ay 3 jp (az jl (az de .ak (az cv .ak (az de ar .O))) ar))
     (av (aA (az jl (az .aj (az jl (az de .ak (az cv (az .aj .ak ar) ar)) ar) ar) .X)))))))
 obtain⟨p,k,m,rfl,rfl,⟨x,y,n,hp,hn0,hn1⟩,hk,hm,hbm,q⟩:=h;k_few
 all_goals
   exact q _ _ (QC _ ()) (qU _ hm) .cz (Exc.keep (p:=p) .cz hp) ⟨_,_,_,by assumption,by lia,by lia⟩
inductive GF(K:wa)(u w:V)(H:Hp)(Q:VK)(E:XK):Prop|v{U:Int}{b:Int}(e0:u=.int U)(e1:w=.int b)(hb:0<b)(hB:Bd 179980 b)(q:Rs K H Q (N (wC U b)))
theorem zzR{b:Int}(hb:0<b)(h1 : -100000000000000000000000000000000000000<=t)(h2:t<=100000000000000000000000000000000000000)(h3 : -100000000000000000000000000000000000000<=b)(h4:b<=100000000000000000000000000000000000000)
  (q:∀v H' (x:Rat),au H H'->Is K H' v (N x)->x=wC t b->af 128 x->Q v H'):GF K (.int t) (.int b) H Q E :=
 GF.v rfl rfl hb ((Bd.mR h3 h4).mono ⋯) λv H' s h=>q v H' _ s h rfl (af.divInt (show b≠0 by lia) (Bd.mR h1 h2) (Bd.mR h3 h4))
local macro_rules | `(tactic| wtm_at "gs")=>`(tactic| subst 1 7 zzR "L" "L" "L" "L" "L")
theorem iP(T:.o):ms P w base T.g_ 1 GF:=by
 exists T.g_,["_law_top","_law_bottom","_law_one","_law_other"],"c2",(ak (ay 2 jp (dE oR rfl T.h0o oV .ck))
     (ak (ay 3 jp .X)
     (ak (nI vj (dB kS .ak ar .cG) (av (zFp (i:=2) (j:=3) rfl jp rfl rfl ⋯ rfl rfl (ae .ak (ae (az jl .au .ak) ag)) rfl)))
     (av (aA (aU (ae (az .aj .C .au) (ae (az .aj .X .au) ag))))))))
 obtain@⟨t,b,rfl,rfl,hp,hB,q⟩:=h;have hb:b≠0:=by lia
 o_head zuV (λσ H'=>∃(x y:Int),σ = [some (.int t),some (.int b),some (.int x),some (.int y)]/\0<=x/\0<=y/\vT x y=vT t b/\H'=H) (λσ=>(ixI σ 3).toNat) ⟨_,_,rfl,by split<;>lia,by lia,Co t b,rfl⟩ ?_;rintro σ H' hz;obtain⟨x,y,rfl,hx,hy,hg,rfl⟩:=hz
 have hgb:Bd 179980 ((vT t b:Nat):Int):=hB.le (by
   have:vT t b ∣ b.natAbs:=Int.gcd_dvd_natAbs_right t b;have:=u0 () this
   simpa using this)
 k_few
 . refine Ut ?_
   k_few;have h1:=QC x (show y≠0 by lia);have h2:=qU x (show 0<y by lia)
   first | refine⟨?_,_,_,rfl,hy,h1,?_,rfl⟩ | refine⟨_,_,rfl,?_,_,_,rfl,hy,h1,?_,rfl⟩
   . show(x % y).toNat<y.toNat
     lia
   . rw[<- hg];exact zt1 () hx
 . rename_i h0
   have e0:y=0:=by lia
   subst e0
   have e:x=((vT t b:Nat):Int):=by
     rw[<- hg,XG];lia
   have e1:x=dv t b:=by unfold dv;rw[if_neg (),<- e]
   rw[e1];have hd:rC t (dv t b):=⟨YU hb,by unfold dv;rw[if_neg ()];exact hgb⟩;refine t_ hd ?_;k_few;exact dj (zA2 hb) (zE7 hb) q
def DZ(K:wa):Sp:=λvs H Q _=>∃x0 x1,vs=[x0,x1] /\ ∃(x:Rat)(t u:Int)(n:Nat),Is K H x0 (N x)/\Is K H x1 (.tuple [.int t,.int u])/\0<u/\af n x/\n<=88000/\Bd 88000 t/\Bd 88000 u/\Rs K H Q (N (x+wC t u))
theorem zn0{u:Int}{v w:V}(h1:Is K H v (N x))(h2:Is K H w (.tuple [.int t,.int u]))(hu:0<u)(b1:af 88000 x)(b2:Bd 88000 t)(b3:Bd 88000 u)(q:Rs K H Q (N (x+wC t u))):DZ K [v,w] H Q E:=⟨_,_,rfl,x,t,u,88000,h1,h2,hu,b1,wu _,b2,b3,q⟩
theorem zxo{v w:V}(h1:Is K H v (N x))(h2:Is K H w (N y))(b1:af 88000 x)(b2:af 88000 y)(q:Rs K H Q (N (x+y))):DZ K [v,w] H Q E :=
 zn0 h1 h2 (den_pos y) b1 b2.t b2.b (λv H' s i=>q v H' s (by rw[Vy]at i;exact i))
local macro_rules | `(tactic| wtm_at "gs")=>`(tactic| subst 1 4 zxo "is" "is" "bdr" "bdr")
theorem zDM{v:V}{u:Int}(h:Is K H v (.tuple [.int t,.int u]))(q:Q (.int t) H):dM K v (.int 0) H Q:=aD (j:=0) h rfl (λx i=>by rw[cj.mp i];exact q)
theorem zx1{v:V}{u:Int}(h:Is K H v (.tuple [.int t,.int u]))(q:Q (.int u) H):dM K v (.int 1) H Q:=aD (j:=1) h rfl (λx i=>by rw[cj.mp i];exact q)
theorem zB1(x:Rat){u:Int}(hu:0<u):wC (x.num*u+t*.ac) (.ac*u)=x+wC t u:=by
 have hp:=Wj (den_pos x) hu;refine gr () ?_;have k1:=ku x;have k2:=dG t (show u≠0 by lia);have e1:((x.num*u+t*.ac:Int):Rat)=(x.num:Rat)*(u:Rat)+(t:Rat)*(.ac:Rat):=by push_cast;rfl
 have e2:((.ac*u:Int):Rat)=(.ac:Rat)*(u:Rat):=by push_cast;rfl
 rw[e1,e2,<- k1,<- k2]
 grind
theorem h_(T:.o):dL P w base T.gK 2 (DZ K):=by
 exists T.gK,["_law_one","_law_other"],"b2",(av (aA (ao (iP T) hr (ae (az cv (az de .O .br) (az de .br .O)) (ae (az de .O .br) ag)))))
 obtain⟨x,t,u,n,hx,hy,hu,bx,hn,bt,bu,q⟩:=h;obtain⟨bx1,bx2⟩:=bx.mono hn;have hp:=Wj (den_pos x) hu;o_head zx1 hy ?_;o_head zDM hy ?_;o_head zx1 hy ?_;o_head GF.v rfl rfl hp ((bx2.mul bu).mono ⋯) (λv H' s hv=>?_);rw[zB1 x hu]at hv;exact q v H' s hv
inductive ZM(K:wa)(v w:V)(H:Hp)(Q:VK)(E:XK):Prop|v{S:Nat}{W:Nat}(h1:Is K H v (N U))(h2:Is K H w (N Z))(b1:af S U)(b2:af W Z)(hmn:S+W<=179980)(q:Rs K H Q (N (U-Z)))
theorem nh(T:.o):ms P w base T.lR 2 ZM:=by
 exists T.lR,["_law_one","_law_other"],"c2",(av (aA (ao (iP T) hr (ae (az fL (az de .O .br) (az de .br .O)) (ae (az de .O .br) ag)))))
 obtain@⟨x,y,m,n,hx,hy,bx,by',hmn,q⟩:=h;have cx:=bx.mono (show m<=179980 by lia);have cy:=by'.mono (show n<=179980 by lia);o_head GF.v rfl rfl (RY x y) ((bx.b.mul by'.b).mono hmn) (λv H' s hv=>?_);rw[Tg]at hv;exact q v H' s hv
inductive Yl(K:wa)(v w:V)(H:Hp)(Q:VK)(E:XK):Prop|v(h1:Is K H v (N U))(h2:Is K H w (N Z))(b1:af 80000 U)(b2:af 80000 Z)(q:Rs K H Q (N (U*Z)))
local macro_rules | `(tactic| wtm_at "gs")=>`(tactic| subst 1 4 Yl.v "is" "is" "bdr" "bdr")
theorem lX(T:.o):ms P w base T.kJ 2 Yl:=by
 exists T.kJ,["_law_one","_law_other"],"c2",(av (aA (ao (iP T) hr (ae (az de .O .br) (ae (az de .O .br) ag)))))
 obtain@⟨x,y,hx,hy,⟨bx1,bx2⟩,⟨by1,by2⟩,q⟩:=h;o_head GF.v rfl rfl (RY x y) ((bx2.mul by2).mono ⋯) (λv H' s hv=>?_);rw[zBT]at hv;exact q v H' s hv
inductive Rm(K:wa)(v w:V)(H:Hp)(Q:VK)(E:XK):Prop|v{S:Nat}{W:Nat}(h1:Is K H v (N U))(h2:Is K H w (N Z))(b1:af S U)(b2:af W Z)(hmn:S+W<=179960)(hy:Z≠0)(q:Rs K H Q (N (U / Z)))
theorem zu5{p q:Int}(h:q≠0):wC (0-p) (0-q)=wC p q:=by
 refine gr () ?_;have k:=dG p h;have e1:((0-p:Int):Rat) = -(p:Rat):=by rw[XH];push_cast;rfl
 have e2:((0-q:Int):Rat) = -(q:Rat):=by rw[XH];push_cast;rfl
 rw[e1,e2,<- k]
 grind
theorem UT(T:.o):ms P w base T.Dy 2 Rm:=by
 exists T.Dy,["_law_one","_law_other"],"c2",(ak (aY (dB lF .br ar .cG) (av (aA (ao (iP T) hr (ae (az fL ar (az de .O .br)) (ae (az fL ar (az de .O .br)) ag))))) bE)
     (av (aA (ao (iP T) hr (ae (az de .O .br) (ae (az de .O .br) ag))))))
 obtain@⟨x,y,m,n,hx,hy,bx,by',hmn,h0,q⟩:=h;have cx:=bx.mono (show m<=179980 by lia);have cy:=by'.mono (show n<=179980 by lia);have hn:=ye h0;have bb:=bx.b.mul by'.t;have hd:=den_pos x;have bo:Bd 179980 (0-.ac*y.num):=by rw[XH];exact bb.neg.mono ()
 k_few
 . rename_i z
   have hp:0<0-.ac*y.num:=by
     have:=Int.mul_neg_of_pos_of_neg hd z;lia
   refine GF.v rfl rfl hp bo (λv H' s hv=>?_);rw[zu5 (),Jr]at hv;exact q v H' s hv
 . rename_i z
   refine GF.v rfl rfl (Wj hd ()) (bb.mono ()) (λv H' s hv=>?_);rw[Jr]at hv;exact q v H' s hv
inductive ZY(K:wa)(v w:V)(H:Hp)(Q:VK)(E:XK):Prop|v(h1:Is K H v (N U))(h2:Is K H w (N Z))(b1:af 179980 U)(b2:af 179980 Z)(q:Q (.bl (decide (U<Z))) H)
local macro_rules | `(tactic| wtm_at "gs")=>`(tactic| subst 1 0 ZY.v "is" "is" "bdr" "bdr")
theorem yu(T:.o):ms P w base T.pB 1 ZY:=by
 exists T.pB,["_law_one","_law_other"],"c2",(av (aA (jF lF (az de .O .br) (az de .br .O) .cG)))
 obtain@⟨x,y,hx,hy,⟨bx1,bx2⟩,⟨by1,by2⟩,q⟩:=h;k_few;rw[Zh];exact q
theorem C0{w z n d:Int}(hw:1<=w)(hw8:w<=8)(hz:w<z)(hz4:z<=4*w)(hn:0<=n)(hd:1<=d)(hnd:n<=d)(hd12:d<=12):aK (wC z w) (wC n d):=by
 obtain⟨a1,a2,a3⟩:=Q_ (x:=wC z w) rfl hw hw8 () hz4;obtain⟨b1,b2,b3⟩:=Ff (y:=wC n d) rfl hd hd12 hn hnd
 have h1:(1:Rat)<wC z w:=by
  have:=dG z (show w≠0 by lia);refine Xa.mp λk=>?_
  have h2:=QE k (Wk (oo (show 0<w by lia)));rw[this,Ql]at h2;have:=Vw.mp h2;lia
 exact⟨a1,a2,a3,b1,b2,b3,by grind⟩
theorem RM{n d:Int}(hn:0<=n)(hd:1<=d)(hnd:n<=d)(hd12:d<=12):aK 1 (wC n d):=by
 obtain⟨b1,b2,b3⟩:=Ff (y:=wC n d) rfl hd hd12 hn hnd;exact⟨by decide,by decide,by decide,b1,b2,b3,by grind⟩
theorem Ar{w n d:Int}(hw:2<=w)(hw8:w<=8)(ht:1<=t)(htw:t<w)(hn:0<=n)(hd:1<=d)(hnd:n<=d)(hd12:d<=12)(h:(w-t)*d<=n*w):aK (wC t w) (wC n d):=by
 obtain⟨a1,a2,a3⟩:=Q_ (x:=wC t w) rfl () hw8 ht ();obtain⟨b1,b2,b3⟩:=Ff (y:=wC n d) rfl hd hd12 hn hnd;refine⟨a1,a2,a3,b1,b2,b3,?_⟩;have e1:=dG t (show w≠0 by lia);have e2:=dG n (show d≠0 by lia);have pw:(0:Rat)<(w:Rat):=oo (show 0<w by lia);have pd:(0:Rat)<(d:Rat):=oo (show 0<d by lia);refine W4.mp λk=>?_
 have k1:=qA k (Vv pw pd)
 have e3:(wC t w+wC n d)*((w:Rat)*(d:Rat))=(t:Rat)*(d:Rat)+(n:Rat)*(w:Rat):=by
  rw[<- e1,<- e2];grind
 rw[e3,Ql]at k1
 have k2:((t*d+n*w:Int):Rat)<((w*d:Int):Rat):=by
  rw[VG,vY,vY,vY];exact k1
 have k3:=xE.mp k2;rw[Int.sub_mul]at h;lia
theorem R9{w d:Int}(hw:2<=w)(ht:1<=t)(htw:t<w)(hd:1<=d):1<=0-((t-w)*d).fdiv w/\0-((t-w)*d).fdiv w<=d/\(w-t)*d<=(0-((t-w)*d).fdiv w)*w:=by
 rw[WF _ ()];have e:(t-w)*d = -((w-t)*d):=by rw[<- Int.neg_mul];congr 1;lia
 have p:1<=(w-t)*d:=by
  have:=uV (show(1:Int)<=w-t by lia) hd () ();lia
 have hle:(w-t)*d<=w*d:=W0 () ();rw[e];generalize (w-t)*d=m at *;have h1:=uN (-m) (show w≠0 by lia);have h2:=Int.lt_ediv_add_one_mul_self (-m) (show 0<w by lia);generalize -m / w=q at *;have e2:(0-q)*w = -(q*w):=by rw[Int.sub_mul,Int.zero_mul];lia
 have e3:(q+1)*w=q*w+w:=by rw[X7,QR]
 rw[e3]at h2;refine⟨?_,?_,by rw[e2];lia⟩
 ·refine Int.not_lt.mp λk=>?_
  have:0<=q*w:=xT () ();lia
 ·refine Int.not_lt.mp λk=>?_
  have:(q+1)*w<=(-d)*w:=W0 () ();rw[e3,Int.neg_mul,Int.mul_comm d w]at this;lia
inductive ZD(K:wa)(u:V)(H:Hp)(Q:VK)(E:XK):Prop|v{k:Int}(e0:u=.ref U)(h:bA H U k)(hk:k<=1000)(q:∀v Z (S W:Rat),Exc U H Z->aW H Z->bA Z U (k+8)->Is K Z v (R S W)->aK S W->Q v Z)
theorem zml(T:.o):kw P w base T.Lo 2 ZD:=by
 exists T.Lo,["_law_pen_here","_law_way","_law_bottom","_law_deep","_law_more","_law_top","_law_need"],"c1",(ak (ay 1 jp .aE)
     (ak (ay 2 jp (az cv ar .aE))
     (ak (ay 3 jp (az cv ar .aE))
     (ak (ay 4 jp (ao (dN T) hr (ae .C (ae (az cv .ak ar) ag))))
     (ak (aY (dX K hu .aE ar) (av (ay 4 jp (dE (show bN _ (.builtin "min") Ci from YO rfl) rfl T.h0x zBi (ae .cL .z)))) bE)
     (ak (aY (dB lF .X ar .cG) (av (aA (aU (ae (ao (iP T) hr (ae (az cv (az cv .au ar) (az de .X (ao (dN T) hr (ae .C (ae (az de ar .au) ag))))) .cR)) (ae (ao (iP T) hr (q2 4 3)) ag))))) bE)
     (ak (aY (dX K hu .X ar) (av (aA (aU (ae .aA (ae (ao (iP T) hr (q2 4 3)) ag))))) bE)
     (ak (ay 2 jp (az cv ar (az jl .au ar)))
     (ak (ay 5 jp (az cv ar (ao (dN T) hr (ae .C (ae (az fL .au ar) ag)))))
     (ak (aY (dX K hu .X ar) (av (aA (aU (ae (ao (iP T) hr (q2 5 2)) (ae (ao (iP T) hr (ae (az fL .au .cI) .cR)) ag))))) bE)
     (ak (ay 6 jp (az fL ar (az .aj (az de (az fL .cI .au) .ak) .au)))
     (av (aA (aU (ae (ao (iP T) hr (q2 5 2)) (ae (ao (iP T) hr (ae (az cv (pv 6) (ao (dN T) hr (ae .C (ae (az cv (az fL .ak (pv 6)) ar) ag)))) (q1 3))) ag))))))))))))))))
 obtain@⟨p,k,rfl,hp,hk,q⟩:=h;wtm_at "ga"
 . rename_i way H1 w0 w1 E1 K1 P1 bt H2 b0 b1 E2 K2 P2 dr H3 d0 d1 E3 K3 P3 mo H4 m0 m1 E4 K4 P4 tw H5 t0 t1 E5 K5 P5 z mn mn0 mn1 mn2 hw rr H6 r0 r1 E6 K6 P6
   have hw2:way=0\/way=1:=by lia
   rcases hw2 with rfl | rfl
   . wtm_at "ga"
     rename_i v7 H7 x7 S7 i7 e7 b7 v8 H8 x8 S8 i8 e8 b8 v9 H9 S9 i9;exact q _ _ x7 x8 .cz (by wtm_at "keep") .cM i9 (by rw[e7,e8];exact C0 () () () () () () () ())
   . wtm_at "ga"
     rename_i v7 H7 x7 S7 i7 e7 b7 v8 H8 x8 S8 i8 e8 b8 v9 H9 S9 i9;exact q _ _ x7 x8 .cz (by wtm_at "keep") .cM i9 (by rw[e7,e8];exact C0 () () () () () () () ())
 . rename_i way H1 w0 w1 E1 K1 P1 bt H2 b0 b1 E2 K2 P2 dr H3 d0 d1 E3 K3 P3 mo H4 m0 m1 E4 K4 P4 tw H5 t0 t1 E5 K5 P5 z mn mn0 mn1 mn2 hw hw2 v7 H7 S7 i7 v8 H8 x8 S8 i8 e8 b8 v9 H9 S9 i9
   exact q _ _ 1 x8 .cz (by wtm_at "keep") .cM i9 (by rw[e8];exact RM () () () ())
 . rename_i way H1 w0 w1 E1 K1 P1 bt H2 b0 b1 E2 K2 P2 dr H3 d0 d1 E3 K3 P3 mo H4 m0 m1 E4 K4 P4 tw H5 t0 t1 E5 K5 P5 z mn mn0 mn1 mn2 hw hw2 rr H6 r0 r1 E6 K6 P6 hw3 v7 H7 x7 S7 i7 e7 b7 v8 H8 x8 S8 i8 e8 b8 v9 H9 S9 i9
   exact q _ _ x7 x8 .cz (by wtm_at "keep") .cM i9 (by rw[e7,e8];exact Ar () () () () () () () () (Int.le_refl _))
 . rename_i way H1 w0 w1 E1 K1 P1 bt H2 b0 b1 E2 K2 P2 dr H3 d0 d1 E3 K3 P3 mo H4 m0 m1 E4 K4 P4 tw H5 t0 t1 E5 K5 P5 z mn mn0 mn1 mn2 hw hw2 rr H6 r0 r1 E6 K6 P6 hw3
   have nd:=R9 (t:=1+rr) (w:=2+(1+bt) % 7) (d:=1+dr) () () () ();refine t_ ⟨by lia,(Bd.mR () ()).mono ⋯⟩ ?_;generalize ((1+rr-(2+(1+bt) % 7))*(1+dr)).fdiv (2+(1+bt) % 7)=fd at nd ⊢;obtain⟨n1,n2,n3⟩:=nd;wtm_at "ga";rename_i v7 H7 x7 S7 i7 e7 b7 s8 H8 s0 s1 E8 K8 P8 v9 H9 x9 S9 i9 e9 b9 v10 H10 S10 i10
   exact q _ _ x7 x9 .cz (by wtm_at "keep") .cM i10 (by
     rw[e7,e9];refine Ar () () () () () () () () ?_;have:(0-fd)*(2+(1+bt) % 7)<=(0-fd+s8)*(2+(1+bt) % 7):=W0 () ();lia)
 . rename_i way H1 w0 w1 E1 K1 P1 bt H2 b0 b1 E2 K2 P2 dr H3 d0 d1 E3 K3 P3 mo H4 m0 m1 E4 K4 P4 tw H5 t0 t1 E5 K5 P5 z hw rr H6 r0 r1 E6 K6 P6
   have hw2:way=0\/way=1:=by lia
   rcases hw2 with rfl | rfl
   . wtm_at "ga"
     rename_i v7 H7 x7 S7 i7 e7 b7 v8 H8 x8 S8 i8 e8 b8 v9 H9 S9 i9;exact q _ _ x7 x8 .cz (by wtm_at "keep") .cM i9 (by rw[e7,e8];exact C0 () () () () () () () ())
   . wtm_at "ga"
     rename_i v7 H7 x7 S7 i7 e7 b7 v8 H8 x8 S8 i8 e8 b8 v9 H9 S9 i9;exact q _ _ x7 x8 .cz (by wtm_at "keep") .cM i9 (by rw[e7,e8];exact C0 () () () () () () () ())
 . rename_i way H1 w0 w1 E1 K1 P1 bt H2 b0 b1 E2 K2 P2 dr H3 d0 d1 E3 K3 P3 mo H4 m0 m1 E4 K4 P4 tw H5 t0 t1 E5 K5 P5 z hw hw2 v7 H7 S7 i7 v8 H8 x8 S8 i8 e8 b8 v9 H9 S9 i9
   exact q _ _ 1 x8 .cz (by wtm_at "keep") .cM i9 (by rw[e8];exact RM () () () ())
 . rename_i way H1 w0 w1 E1 K1 P1 bt H2 b0 b1 E2 K2 P2 dr H3 d0 d1 E3 K3 P3 mo H4 m0 m1 E4 K4 P4 tw H5 t0 t1 E5 K5 P5 z hw hw2 rr H6 r0 r1 E6 K6 P6 hw3 v7 H7 x7 S7 i7 e7 b7 v8 H8 x8 S8 i8 e8 b8 v9 H9 S9 i9
   exact q _ _ x7 x8 .cz (by wtm_at "keep") .cM i9 (by rw[e7,e8];exact Ar () () () () () () () () (Int.le_refl _))
 . rename_i way H1 w0 w1 E1 K1 P1 bt H2 b0 b1 E2 K2 P2 dr H3 d0 d1 E3 K3 P3 mo H4 m0 m1 E4 K4 P4 tw H5 t0 t1 E5 K5 P5 z hw hw2 rr H6 r0 r1 E6 K6 P6 hw3
   have nd:=R9 (t:=1+rr) (w:=2+(1+bt) % 7) (d:=1+dr) () () () ();refine t_ ⟨by lia,(Bd.mR () ()).mono ⋯⟩ ?_;generalize ((1+rr-(2+(1+bt) % 7))*(1+dr)).fdiv (2+(1+bt) % 7)=fd at nd ⊢;obtain⟨n1,n2,n3⟩:=nd;wtm_at "ga";rename_i v7 H7 x7 S7 i7 e7 b7 s8 H8 s0 s1 E8 K8 P8 v9 H9 x9 S9 i9 e9 b9 v10 H10 S10 i10
   exact q _ _ x7 x9 .cz (by wtm_at "keep") .cM i10 (by
     rw[e7,e9];refine Ar () () () () () () () () ?_;have:(0-fd)*(2+(1+bt) % 7)<=(0-fd+s8)*(2+(1+bt) % 7):=W0 () ();lia)
inductive Y_(K:wa)(v u:V)(H:Hp)(Q:VK)(E:XK):Prop|v{n:Int}(e1:u=.int n)(h1:.bo)(b1:af 10 U)(b2:af 10 Z)(h0:0<=n)(h64:n<=64)(q:Rs K H Q (R (U^n.toNat) (aB U Z n.toNat)))
theorem zkz(T:.o):ms P w base T.Dq 3 Y_:=by
 exists T.Dq,["_law_rule","_law_many","_law_found","_law_k"],"c2",(ak (ay 2 jp (aU (ae .aA (ae .aA ag))))
     (ak (fi vj rfl (gI rfl T.h0j (q1 1)) (cC (i:=3) jp rfl .s) (av (ay 2 jp (aU (ae (ao (lX T) hr (ae .O (ae (qi 2) ag))) (ae (ao (h_ T) hr (ae (ao (lX T) hr (ae .O (ae (qi 2) ag))) .cb)) ag))))))
     (av (aA .au))))
 obtain@⟨r,s',n,rfl,hr',ba,bb,h0,h64,q⟩:=h;o_head dj (r:=1) rfl rfl .aJ;o_head dj (r:=0) rfl rfl .aK;o_head HZ (i1.by S2) i2 .as;o_head jO (n:=n) () () (λi σ H'=>∃(f:V)(o:.bD),σ = [some x0,some (.int n),some f,o]/\au H H'/\Is K H' f (R (r^i) (aB r s' i))) ⟨_,_,rfl,S1.trans .bL,by rw[Vz];exact i3⟩ ?_ ?_
 . rintro i σ H' hi hz;obtain⟨f,o,rfl,S,hf⟩:=hz
   have hr1:=hr'.by S;have bf:af 650 (r^i):=(ba.pow i).mono ();have bg:af 1400 (aB r s' i):=(ba.aB bb i).mono ();o_head HZ (a:=r*r^i) (b:=r*aB r s' i+s') (by wtm_at "is") (by wtm_at "is") (λv4 H4 S4 i4=>?_);o_head ⟨_,_,rfl,au.back S4 (by wtm_at "same"),?_⟩;rw[WV,V5];exact i4
 . rintro σ H' hz;obtain⟨f,o,rfl,S,hf⟩:=hz
   k_few;exact q _ _ S hf
def gE(a b:Rat)(ns:.p)(xs:.a):Nat->Rat
 | 0=>0
 | k+1=>gE a b ns xs k+(1-(aQ a b ns .aV k).getD k 0)
def kQ(a b:Rat)(ns:.p)(xs:.a)(k:Nat):List Rat:=(wr k).map λj=>(aQ a b ns .aV (j+1)).getD ((j+1) % ns.length) 0
theorem zzJ(a b:Rat)(ns:.p)(xs:.a)(k:Nat):kQ a b ns xs (k+1)=kQ a b ns xs k++[(aQ a b ns .aV (k+1)).getD ((k+1) % ns.length) 0]:=by
 unfold kQ;rw[Qz,wU];rfl
theorem JD(h:ah K H us .bg)(k:Is K H u (N x)):ah K H (us++[u]) ((xs++[x]).map N):=by
 rw[wU];exact h.append (.cons k .nil)
theorem zDb{m:Int}(h:aF K H p .aC)(h0:0<=m)(h1:m<ns.length)(q:Q (.int (ns.getD m.toNat 0)) H):dM K .ay .cB H Q:=by
 obtain⟨n,rfl⟩:∃n:Nat,m=(n:Int):=⟨m.toNat,by lia⟩;refine jf h (m4 (j:=n) (v:=.int (ns.getD n 0)) ?_) q;rw[wA,wb,we ()]
 rfl
inductive JX(K:wa)(v w u:V)(H:Hp)(Q:VK)(E:XK):Prop|v{W:.p}(e1:w=.ref U)(h1:Is K H v (R Z S))(h2:aF K H U (W.map V.int))(h3:Is K H u (LN Y)\/Is K H u (TN Y))(ok:dF Z S W Y)(hrow:∀D,D<=W.length->Cm 70000 (aQ Z S W (Y++[0]) D))(htm:∀D,D<W.length->af 86000 (gE Z S W Y D))(q:∀G lb vt lh I hs J,au H J->J G=some (.tup [.ref lb,vt,.ref lh])->J lb=some (.lst I)->ah K J I ((cQ Z S W Y).map N)->Is K J vt (N (gE Z S W Y W.length))->H lh=none->J lh=some (.lst hs)->ah K J hs ((kQ Z S W Y W.length).map N)->Q (.ref G) J)
theorem mH{a:Rat}{v:V}(h1:Is K H v (R a b))(h2:aF K H p1 .aC)(h3:Is K H u (LN xs)\/Is K H u (TN xs))(ok:dF a b ns xs)(hrow:∀k,k<=ns.length->Cm 70000 (aQ a b ns .aV k))(htm:∀k,k<ns.length->af 86000 (gE a b ns xs k))(q:Rs K H Q (.tuple [LN (cQ a b ns xs),N (gE a b ns xs ns.length),LN (kQ a b ns xs ns.length)])):JX K v (.ref p1) u H Q E :=
 JX.v rfl h1 h2 h3 ok hrow htm (λt lb vt lh us hs H' S et eb tb it _ eh th=>q (.ref t) H' S (cA.mpr ⟨t,_,rfl,.of et,.cons (cw eb tb) (.cons it (.cons (cw eh th) .nil))⟩))
theorem zGt{row:.a}(c:Cm m row)(hj:j<row.length)(hk:k<row.length):af (m+2) (row.getD j 0+(1-row.getD k 0)):=by
 have c0:Cm m (0::row):=c.hJ λy hy=>by rcases wO.mp hy with rfl | hy;(exact .inr rfl);exact .inl hy
 exact(c0.rise (GM.getD_mem hk)).eH (wH _ (wW.mpr ⟨_,GM.getD_mem hj,rfl⟩))
theorem mI(T:.o):pc P w base T.kK 4 JX:=by
 exists T.kK,["_law_rule","_law_sizes","_law_places","_law_phases","_law_time_here","_law_heights","_law_at","_law_wait","_law_often","_law_risen"],"c3",(ak (ay 3 jp (az cv (gu .R rfl T.h0m fS .cR) (cZ (ae .aA ag))))
     (ak (ay 4 jp .aA)
     (ak (ay 5 jp (cZ ag))
     (ak (fi vj rfl (gI rfl T.h0j (ae (cT K T.h0t (q1 1)) ag)) (cC (i:=6) jp rfl .s) (ak (ay 7 jp (ao (nh T) hr (ae .aA (ae (cB ck .ak (pv 6) .J) ag))))
     (ak (ay 4 jp (ao (h_ T) hr (q2 4 7)))
     (ak (ay 8 jp (ao (zkz T) hr (ae .C (ae (cB ck .X (pv 6) .J) ag))))
     (ak (kO (i:=9) jp rfl .s rfl (dq ["_law_phase","_law_wait"] [none,some 7]) (fT .ak) .L .ah (λ_ _ _ _ _=>(ao (h_ T:) hr .cl)))
     (ak (kO (i:=3) jp rfl .s rfl (dq ["_law_phase","_law_often"] [none,some 8]) (fT (pv 9)) .L .ah (λ_ _ _ _ _=>(ao (h_ T:) hr (ae (ao (lX T:) hr (ae (sh (K:=K) ck .X) .ck)) (ae (sh (K:=K) ck .X) ag)))))
     (ak (fQ .aA (j3 .ak (pv 6) jL))
     (av (jP (jD vP vV vW jk .cI (ae (cB ck .ak (az jl (az cv (pv 6) ar) (cT K T.h0t (q1 1))) .J) ag)))))))))))
     (av (aA (aU (ae (fN fK .ak fW (fE .cs)) (q2 4 5)))))))))
 obtain@⟨p1,ra,rb,xs,ns,rfl,hr',hn',hp',ok,hrow,htm,q⟩:=h;have hlen:=ok.len;have hfew:=ok.bC;o_head pS hp' (λl1 H1 us hl1 S1 e1 t1=>?_);have hul:=t1.length;rw[wn]at hul;o_head dj (r:=0) rfl rfl .aK;o_head c9 ∅ (λl3 H3 hl3 S3 e3=>?_);refine gv (S3 _ _ (S2 _ _ e1)) e3 (WM (iS .aw)) (λlp H4 hl4 S4 e4=>?_);o_head dj (r:=0) rfl rfl .bR;o_head c9 ∅ (λlh H6 hlh S6 e6=>?_);have T4:au H H4:=S1.trans (S2.trans .ca);have T6:au H H6:=T4.trans (S5.trans S6);have t6:ah K H6 (us++[v2]) ((xs++[0]).map N):=JD (ah.same (S2.trans (S3.trans (S4.trans (S5.trans S6)))) _ _ t1) (i2.by (S3.trans (S4.trans (S5.trans S6))));have e46:=S6 _ _ (S5 _ _ e4);have hD:=gH (T4.trans S5) hlh;have neph:lp≠lh:=λz=>by subst z;rw[S5 _ _ e4]at hlh;cases hlh
 have i56:=i5.by S6;clear S1 S2 S3 S4 S5 S6 e1 e3 e4 t1 i2 i5 hl1 hl3 hl4 hlh T4;o_head eP (T6.seq hn') ?_;rw[wn];refine jO (n:=.cW) () () (λk σ H'=>∃lp vt o6 o7 o8 o9 us hs,σ = [some x0,some (.ref p1),some x2,some .bU,some vt,some (.ref lh),o6,o7,o8,o9]/\au H H'/\lp≠lh/\H' lp=some (.lst us)/\ah K H' us ((aQ ra rb ns .aV k).map N)/\Is K H' vt (N (gE ra rb ns xs k))/\H' lh=some (.lst hs)/\ah K H' hs ((kQ ra rb ns xs k).map N)) ⟨lp,v5,_,_,_,_,_,[],rfl,T6,neph,e46,t6,i56,e6,.nil⟩ ?_ ?_
 . rintro k σ H7 hk hz;obtain⟨lp,vt,o6,o7,o8,o9,us,hs,rfl,S7,neph,e7,t7,it7,h7,th7⟩:=hz
   have hk':k<ns.length:=by simpa using hk
   have b1:=htm k hk';have hmk:=hrow k ();have hrl:(aQ ra rb ns .aV k).length=ns.length:=by rw[dP,wM];simp;lia
   have e8:aQ ra rb ns .aV (k+1)=eS ra rb (ns.getD k 0).toNat (aQ ra rb ns .aV k) k:=rfl;have et:gE ra rb ns xs (k+1)=gE ra rb ns xs k+(1-(aQ ra rb ns .aV k).getD k 0):=rfl;have eh:=zzJ ra rb ns xs k;have bb:∀j,af 70000 ((aQ ra rb ns .aV k).getD j 0):=λj=>hmk.get j
   have hnk:=ok.n0 (ns.getD k 0) (by rw[wb,we hk'];exact vF _);generalize aQ ra rb ns .aV k=row at *;have bw:af 70002 (1-row.getD k 0):=(af.one.sub (bb k)).mono ⋯;have bk:=bb k;o_head dj (r:=1) rfl rfl .bv;o_head jc (cw (S8 _ _ e7) (ah.same S8 _ _ t7)) () () (λv9 i9=>?_);rw[wE]at i9;have it8:=it7.by S8;o_head ZM.v i8 i9 af.one bk ⋯ .cH;have it10:=it8.by S10;k_few;rename_i v11 H11 S11 i11;have T11:=S8.trans (S10.trans S11);refine zDb (T11.seq (S7.seq hn')) () () ?_;rw[wE];o_head Y_.v rfl ((hr'.by S7).by T11) ok.ba ok.bb hnk.1 hnk.2 (λv12 H12 S12 i12=>?_);have T12:=T11.trans S12;have bf:af 700 (ra^(ns.getD k 0).toNat):=(ok.ba.pow _).mono ();have bg:af 30000 (aB ra rb (ns.getD k 0).toNat):=(ok.ba.aB ok.bb _).mono ();have i1012:=i10.by .cx;have i1112:=i11.by S12;have e12:=T12 _ _ e7;have t12:ah K H12 us (row.map N):=ah.same T12 _ _ t7;have h12:=T12 _ _ h7;have th12:ah K H12 hs ((kQ ra rb ns xs k).map N):=ah.same T12 _ _ th7;have X12:=S7.trans T12;have hul:us.length=row.length:=by rw[t12.length,wn]
   rw[<- et]at i1112;clear S8 S10 S11 S12 T11 T12 i8 i9 i10 i11 e7 t7 h7 th7 it7 it8;o_head lM (.of e12) (o0:=none) (tl:=[some v10]) rfl (λj v H=>Is K H v (N ((row.map λx=>x+(1-row.getD k 0)).getD j 0))) ?_ ?_
   . rintro D j x ys o H1 hx' inv
     obtain⟨hj,ix⟩:=cO t12 hx';have ix1:=ix.by inv.same;have jv:=i1012.by inv.same;have bx:=bb j;k_few;rename_i v4 H4 S4 iv4;exact eT inv () fz ⟨_,rfl⟩ S4 (by rw[p9 hj];exact iv4)
   . rintro D ys H13 hn13 S13 e13 hl13 hr13
     have hyl:ys.length=row.length:=by lia
     have t13:ah K H13 ys ((row.map λx=>x+(1-row.getD k 0)).map N):=fG (by rw[wn];exact hyl) hr13;have hn0:H12 D=none:=hn13;o_head lM (.of e13) (o0:=none) (tl:=[some v12]) rfl (λj v H=>Is K H v (N ((row.map λx=>push ra rb (ns.getD k 0).toNat (x+(1-row.getD k 0))).getD j 0))) ?_ ?_
     . rintro D2 j x zs o H1 hx' inv
       obtain⟨hj,ix⟩:=cO t13 hx';rw[wn]at hj;rw[p9 hj]at ix;have ix1:=ix.by inv.same;have jv:=(i12.by S13).by inv.same;have bx:af 70002 (row.getD j 0+(1-row.getD k 0)):=zGt hmk hj ();k_few;rename_i v4 H4 S4 iv4 v5 iv5 v6 H6 S6 iv6;exact eT inv () fz ⟨_,rfl⟩ (S4.trans S6) (by rw[p9 hj,je];exact iv6)
     . rintro D2 zs H14 hn14 S14 e14 hl14 hr14
       have hzl:zs.length=row.length:=by lia
       have T14:=S13.trans S14;o_head dj (r:=0) rfl rfl (λv15 H15 S15 i15=>?_);o_head jC (j:=k) (S15 _ _ e14) (by unfold fZ;rw[if_pos (),if_pos ()];simp) (λH16 E16 e16=>?_);have hD2:H12 D2=none:=gH S13 hn14;have ne2:lh≠D2:=λz=>by subst z;rw[h12]at hD2;cases hD2
       have hDH:=gH X12 hD2;have T15:=T14.trans S15;have h16:=E16 lh _ ne2 (T15 _ _ h12);have K16:aW H15 H16:=E16.keep (S15 _ _ e14)
       have t16:ah K H16 (zs.set k v15) ((eS ra rb (ns.getD k 0).toNat row k).map N):=by
         refine fG (by rw[Wv,jT];exact hzl) λj v hv=>?_
         rw[W5]at hv
         by_cases hij:k=j
         . subst hij
           rw[if_pos rfl,if_pos ()]at hv;cases hv;rw[ja _ _ _ _ _ _ (),if_pos rfl];exact i15.dQ K16
         . rw[if_neg hij]at hv
           have hj:j<row.length:=by
             rcases wJ j zs.length with z | z
             . lia
             . rw[wQ z]at hv;cases hv
           have hz:=hr14 j v hv;rw[p9 hj]at hz;rw[ja _ _ _ _ _ _ hj,if_neg (WN hij)];exact(hz.by S15).dQ K16
       rw[<- e8]at t16;have th16:ah K H16 hs ((kQ ra rb ns xs k).map N):=ah.keep (T15.keep.trans K16) _ _ (fh _) th12;have i1116:=(i1112.by T15).dQ K16;have X16:au H H16:=(X12.trans T15).grow hDH E16;have hrl2:(aQ ra rb ns .aV (k+1)).length=ns.length:=by rw[dP,wM];simp;lia
       have hhl:hs.length=k:=by
         have:=th16.length;rw[wn]at this;unfold kQ at this
         simpa using this
       clear hr14 e14 hn14 S14 S15 T14 T15 S13 e13 t13 hr13 hn13 i12 i1012 i1112 e12 t12 h12 th12 i15;o_head jh (aF.of h16) ?_;o_head eP (X16.seq hn') ?_;rw[wn];have hn0':(0:Int)<.cW:=by lia
       k_few;have em:((k:Int)+1) % .cW=(((k+1) % ns.length:Nat):Int):=by push_cast;rfl
       have hmd:(k+1) % ns.length<ns.length:=Qx _ ();rw[em];refine jc (cw e16 t16) () () (λv17 i17=>?_);rw[wE]at i17;o_head jm h16 () (λH18 E18 e18=>?_);have K18:=E18.keep h16;o_head ⟨D2,_,_,_,_,_,_,hs++[v17],rfl,X16.grow hD E18,WN ne2,E18 D2 _ (WN ne2) e16,ah.keep K18 _ _ (fh _) t16,i1116.dQ K18,e18,?_⟩;rw[eh];exact JD (ah.keep K18 _ _ (fh _) th16) (i17.dQ K18)
 . rintro σ H7 hz;obtain⟨lp,vt,o6,o7,o8,o9,us,hs,rfl,S7,neph,e7,t7,it7,h7,th7⟩:=hz
   o_head iE (cw e7 t7) (λl20 H20 ys20 n20 S20 e20 t20=>?_);rw[tS,<- Qg]at t20;o_head pP ∅ (λt21 H21 n21 S21 e21=>?_);exact q t21 l20 vt lh ys20 hs H21 (S7.trans (S20.trans S21)) e21 (S21 _ _ e20) (ah.same S21 _ _ t20) (it7.by (S20.trans S21)) hD ((S20.trans S21) _ _ h7) (ah.same (S20.trans S21) _ _ th7)
inductive O5(K:wa)(v u:V)(H:Hp)(Q:VK)(E:XK):Prop|v{Z:Nat}{n:Int}(e1:u=.int n)(h:Is K H v (N U))(b:af Z U)(hk:Z<=80000)(n0:0<=n)(n1:n<=100)(hkn:Z*n.toNat<=80000)(q:Rs K H Q (N (U^n.toNat)))
theorem FW{k:Nat}{x:Int}(h:Bd k x):∀n:Nat,Bd (k*n+1) (x^n)
 | 0=>⟨by simp⟩
 | n+1=>by
  rw[V2];exact((FW h n).mul h).mono (by rw[Nat.mul_add];lia)
theorem yr(T:.o):ms P w base T.pA 1 O5:=by
 exists T.pA,["_law_one","_law_many","_law_top","_law_bottom","_law_k"],"c2",(ak (ay 2 jp ar)
     (ak (ay 3 jp ar)
     (ak (fi vj rfl (gI rfl T.h0j (q1 1)) (cC (i:=4) jp rfl .s) (ak (ay 2 jp (az de .au .O))
     (av (ay 3 jp (az de .ak .O)))))
     (av (aA (aU (q2 2 3)))))))
 obtain@⟨ra,kk,n,rfl,hx,ba,hk4,n0,n1,hkn,q⟩:=h;have bt:Bd 80000 ra.num:=ba.t.mono hk4;have bd:Bd 80000 (ra.den:Int):=ba.b.mono hk4;o_head jO (n:=n) () () (λi σ H'=>∃o,σ = [some x0,some (.int n),some (.int (ra.num^i)),some (.int ((ra.den:Int)^i)),o]/\H'=H) ⟨none,by rw[QD,QD],rfl⟩ ?_ ?_
 . rintro i σ H' hi ⟨o,rfl,rfl⟩
   have hki:kk*i<=kk*n.toNat:=qJ _ ();have b1:Bd 80020 (ra.num^i):=(FW ba.t i).mono ();have b2:Bd 80020 ((ra.den:Int)^i):=(FW ba.b i).mono ();have e1:ra.num^(i+1)=ra.num^i*ra.num:=V2 ..;have e2:(ra.den:Int)^(i+1)=(ra.den:Int)^i*(ra.den:Int):=V2 ..;generalize ra.num^i=t at *;generalize (ra.den:Int)^i=u at *;k_few;exact⟨_,by rw[e1,e2],rfl⟩
 . rintro σ H' ⟨o,rfl,rfl⟩
   k_few;exact dj (r:=ra^n.toNat) (Rat.num_pow ..).symm (by rw[Rat.den_pow];push_cast;rfl) q
inductive Sk(K:wa)(v u:V)(H:Hp)(Q:VK)(E:XK):Prop|v{W:.p}(e1:u=.ref U)(h1:Is K H v (R Z S))(h2:aF K H U (W.map V.int))(ok:aK Z S)(sz:dh W)(ha:Z≠1)(q:∀l Y D,H l=none->au H Y->Y l=some (.lst D)->ah K Y D ((cf Z S W).map N)->Q .az Y)
theorem mP{a:Rat}(h:.aS)(k:dh ns)(hl:.D)(c:.bM)(hm:m<=65800):dF a b ns xs/\(∀j,j<=ns.length->Cm 70000 (aQ a b ns .aV j)) /\ ∀j,j<ns.length->af 86000 (gE a b ns xs j):=by
 have h8:=k.bC;have hu:=k.upTo
 have ht:∀j,gE a b ns xs j=d5 a b ns .aV j:=λj=>by
  induction j with
  | zero=>rfl
  | succ j ih=>rw[gE,d5,ih]
 have hc:∀j,j<=ns.length->Cm 70000 (d5 a b ns .aV j::aQ a b ns .aV j):=λj hj=>by
  have h1:=J3 (ns:=ns) hj .ax;exact(c.snoc.zB h.ba h.bb (ns:=ns) j hj).mono ()
 refine⟨⟨h.ba,h.bb,λn hn=>by have:=k.each n hn;lia,hl,by lia,⟨m,c,by lia⟩⟩,λj hj=>lP (hc j hj) λy hy=>wH _ hy,λj hj=>?_⟩;rw[ht];exact((hc j ()).eH .bH).mono ⋯
theorem JR{l:wf}{v:V}{k:Int}(e:H l=some (.lst [v]))(h0:0<=k)(h1:k<=1000)(q:∀p H',H p=none->au H H'->H' p=some (.lst (vy k.toNat v))->Q .ay H'):oH .az (.int k) H Q :=
 Py e () h1 (by rw[vL];lia) (λp H' n s e'=>q p H' n s (by rw[e',List.flatten_replicate_singleton]))
theorem UC{v:V}(h:Is K H v (N 0))(n:Nat):ah K H (vy n v) ((dm n).map N):=by
 unfold dm;rw[XI];exact ah.OZ h n
theorem zN(T:.o):ms P w base T.sF 5 Sk:=by
 exists T.sF,["_law_rule","_law_sizes","_law_factor","_law_shifts"],"c2",(ak (ay 2 jp (ao (yr T) hr (ae .O (ae (dE (show bN _ (.builtin "sum") (tR K)from FJ rfl) rfl T.h0s Br (q1 1)) ag))))
     (ak (ay 3 jp (eI (ao (mI T) hr (ae .C (ae .X (ae (az (show bV _ (WE .Mult) oH from Ao) (cZ (ae .aA ag)) (az fL (cT K T.h0t (q1 1)) ar)) ag))))))
     (av (aA (eO rfl (dq ["_law_shift","_law_factor"] [none,some 2]) (fT .ak) .L .ah (λ_ _ _ _ _=>by exact(ao (UT T:) hr (ae .C (ae (ao (nh T:) hr (ae (show PE _ _ (nH K _)from aU (ae ar .z)) (q1 1))) ag)))))))))
 obtain@⟨p1,ra,rb,ns,rfl,hr',hn',ok,sz,ha,q⟩:=h;have h8:=sz.bC;have h1:=sz.some;have hp:=sz.pos;have hF:ra^ns.sum.toNat≠1:=λe=>ha ((lC ok ()).mp e)
 have bF:af 49 .bV:=(jG ok _).mono ();have hne:1-ra^ns.sum.toNat≠0:=λe=>hF .aF
 have rc:=mP ok sz (xs:=dm .aU) (by rw[yW];lia) (rT _) ⋯;k_few;rename_i va ia;refine Fz hn' ?_;o_head O5.v rfl ia (A0 ok) ⋯ () () () .aJ;o_head dj (r:=0) rfl rfl .aK;o_head c9 ∅ (λl3 H3 n3 S3 e3=>?_);o_head eP ((S1.trans .bL).seq hn') ?_;rw[wn];o_head JR e3 () () (λl4 H4 n4 S4 e4=>?_);have T4:=S1.trans (S2.trans .ca);have hk:(.cW-1).toNat=ns.length-1:=by lia
 rw[hk]at e4;have i4:Is K H4 (.ref l4) (LN (dm .aU)):=cw e4 (UC (i2.by .ca) _);o_head mH (hr'.by T4) (T4.seq hn') (.inl i4) rc.1 rc.2.1 rc.2.2 .bR;o_head aD (j:=0) i5 rfl .cU;have T5:=T4.trans S5;have i15:=i1.by (S2.trans (S3.trans .bj));obtain⟨l6,us,rfl,hs6,t6⟩:=bY.mp i6;have hul:=t6.length;rw[wn]at hul;have hsl:(cD ra rb ns).length=ns.length-1:=mW h1;have hul:us.length=ns.length-1:=by rw[hul];exact hsl
 have hstl:(cf ra rb ns).length=ns.length-1:=k_ h1;o_head lM hs6 (o0:=none) (tl:=[some v1]) rfl (λj y H'=>Is K H' y (N ((cf ra rb ns).getD j 0))) ?_ ?_
 . intro D j x ys o H7 hx inv
   obtain⟨hj,ix⟩:=cO (xs:=cD ra rb ns) t6 hx;have S7:=inv.same;have ix7:=ix.by S7;o_head dj (r:=1) rfl rfl .bv;o_head ZM.v i8 (i15.by (S7.trans S8)) af.one bF ⋯ (λv9 H9 S9 i9=>?_);o_head Rm.v (ix7.by (S8.trans S9)) i9 (yj ok sz j) (af.one.sub bF) ⋯ hne .cH;have e:(cf ra rb ns).getD j 0=(cD ra rb ns).getD j 0 / (1-ra^ns.sum.toNat):=Rk ();rw[<- e]at i10;exact eT inv () fz ⟨_,rfl⟩ (S8.trans .cu) i10
 . intro D ys H7 hn S7 hD hl hr
   exact q D H7 ys (gH T5 hn) (T5.trans S7) hD (fG (by rw[hl,hul,hstl]) hr)
inductive Rb(K:wa)(v w u t:V)(H:Hp)(Q:VK)(E:XK):Prop|v{W:.p}{k:Int}(e1:w=.ref U)(e3:t=.int k)(h1:Is K H v (R Z S))(h2:aF K H U (W.map V.int))(h3:Is K H u (LN Y))(hl:W.length=Y.length+1)(k0:0<=k)(ok:d_ Z S W k.toNat)(bx:∀D,af 50000 (Y.getD D 0))(q:∀l G I,H l=none->au H G->G l=some (.lst I)->ah K G I ((aX Z S W k.toNat Y).map N)->Q .az G)
theorem zzV{a:Rat}(ok:.aS)(sz:dh ns)(hF:a^ns.sum.toNat≠1)(i:Nat):af 268 ((cf a b ns).getD i 0):=(zV ok.ba ok.bb sz.bC sz.upTo (by have:=sz.sum;lia) hF).get i
theorem Bk(T:.o):pi P w base T.sE 6 Rb:=by
 exists T.sE,["_law_rule","_law_sizes","_law_places","_law_many","_law_shifts","_law_factor","_law_found","_law_place","_law_rest_here"],"c4",(ak (aY (dX K hu .O .aA) (ak (ay 4 jp (eI (ao (mI T) hr (ae .C (ae .X (ae (az (show bV _ (WE .Mult) oH from Ao) (cZ (ae .aA ag)) (az fL (cT K T.h0t (q1 1)) ar)) ag))))))
     (av (aA (eO rfl (dq ["_law_place","_law_shift","_law_many"] [none,none,some 3]) (AH rfl T.h0p (q2 2 4)) (λ_ _ _ _ _=>by exact(show PG _ _ (m9 K 2 _)from gZ (n:=2) rfl (dg (cU 0) (dg (cU 1) gQ)))) .ah (λ_ _ _ _ _=>by exact(ao (h_ T:) hr (ae .C (ae (show PE _ _ (nH K _)from aU (ae (az de .au (sh (K:=K) ck .X)) (ae (sh (K:=K) ck .X) ag))) ag)))))))) bE)
     (ak (ay 5 jp (ao (yr T) hr (ae (ao (yr T) hr (ae .O (ae (dE (show bN _ (.builtin "sum") (tR K)from FJ rfl) rfl T.h0s Br (q1 1)) ag))) (q1 3))))
     (ak (ay 6 jp (cZ ag))
     (ak (fi vj rfl (AH rfl T.h0p (ae .au (ae (ao (zN T) hr .cl) ag))) (gZ (n:=2) rfl (dg (cC (i:=7) jp rfl .s) (dg (cC (i:=8) jp rfl .s) gQ))) (av (jP (jD vP vV vW jk (pv 6) (ae (ao (h_ T) hr (ae (pv 8) (ae (ao (lX T) hr (ae .cI (ae (ao (nh T) hr (q2 7 8)) ag))) ag))) ag)))))
     (av (aA (pv 6)))))))
 obtain@⟨p1,ra,rb,xs,ns,k,rfl,rfl,hr',hn',hp',hl,k0,ok,bx,q⟩:=h;have h8:=ok.sz.bC;have h1:=ok.sz.some;have hps:=ok.sz.pos;have hk60:=ok.bC;have hkk:=ok.k;obtain⟨k,rfl⟩:∃j:Nat,k=(j:Int):=⟨k.toNat,by lia⟩;rw[wE]at q ok hk60 hkk;obtain⟨lp,ps,rfl,hsp0,tp0⟩:=bY.mp hp';have hpl:=tp0.length;rw[wn]at hpl;have hsl:(cD ra rb ns).length=ns.length-1:=mW h1;have bs:=yj ok.ok ok.sz;k_few;rename_i va ia;refine dj (r:=1) rfl rfl .aJ;refine Aw (ia.by S1) i1 ?_;k_few
 . rename_i ha
   have hF:ra^ns.sum.toNat=1:=by rw[ha,GM.one_pow']
   have rc:=mP ok.ok ok.sz (xs:=dm .aU) (by rw[yW];lia) (rT _) ⋯;refine dj (r:=0) rfl rfl .aK;o_head c9 ∅ (λl3 H3 n3 S3 e3=>?_);o_head eP ((S1.trans .bL).seq hn') ?_;rw[wn];o_head JR e3 () () (λl4 H4 n4 S4 e4=>?_);have T4:=S1.trans (S2.trans .ca);have hk1:(.cW-1).toNat=ns.length-1:=by lia
   rw[hk1]at e4;have i4:Is K H4 (.ref l4) (LN (dm .aU)):=cw e4 (UC (i2.by .ca) _);o_head mH (hr'.by T4) (T4.seq hn') (.inl i4) rc.1 rc.2.1 rc.2.2 .bR;o_head aD (j:=0) i5 rfl .cU;have T5:=T4.trans S5;obtain⟨l6,us,rfl,hs6,t6⟩:=bY.mp i6;have hul:=t6.length;rw[wn]at hul;have hul:us.length=ns.length-1:=by rw[hul];exact hsl
   have hsp:=T5.seq hsp0;have tp:ah K H5 ps .bg:=ah.same T5 _ _ tp0;o_head Ue (t:=false) (u:=false) hsp hs6 () (o0:=none) (o0':=none) (tl:=[some (.int (k:Int))]) rfl (λj y H'=>Is K H' y (N ((aX ra rb ns k xs).getD j 0))) fz ?_ ?_
   . intro D j y z zs o1 o2 H7 c hy hz inv hc
     obtain⟨hj,iy⟩:=cO tp hy;obtain⟨_,iz⟩:=cO (xs:=cD ra rb ns) t6 hz;have S7:=inv.2.2.1;have iy7:=iy.by S7;have iz7:=iz.by S7;have h64:(2:Nat)^6=64:=by decide
     have bk:Bd 6 (k:Int):=⟨by rw[h64];lia⟩;have bj:=bs j;have bkt:Bd 191 ((k:Int)*((cD ra rb ns).getD j 0).num):=(bk.mul bj.t).mono ⋯;refine mF (.of hc) rfl ?_;o_head cW (ds:=[.int ((k:Int)*((cD ra rb ns).getD j 0).num),.int (((cD ra rb ns).getD j 0).den:Int)]) ∅ (.cons .bp (.cons .bp .nil)) .bv;o_head zn0 (iy7.by S8) i8 (den_pos _) ((bx j).mono ⋯) (bkt.mono ⋯) (bj.b.mono ⋯) (λv9 H9 S9 i9=>?_);have e:(aX ra rb ns k xs).getD j 0=xs.getD j 0+wC ((k:Int)*((cD ra rb ns).getD j 0).num) (((cD ra rb ns).getD j 0).den:Int):=by rw[gx hj,hF,zyT]
     rw[<- e]at i9;exact yk inv () fz ⟨_,_,rfl⟩ (S8.trans S9) i9
   . intro D zs H7 hn S7 hD hl7 hr
     exact q D H7 zs (gH T5 hn) (T5.trans S7) hD (fG (by rw[hl7,hpl,cu]) hr)
 . rename_i ha vb ib
   have hF:ra^ns.sum.toNat≠1:=λe=>ha ((lC ok.ok ()).mp e)
   have br:=zzV ok.ok ok.sz hF;have hstl:(cf ra rb ns).length=ns.length-1:=k_ h1;refine Fz (S1.seq hn') ?_;o_head O5.v rfl ib (A0 ok.ok) ⋯ () () () .aK;k_few;have hkn:(6*ns.sum.toNat+1)*k<=32000:=Wt (Wb _ ()) hkk;refine O5.v rfl i2 (jG ok.ok _) () () () (by rw[wE];lia) .as;rw[wE]at i3;have bP:af 32020 (.bV^k):=ok.pow .ax;o_head c9 ∅ (λlf H4 n4 S4 e4=>?_);have T4:=S1.trans (S2.trans .ca);o_head Sk.v rfl (hr'.by T4) (T4.seq hn') ok.ok ok.sz ha (λl5 H5 us n5 S5 e5 t5=>?_);have T5:=T4.trans S5;have ef5:=S5 _ _ e4;have i35:=i3.by .bj;have hfH:H lf=none:=gH (S1.trans .bL) n4;have n5f:l5≠lf:=λz=>by subst z;rw[e4]at n5;cases n5
   have hsp:=T5.seq hsp0;have tp:ah K H5 ps .bg:=ah.same T5 _ _ tp0;have hul:=t5.length;rw[wn]at hul;generalize hpow:.bV^k=Fk at *;refine zzp (t:=false) (u:=false) hsp (aF.of e5) () (λi σ H'=>∃o7 o8 ws,σ = [some x0,some (.ref p1),some .bU,some (.int (k:Int)),none,some v3,some (.ref lf),o7,o8]/\Exc lf H5 H'/\H' lf=some (.lst ws)/\ah K H' ws (((aX ra rb ns k xs).take i).map N)) ⟨_,_,[],rfl,Exc.refl _ _,ef5,.nil⟩ (λi σ H' _ ⟨_,_,_,_,E,_⟩=>⟨(T5.grow hfH E).seq hsp0,aF.of (E _ _ n5f e5)⟩) ?_ ?_
   . rintro i y z σ H6 c H7 hy hz ⟨o7,o8,ws,rfl,E6,e6,t6⟩ hc S7 e7
     obtain⟨hj,iy⟩:=cO tp hy;obtain⟨hj2,iz⟩:=cO t5 hz;have K7:=(E6.keep ef5).trans S7.keep;have iy7:=iy.dQ K7;have iz7:=iz.dQ K7;have i37:=i35.dQ K7;have hwl:=t6.length;rw[wn,Wf,cu]at hwl;have bri:=br i;have bxi:=bx i;have e:(aX ra rb ns k xs).getD i 0=(cf ra rb ns).getD i 0+Fk*(xs.getD i 0-(cf ra rb ns).getD i 0):=by rw[gx hj,UX (C1 hF hj2),hpow]
     have hlj:i<(aX ra rb ns k xs).length:=by rw[cu];exact hj
     have b8:af 55380 (xs.getD i 0-(cf ra rb ns).getD i 0):=(bxi.sub bri).mono ⋯;have bPx:af 87400 (Fk*(xs.getD i 0-(cf ra rb ns).getD i 0)):=(bP.mul b8).mono ⋯;refine mF (.of e7) rfl ?_;o_head jh (aF.of (S7 _ _ e6)) ?_;o_head ZM.v iy7 iz7 bxi bri ⋯ .bv;have i38:=i37.by S8;have iz8:=iz7.by S8;k_few;rename_i v9 H9 S9 i9 v10 H10 S10 i10;rw[<- e]at i10;have T10:=S7.trans (S8.trans .cu);have e10:=T10 _ _ e6;refine jm e10 () (λH11 E11 e11=>?_);have K11:=E11.keep e10;refine⟨_,_,_,rfl,E6.trans (T10.exc.trans E11),e11,?_⟩;rw[iJ hlj,wU];exact(ah.keep (T10.keep.trans K11) _ _ (fh _) t6).append (.cons (i10.dQ K11) .nil)
   . rintro σ H6 hz;obtain⟨o7,o8,ws,rfl,E6,e6,t6⟩:=hz
     rw[hpl,WJ (by rw[cu];lia)]at t6;k_few;exact q lf H6 ws hfH (T5.grow hfH E6) e6 t6
theorem zB2(bs:.cF):(bs.map V.bl).all kR=true:=by
 rw[Wq];intro y hy;obtain⟨b,_,rfl⟩:=wW.mp hy
 rfl
theorem zEU(c:Bool)(bs:.cF):sC (.bl c) (bs.map V.bl)=decide (c∈bs):=by
 unfold sC;rw[vI,Qq,decide_eq_true_eq]
 constructor
 ·rintro ⟨y,hy,e⟩
  obtain⟨b,hb,rfl⟩:=wW.mp hy;have:b=c:=by revert e;cases b<;>cases c<;>decide
  rw[<- this];exact hb
 ·intro h
  exact⟨.bl c,wW.mpr ⟨c,h,rfl⟩,by cases c<;>decide⟩
theorem zru{bs:.cF}{c:Bool}(h:aF K H p (bs.map V.bl))(q:Q (.bl (!decide (c∈bs))) H):iM K true (.bl c) .ay H Q:=⟨p,_,rfl,.inl h,rfl,zB2 bs,by rw[zEU];exact q⟩
theorem zs0(h:∀i,i<xs.length+1->(cR xs).getD (i+1) 0<(cR xs).getD i 0):(m5 xs).all id=true:=by
 rw[Wq];intro b hb;obtain⟨i,hi,rfl⟩:=wW.mp hb;exact decide_eq_true (h i (wN.mp hi))
theorem zwx(hi:i<xs.length+1)(h:¬ (cR xs).getD (i+1) 0<(cR xs).getD i 0):(m5 xs).all id=false:=by
 rw[Q8];intro e;have:=Wq.mp e _ (wW.mpr ⟨i,wN.mpr hi,rfl⟩);exact h (of_decide_eq_true this)
theorem zvO(ts:.a):(!decide (false∈ts.map λx=>decide (x<1)))=(mO ts).all id:=by
 rw[vI,WY,decide_eq_false_iff_not,Wq]
 constructor
 ·intro h b hb
  cases b with
  | true=>rfl
  | false=>exact absurd hb h
 ·intro h hb
  have:=h _ hb;cases this
def ZU(K:wa):Sp:=λvs H Q _=>∃x0 x1 x2,vs=[x0,x1,x2] /\ ∃(a b:Rat)(ns:.p)(xs:.a)(p1:wf),x1=.ref p1/\Is K H x0 (R a b)/\aF K H p1 .aC/\(Is K H x2 (LN xs)\/Is K H x2 (TN xs))/\dF a b ns xs/\(∀k,k<=ns.length->Cm 70000 (aQ a b ns .aV k))/\(∀k,k<ns.length->af 86000 (gE a b ns xs k))/\Rq H Q (.bl (cH a b ns xs))
theorem EI{a:Rat}{v:V}(h1:Is K H v (R a b))(h2:aF K H p1 .aC)(h3:Is K H u (LN xs)\/Is K H u (TN xs))(ok:.aS)(sz:dh ns)(hl:.D)(c:.bM)(hm:m<=65800)(q:Rq H Q (.bl (cH a b ns xs))):ZU K [v,.ref p1,u] H Q E :=
 have rc:=mP ok sz hl c hm
 ⟨_,_,_,rfl,a,b,ns,xs,p1,rfl,h1,h2,h3,rc.1,rc.2.1,rc.2.2,q⟩
theorem Ib(T:.o):dL P w base T.zh 5 (ZU K):=by
 exists T.zh,["_law_rule","_law_sizes","_law_places","_law_row","_law_k"],"b3",(ak (ay 3 jp (az cv (az cv (cZ (ae .aA ag)) (gu .R rfl T.h0m fS .cR)) (cZ (ae .aA ag))))
     (ak (fi vj rfl (gI rfl T.h0j (ae (az fL (cT K T.h0t (q1 3)) ar) ag)) (cC (i:=4) jp rfl .s) (av (aY (c7 (cF (ao (yu T) hr (ae (cB ck .ak (az cv .cL ar) .J) (ae (cB ck .ak .cL .J) ag))))) .bI bE)))
     (av (aA (jF (show bV _ (vR .NotIn) (iM K true)from zb) d8 (eO rfl (dq ["_law_one"] [none]) (fT (eI (ao (mI T) hr (q3 0 1 2)))) .L .ah (λ_ _ _ _ _=>by exact(ao (yu T:) hr (ae .C (ae (show PE _ _ (nH K _)from aU (ae ar .z)) ag))))) .af)))))
 obtain⟨ra,rb,ns,xs,p1,rfl,hr',hn',hp',ok,hrow,htm,q⟩:=h;have hlen:=ok.len;have hfew:=ok.bC;obtain⟨m,hcm,hm⟩:=ok.cm;o_head dj (r:=1) rfl rfl .aJ;o_head c9 ∅ (λl2 H2 n2 S2 e2=>?_);k_few
 have hp2:Is K H2 x2 (.list .bg)\/Is K H2 x2 (.tuple .bg):=by
   rcases hp' with z | z
   . exact .inl (z.by .aZ)
   . exact .inr (z.by .aZ)
 refine pS hp2 (λl3 H3 us n3 S3 e3 t3=>?_);have hul:=t3.length;rw[wn]at hul;o_head gv (S3 _ _ e2) e3 (WM (iS .aw)) (λl4 H4 n4 S4 e4=>?_);o_head dj (r:=0) rfl rfl .bR;o_head c9 ∅ (λl6 H6 n6 S6 e6=>?_);refine gv (S6 _ _ (S5 _ _ e4)) e6 (WM (iS .aw)) (λl7 H7 n7 S7 e7=>?_);have S37:=S4.trans (S5.trans (S6.trans S7));have T7:au H H7:=S1.trans (S2.trans (S3.trans S37))
 have t7:ah K H7 ([v1]++us++[v5]) ((cR xs).map N):=by
   unfold cR;rw[wU,wU];exact(ah.append (.cons (i1.by (S2.trans (S3.trans S37))) .nil) (ah.same S37 _ _ t3)).append (.cons (i5.by (S6.trans S7)) .nil)
 have ir7:=hr'.by T7;have in7:=T7.seq hn'
 have ip7:Is K H7 x2 (LN xs)\/Is K H7 x2 (TN xs):=by
   rcases hp' with z | z
   . exact .inl (z.by T7)
   . exact .inr (z.by T7)
 clear n2 n3 n4 n6 n7 S1 S2 S3 S4 S5 S6 S7 S37 e2 e3 e4 e6 t3 hr' hn' hp' hp2 i1 i5;generalize [v1]++us++[v5]=ws at e7 t7;have hws:=t7.length;rw[wn,jB]at hws;o_head eP (.of e7) ?_;rw[hws];o_head jO (n:=((xs.length+2:Nat):Int)-1) () () (λk σ H'=>∃o4,σ = [some x0,some (.ref p1),some x2,some (.ref l7),o4]/\H'=H7 /\ ∀i,i<k->(cR xs).getD (i+1) 0<(cR xs).getD i 0) ⟨_,rfl,rfl,λi hi=>by lia⟩ ?_ ?_
 . rintro k σ H' hk hz;obtain⟨o4,rfl,rfl,hf⟩:=hz
   have hk:k<xs.length+1:=by lia
   have b1:af 160000 ((cR xs).getD k 0):=(z7 hcm k).mono ();have b2:af 160000 ((cR xs).getD (k+1) 0):=(z7 hcm (k+1)).mono ();o_head jc (cw e7 t7) () (by rw[jB];lia) (λv8 i8=>?_);rw[show((k:Int)+1).toNat=k+1 by lia]at i8;o_head jc (cw e7 t7) () (by rw[jB];lia) (λv9 i9=>?_);rw[wE]at i9;k_few
   . rename_i z
     have e:cH ra rb ns xs=false:=by unfold cH;rw[zwx hk z];rfl
     have:=q H' T7;rw[e]at this;exact this
   . rename_i z
     refine⟨_,rfl,rfl,λi hi=>?_⟩;rcases wJ i k with y | y
     . exact hf i y
     . have:i=k:=by lia
       subst this;exact z
 . rintro σ H' hz;obtain⟨o4,rfl,rfl,hf⟩:=hz
   have hf:∀i,i<xs.length+1->(cR xs).getD (i+1) 0<(cR xs).getD i 0:=λi hi=>hf i ()
   have hfa:=zs0 hf;o_head mH ir7 in7 ip7 ok hrow htm .bv;o_head aD (j:=2) i8 rfl (λv9 i9=>?_);obtain⟨l9,hs9,rfl,s9,t9⟩:=bY.mp (show Is K H8 v9 (.list ((dk ra rb ns xs).map N))from i9);have hl9:hs9.length=ns.length:=by rw[t9.length,wn,fH]
   refine lM s9 (o0:=none) (tl:=[]) rfl (λj y _=>y=V.bl (((dk ra rb ns xs).map λx=>decide (x<1)).getD j true)) ?_ ?_
   . intro D i x ys o H10 hx inv
     obtain⟨hi,ix⟩:=cO t9 hx;rw[fH]at hi;have ix:=ix.by inv.same;have b1:af 160000 ((dk ra rb ns xs).getD i 0):=zS ok hi;o_head dj (r:=1) rfl rfl (λv11 H11 S11 i11=>?_);have ix:=ix.by S11;o_head eT inv () (λ_ _ _ _ _ h=>h) ⟨_,rfl⟩ S11 ?_;rw[wb (l:=List.map _ _),wA,we (by rw[fH];exact hi),wb,we (by rw[fH];exact hi)]
     rfl
   . intro D zs H10 n10 S10 e10 hl10 hr10
     have hz:=rR (bs:=(dk ra rb ns xs).map λx=>decide (x<1)) (by rw[wn,fH];lia) hr10;rw[hz]at e10;o_head zru (.of e10) ?_;rw[zvO];have e:cH ra rb ns xs=(mO (dk ra rb ns xs)).all id:=by unfold cH;rw[hfa];rfl
     have:=q H10 (T7.trans (S8.trans S10));rw[e]at this;exact this
theorem TY{a:Rat}(sz:dh ns)(hl:.D):cQ a b ns xs=xs ↔ ∀i,i<xs.length->a^ns.sum.toNat*xs.getD i 0+(cD a b ns).getD i 0=xs.getD i 0:=by
 rw[<- oz (a:=a) (b:=b) hl sz.nn]
 constructor
 ·intro e i hi
  have h:=gx (a:=a) (b:=b) (ns:=ns) (n:=1) hi;rw[e,Ig]at h;exact h.symm
 ·intro h
  refine rD (cu ..) λi hi=>?_
  rw[cu]at hi;rw[gx hi,Ig,h i hi]
theorem zzI{a:Rat}(ok:.aS)(sz:dh ns)(hl:.D)(h1:1<=a):dZ a b ns xs=decide (cQ a b ns xs=xs):=by
 have hps:=sz.pos;have hsl:(cD a b ns).length=xs.length:=by rw[mW sz.some];lia
 have hst:(cf a b ns).length=xs.length:=by rw[k_ sz.some];lia
 unfold dZ
 by_cases h:1<a
 ·have ha:a≠1:=by intro e;rw[e]at h;exact absurd h ⋯
  have hF:a^ns.sum.toNat≠1:=λe=>ha ((lC ok ()).mp e)
  rw[if_pos h];refine decide_eq_decide.mpr ?_;rw[TY sz hl]
  constructor
  ·rintro rfl i hi
   have:=C1 hF hi
   grind
  ·intro e
   refine rD hst.symm λi hi=>?_
   have h1:=e i hi;have h2:=C1 (b:=b) hF (i:=i) ();have h3:(xs.getD i 0-(cf a b ns).getD i 0)*(1-a^ns.sum.toNat)=0:=by grind
   rcases Qv.mp h3 with z | z
   ·grind
   ·exact absurd .aF hF
 ·have ha:a=1:=by
   rcases Rat.le_iff_lt_or_eq.mp h1 with z | z
   ·exact absurd z h
   ·exact z.symm
  have hF:a^ns.sum.toNat=1:=(lC ok ()).mpr ha;rw[if_neg h,if_pos ha,vI,decide_eq_true_eq,TY sz hl,Wq]
  constructor
  ·intro e i hi
   have:=e _ (wW.mpr ⟨(cD a b ns).getD i 0,getD_mem (),rfl⟩);have:=of_decide_eq_true this;rw[hF,this]
   grind
  ·intro e c hc
   obtain⟨s,hs,rfl⟩:=wW.mp hc;obtain⟨i,hi,rfl⟩:=vA hs;have h2:=e i ();rw[hF,wb (l:=cD a b ns),we hi]at h2;refine decide_eq_true ?_
   show(cD a b ns)[i]=0
   have h3:1*xs.getD i 0+(cD a b ns)[i]=xs.getD i 0:=h2
   grind
theorem AJ(a:Rat):.E<=a.num ↔ 1<=a:=by
 rw[<- W4,uD]
 show _ ↔ ¬ (a.num*((1:Rat).den:Int)<(1:Rat).num*.E)
 rw[show((1:Rat).den:Int)=1 from rfl,show(1:Rat).num=1 from rfl];lia
inductive Pj(K:wa)(v w u:V)(H:Hp)(Q:VK)(E:XK):Prop|v{W:.p}{D:Nat}(e1:w=.ref U)(h1:Is K H v (R Z S))(h2:aF K H U (W.map V.int))(h3:Is K H u (LN Y))(ok:aK Z S)(sz:dh W)(hl:W.length=Y.length+1)(c:Cm D Y)(hm:D<=65800)(q:Rq H Q (.bl (dZ Z S W Y)))
theorem zwW(T:.o):pc P w base T.NL 6 Pj:=by
 exists T.NL,["_law_rule","_law_sizes","_law_places","_law_heights"],"c3",(ak (aY (dB CO (eI .O) (eI .O) .cG) (av (aA (ji K hu (eI (ao (mI T) hr (q3 0 1 2))) (gu .R rfl T.h0m fS .cR)))) bE)
     (ak (ay 3 jp (eI (ao (mI T) hr (ae .C (ae .X (ae (ao (zN T) hr .cl) ag))))))
     (av (aA (jF (show bV _ (vR .NotIn) (iM K true)from zb) d8 (eO rfl (dq ["_law_one"] [none]) (fT .ak) .L .ah (λ_ _ _ _ _=>by exact(ao (yu T:) hr (ae (show PE _ _ (nH K _)from aU (ae ar .z)) .ck)))) .af)))))
 obtain@⟨p1,ra,rb,xs,ns,m,rfl,hr',hn',hx',ok,sz,hl,c,hm,q⟩:=h;have rc:=mP ok sz hl c hm;have h8:=sz.bC;have hps:=sz.pos;k_few
 . rename_i v1 i1 v2 i2 z
   have ha:1<=ra:=(AJ ra).mp z;refine mH hr' hn' (.inl hx') rc.1 rc.2.1 rc.2.2 .as;o_head aD (j:=0) i3 rfl .cT;o_head pS (ds:=xs.map N) (.inl (hx'.by S3)) (λl5 H5 us n5 S5 e5 t5=>?_);o_head Zi (show Is K H5 v4 (LN (cQ ra rb ns xs))from(show Is K H3 v4 (LN (cQ ra rb ns xs))from i4).by S5) (cw e5 t5) ?_;have:=q H5 (S3.trans S5);rw[zzI ok sz hl ha]at this;exact this
 . rename_i v1 i1 v2 i2 z
   have ha:ra<1:=by
     rw[<- Xa];exact λh=>z ((AJ ra).mpr h)
   have ha1:ra≠1:=by intro e;rw[e]at ha;exact absurd ha ⋯
   have hn1:¬ 1<ra:=by grind
   have hF:ra^ns.sum.toNat≠1:=λe=>ha1 ((lC ok ()).mp e)
   have hst:ns.length=(cf ra rb ns).length+1:=by rw[k_ sz.some];lia
   have rs:=mP ok sz hst (zV ok.ba ok.bb h8 sz.upTo () hF) ⋯;refine Sk.v rfl hr' hn' ok sz ha1 (λl3 H3 us n3 S3 e3 t3=>?_);o_head mH (hr'.by S3) (S3.seq hn') (.inl (cw e3 t3)) rs.1 rs.2.1 rs.2.2 (λv4 H4 S4 i4=>?_);o_head aD (j:=2) i4 rfl (λv5 i5=>?_);obtain⟨l5,hs5,rfl,s5,t5⟩:=bY.mp (show Is K H4 v5 (.list ((dk ra rb ns (cf ra rb ns)).map N))from i5);have hl5:hs5.length=ns.length:=by rw[t5.length,wn,fH]
   o_head lM s5 (o0:=none) (tl:=[]) rfl (λj y _=>y=V.bl ((lI (dk ra rb ns (cf ra rb ns))).getD j true)) ?_ ?_
   . intro D i x ys o H6 hx inv
     obtain⟨hi,ix⟩:=cO t5 hx;rw[fH]at hi;have ix:=ix.by inv.same;have b1:af 160000 ((dk ra rb ns (cf ra rb ns)).getD i 0):=zS rs.1 hi;o_head dj (r:=1) rfl rfl (λv7 H7 S7 i7=>?_);have ix:=ix.by S7;k_few;exact eT inv () (λ_ _ _ _ _ h=>h) ⟨_,rfl⟩ S7 (by rw[R8 (by rw[fH];exact hi)])
   . intro D zs H6 n6 S6 e6 hl6 hr6
     have hz:=rR (bs:=lI (dk ra rb ns (cf ra rb ns))) (by unfold lI;rw[wn,fH];lia) hr6;rw[hz]at e6;o_head zru (.of e6) ?_
     have e:dZ ra rb ns xs = !decide (true∈lI (dk ra rb ns (cf ra rb ns))):=by
       unfold dZ jN;rw[if_neg hn1,if_neg ha1]
       congr 1
       rw[vI,Qq,decide_eq_true_eq]
       constructor
       . rintro ⟨b,hb,e⟩
         rw[show b=true from e]at hb;exact hb
       . intro h;exact⟨true,h,rfl⟩
     have:=q H6 (S3.trans (S4.trans S6));rw[e]at this;exact this
inductive zfv(K:wa)(u w:V)(H:Hp)(Q:VK)(E:XK):Prop|v{k m:Int}(e0:u=.ref U)(e1:w=.int m)(h:bA H U k)(hk:k<=1000)(h1:1<=m)(h8:m<=8)(q:∀(l:wf)(Z:Hp)(S:.x)(W:.a),H l=none->Exc U H Z->aW H Z->bA Z U (k+11)->Z l=some (.lst S)->ah K Z S (W.map N)->1<=W.length->(W.length:Int)<=m->(∀Y∈W,f_ Y)->Q .az Z)
theorem zkk(T:.o):ms P w base T.Lc 2 zfv:=by
 exists T.Lc,["_law_pen_here","_law_most","_law_many","_law_bottom","_law_few","_law_apart"],"c2",(ak (ay 2 jp (az cv ar (ao (dN T) hr .cl)))
     (ak (ay 3 jp (az cv ar .aE))
     (ak (ay 4 jp (cB ck (cZ (ae .ak (ae (az cv ar (az .aj .ak ar)) ag))) .aE .J))
     (ak (ay 5 jp (az .aj .ak .cL))
     (av (aA (eO rfl (dq ["_law_k","_law_bottom","_law_apart","_law_pen_here","_law_few"] [none,some 3,some 5,some 0,some 4]) (gI rfl T.h0j .cR) .L .ah (λ_ _ _ _ _=>(ao (iP T:) hr (ae (az de (ao (dN T:) hr (q2 3 4)) .au) (q1 1)))))))))))
 obtain@⟨p,k,m,rfl,rfl,hp,hk,h1,h8,q⟩:=h;wtm_at "ga";rename_i ra Ha ra0 ra1 Ea Ka Pa rb Hb rb0 rb1 Eb Kb Pb lc Hc nc Sc ec rd Hd rd0 rd1 Ed Kd Pd z hz;have E1:Exc p H Hd:=Ea.trans (Eb.trans (Sc.exc.trans Ed));have K1:aW H Hd:=Ka.trans (Kb.trans (Sc.keep.trans Kd));clear Ea Ka Pa Eb Kb Pb Sc ec nc Ed Kd hp;generalize hB:2+rb=B at *;have B2:2<=B/\B<=60:=by lia
 have hz1:1<=z/\z<=B:=by
   rcases hz with rfl | rfl
   . lia
   . rw[WF _ ⋯];lia
 refine t_ ⟨by lia,(Bd.mR () ()).mono ⋯⟩ ?_
 have ha:1<=B.fdiv z/\B.fdiv z*z<=B/\B.fdiv z<=B:=by
   rw[WF _ ()];refine⟨?_,uN _ (),ue _ ()⟩;exact(Int.le_ediv_iff_mul_le ()).mpr ()
 generalize B.fdiv z=a at *;obtain⟨a1,a2,a3⟩:=ha;k_few;obtain⟨n,hn⟩:∃n:Nat,1+ra=(n:Int):=⟨(1+ra).toNat,by lia⟩;rw[hn];refine Aj (n:=(n:Int)) () () (λD i ys σ' H'=>(∃o,σ'=[o,some (.int B),some (.int a),some .ay,some (.int z)])/\Hd D=none/\D≠p/\Exc p Hd H'/\aW Hd H'/\bA H' p (k+1+1+1+(i:Int)) /\ ∃(us:.x)(xs:.a),H' D=some (.lst us)/\xs.length=i/\ah K H' us .bg /\ ∀x∈xs,f_ x) ?_ ?_ ?_
 . intro D H' n s e
   exact⟨⟨_,rfl⟩,n,bA.ne n Pd,s.exc,s.keep,(Pd.same s).le (),[],[],e,rfl,.nil,by simp⟩
 . rintro D i ys σ' H' hi hz;obtain⟨⟨o,rfl⟩,hn',hne,hE,hK,hP,us,xs,hD,hl,ht,hm⟩:=hz
   k_few;rename_i r H6 r0 r1 E6 K6 P6;have t0:0<=r*a:=xT r0 ()
   have t1:r*a<B:=by
     have h1:(r+1)*a<=z*a:=W0 () ();rw[X7,QR]at h1;have h2:z*a=a*z:=Int.mul_comm _ _;lia
   generalize r*a=t at *;k_few;rename_i v7 H7 x7 S7 i7 e7 b7;have hul:=ht.length;simp only[wn]at hul;have hD7:=S7 _ _ (E6.at hne hD);have px:f_ x7:=by rw[e7];exact Hn () () ()
   refine kF hD7 () (λH8 E8 e8=>?_);have K8:aW H7 H8:=E8.keep hD7;refine⟨⟨_,rfl⟩,hn',hne,λb o hb h=>E8 b o (mw h hn') (S7 b o ((hE.trans E6) b o hb h)),(hK.trans K6).trans (S7.keep.trans K8),?_,us++[v7],xs++[x7],e8,by simp[hl],?_,?_⟩
   . obtain⟨x,y,z,e,h1,h2⟩:=P6
     exact⟨x,y,z,E8 p _ (WN hne) (S7 _ _ e),h1,by lia⟩
   . rw[wU]
     exact(ah.keep (K6.trans (S7.keep.trans K8)) _ _ (fh _) ht).append (.cons (i7.dQ K8) .nil)
   . intro y hy
     rcases vG.mp hy with h | h
     . exact hm y h
     . rw[wZ.mp h];exact px
 . rintro D ys σ' H' hz;obtain⟨_,hn',hne,hE,hK,hP,us,xs,hD,hl,ht,hm⟩:=hz
   rw[wE]at hl hP;k_few
   have hfr:H D=none:=by
     cases e:H D with
     | none=>rfl
     | some o=>rw[E1 D o hne e]at hn';cases hn'
   exact q D H' us xs hfr (E1.trans hE) (K1.trans hK) (hP.le ()) hD ht () () hm
inductive zon(K:wa)(v:V)(H:Hp)(Q:VK)(E:XK):Prop|v(h:Is K H v (LN U)\/Is K H v (TN U))(h1:1<=U.length)(b:∀Z,af 80000 (U.getD Z 0))(q:∀v,Is K H v (N (bQ U))->Q v H)
theorem Et(T:.o):kw P w base T.zf 2 zon:=by
 exists T.zf,["_law_some","_law_found","_law_one"],"c1",(ak (ay 1 jp .O)
     (ak (fi vj rfl (Ho .C) (cC (i:=2) jp rfl .s) (av (aY (cF (ao (yu T) hr (q2 1 2))) (av (ay 1 jp .au)) bE)))
     (av (aA .X))))
 obtain@⟨xs,hx,h1,bx,q⟩:=h;rcases hx with hx | hx
 . obtain⟨ap,us,rfl,hs,tu⟩:=bY.mp hx
   have hul:us.length=xs.length:=by rw[tu.length,wn]
   o_head jc hx ⋯ () (λv0 i0=>?_);have i0:Is K H v0 (N (mx (xs.getD 0 0) [])):=i0;o_head .inl (ow hs (λi σ H'=>∃o v,σ = [some (.ref ap),some v,o]/\H'=H/\Is K H v (N (mx (xs.getD 0 0) (xs.take i)))) ⟨_,v0,rfl,rfl,by rw[qY];exact i0⟩ (λi σ H' _ h=>by obtain⟨_,_,_,rfl,_⟩:=h;exact hs) ?_ ?_)
   . rintro i x σ H' hx' hz;obtain⟨o,v,rfl,rfl,iv⟩:=hz
     obtain⟨hi,ix⟩:=cO tu hx';have b1:=B1 bx h1 i;have b2:=bx i;k_few
     . rename_i z
       exact⟨_,x,rfl,rfl,by rw[iJ hi,nN,if_pos z];exact ix⟩
     . rename_i z
       exact⟨_,v,rfl,rfl,by rw[iJ hi,nN,if_neg z];exact iv⟩
   . rintro σ H' hz;obtain⟨o,v,rfl,rfl,iv⟩:=hz
     rw[hul,Wm]at iv;k_few;exact q v iv
 . obtain⟨ap,us,rfl,hs,tu⟩:=cA.mp hx
   have hul:us.length=xs.length:=by rw[tu.length,wn]
   o_head x_ hx ⋯ () (λv0 i0=>?_);have i0:Is K H v0 (N (mx (xs.getD 0 0) [])):=i0;o_head .inr (Ys hs (λi σ H'=>∃o v,σ = [some (.ref ap),some v,o]/\H'=H/\Is K H v (N (mx (xs.getD 0 0) (xs.take i)))) ⟨_,v0,rfl,rfl,by rw[qY];exact i0⟩ (λi σ H' _ h=>by obtain⟨_,_,_,rfl,_⟩:=h;exact hs) ?_ ?_)
   . rintro i x σ H' hx' hz;obtain⟨o,v,rfl,rfl,iv⟩:=hz
     obtain⟨hi,ix⟩:=cO tu hx';have b1:=B1 bx h1 i;have b2:=bx i;k_few
     . rename_i z
       exact⟨_,x,rfl,rfl,by rw[iJ hi,nN,if_pos z];exact ix⟩
     . rename_i z
       exact⟨_,v,rfl,rfl,by rw[iJ hi,nN,if_neg z];exact iv⟩
   . rintro σ H' hz;obtain⟨o,v,rfl,rfl,iv⟩:=hz
     rw[hul,Wm]at iv;k_few;exact q v iv
def mL(xs row:.a)(i:Nat):List Rat:=(wr xs.length).map λw=>if aM xs w<i then row.getD (aM xs w) 0 else xs.getD w 0
inductive Rl(K:wa)(v w:V)(H:Hp)(Q:VK)(E:XK):Prop|v(h1:Is K H v (TN U))(h2:Is K H w (LN Z))(h8:U.length<=8)(hl:(aj U).length=Z.length+1)(b:∀S,af 80000 (U.getD S 0))(q:Rs K H Q (TN ((wr U.length).map λw=>(Z++[0]).getD (aM U w) 0)))
theorem zwC(xs row:.a):mL xs row 0=xs:=by
 unfold mL;refine jd ∅ λw hw=>?_
 have hw:w<xs.length:=by simpa using hw
 rw[wb,wA,vZ hw]
 rfl
def iT(xs row:.a)(i k:Nat):List Rat:=(wr xs.length).map λw=>if aM xs w<i then row.getD (aM xs w) 0 else if aM xs w=i/\w<k then row.getD i 0 else xs.getD w 0
theorem zwV(xs row:.a)(i:Nat):iT xs row i 0=mL xs row i:=by
 unfold iT mL;refine Vp λw _=>?_
 by_cases z:aM xs w<i
 ·rw[if_pos z,if_pos z]
 ·rw[if_neg z,if_neg z,if_neg ()]
theorem zzS(xs row:.a)(i:Nat):iT xs row i xs.length=mL xs row (i+1):=by
 unfold iT mL;refine Vp λw hw=>?_
 have hw:=wN.mp hw
 by_cases z:aM xs w<i
 ·rw[if_pos z,if_pos ()]
 ·rw[if_neg z]
  by_cases y:aM xs w=i
  ·rw[if_pos ⟨y,hw⟩,if_pos (),y]
  ·rw[if_neg (),if_neg ()]
theorem yG(xs row:.a)(i k:Nat):(iT xs row i k).length=xs.length:=by simp[iT]
theorem Za{row:.a}{w:Nat}(hw:w<xs.length):(iT xs row i k).getD w 0=if aM xs w<i then row.getD (aM xs w) 0 else if aM xs w=i/\w<k then row.getD i 0 else xs.getD w 0:=by
 unfold iT;rw[wb,wA,vZ hw]
 rfl
theorem zyG{row:.a}(hk:k<xs.length)(h:aM xs k=i):iT xs row i (k+1)=(iT xs row i k).set k (row.getD i 0):=by
 refine jd (by rw[Wv,yG,yG]) λw hw=>?_
 rw[yG]at hw;rw[Za hw]
 by_cases e:w=k
 ·subst e
  rw[y7 (by rw[yG];exact hw),if_neg (),if_pos ⟨h,by lia⟩]
 ·rw[yi (WN e),Za hw]
  by_cases z:aM xs w<i
  ·rw[if_pos z,if_pos z]
  ·rw[if_neg z,if_neg z]
   by_cases y:aM xs w=i/\w<k
   ·rw[if_pos y,if_pos ⟨y.1,by lia⟩]
   ·rw[if_neg y,if_neg ()]
theorem zAQ{row:.a}(h:aM xs k≠i):iT xs row i (k+1)=iT xs row i k:=by
 unfold iT;refine Vp λw _=>?_
 by_cases z:aM xs w<i
 ·rw[if_pos z,if_pos z]
 ·rw[if_neg z,if_neg z]
  by_cases y:aM xs w=i/\w<k
  ·rw[if_pos y,if_pos ⟨y.1,by lia⟩]
  ·rw[if_neg y,if_neg (λu=>y ⟨u.1,by
    have:=u.2;have:w≠k:=λe=>h (by rw[<- e];exact u.1)
    lia⟩)]
theorem zzO{row:.a}(h:(aj xs).length=n):mL xs row n=(wr xs.length).map λw=>row.getD (aM xs w) 0:=by
 unfold mL;refine Vp λw hw=>?_
 have:=(mz xs).lt w (wN.mp hw);rw[if_pos ()]
theorem zwH{f:Nat}{left vs:List Rat}(h:ig f left=vs.drop i)(hi:i<vs.length)(hl:left.length<=f):left≠[]/\bQ left=vs.getD i 0 /\ ∃f',(left.filter λy=>!decide (y=bQ left)).length<=f'/\ig f' (left.filter λy=>!decide (y=bQ left))=vs.drop (i+1):=by
 have hd:vs.drop i=vs[i]::vs.drop (i+1):=WK hi;have ne:left≠[]:=λe=>by rw[e,zc,hd]at h;cases h
 have hp:=WL.mpr ne;obtain⟨f',rfl⟩:∃f',f=f'+1:=⟨f-1,by lia⟩;rw[mZ ne,hd]at h
 injection h with h1 h2
 refine⟨ne,by rw[h1,wb,we hi];rfl,f',?_,h2⟩;have:=CL ne;lia
theorem zvD(h:ah K H us .bg)(k:Is K H u (N x)):ah K H (us++[u]) ((xs++[x]).map N):=by
 rw[wU];exact h.append (.cons k .nil)
theorem zv2(h:ah K H us .bg)(i:Is K H u (N x)):ah K H (us.set k u) ((xs.set k x).map N):=by
 have hl:=h.length;rw[wn]at hl;refine fG (by rw[Wv,Wv];exact hl) λj v hv=>?_
 rw[W5]at hv
 by_cases e:k=j
 ·subst e
  rw[if_pos rfl]at hv
  by_cases z:k<us.length
  ·rw[if_pos z]at hv
   cases hv;rw[y7 ()];exact i
  ·rw[if_neg z]at hv;cases hv
 ·rw[if_neg e]at hv
  rw[yi e];exact(cO h hv).2
theorem YD(T:.o):ms P w base T.Dp 3 Rl:=by
 exists T.Dp,["_law_phases","_law_places","_law_found","_law_left","_law_place","_law_high_here","_law_k"],"c2",(ak (ay 2 jp (gu .R rfl T.h0m fS .ck))
     (ak (ay 3 jp (gu .R rfl T.h0m fS .ck))
     (ak (fi vj rfl (fT (az cv (gu .R rfl T.h0m fS (q1 1)) (cZ (ae .aA ag)))) (cC (i:=4) jp rfl .s) (ak (ay 5 jp (ao (Et T) hr (q1 3)))
     (ak (fi vj rfl (gI rfl T.h0j (ae (cT K T.h0t .ck) ag)) (cC (i:=6) jp rfl .s) (av (aY (dX K hu (cB ck .C (pv 6) .J) .cI) (av (fQ .cL (j3 .au (pv 6) jL))) bE)))
     (av (kO (i:=3) jp rfl .s rfl (dq ["_law_one","_law_high_here"] [none,some 5]) (fT .ak) .L (λ_ _ _ _ _=>(nq (iD K hu .C .X))) (λ_ _ _ _ _=>.C))))))
     (av (aA (fM K T.h0i .cR))))))
 obtain@⟨xs,ps,hx',hp',h8,hvl,bx,q⟩:=h;o_head pS (.inr hx') (λlf H1 us1 n1 S1 e1 t1=>?_);o_head pS (.inr (hx'.by S1)) (λl2 H2 us2 n2 S2 e2 t2=>?_);o_head pS (.inl (hp'.by .aZ)) (λl3 H3 us3 n3 S3 e3 t3=>?_);o_head dj (r:=0) rfl rfl (λv4 H4 S4 i4=>?_);o_head c9 ∅ (λl5 H5 n5 S5 e5=>?_);have hul3:=t3.length;rw[wn]at hul3;have hvx:=jn xs;refine gv (S5 _ _ (S4 _ _ e3)) e5 (WM (iS .aw)) (λl6 H6 n6 S6 e6=>?_);have S36:=S4.trans (S5.trans S6);have t6:ah K H6 (us3++[v4]) ((ps++[0]).map N):=zvD (ah.same S36 _ _ t3) (i4.by (S5.trans S6));have S26:=S3.trans S36;have S16:=S2.trans S26;have ne2:l2≠lf:=λz=>by subst z;rw[e1]at n2;cases n2
 have ne6:l6≠lf:=λz=>by subst z;rw[(S2.trans (S3.trans .bj)) _ _ e1]at n6;cases n6
 have T6:=S1.trans S16;have ef6:=S16 _ _ e1;have tf6:ah K H6 us1 .bg:=ah.same S16 _ _ t1;have el6:=S26 _ _ e2;have tl6:ah K H6 us2 .bg:=ah.same S26 _ _ t2;clear S1 S2 S3 S4 S5 S6 S36 S26 S16 e1 t1 e2 t2 e3 t3 i4 e5 n2 n3 n5 n6;have hrl:(ps++[0]).length=(aj xs).length:=by simp[hvl]
 generalize hrow:ps++[0]=row at *;o_head ow (.of e6) (λi σ H'=>∃(ll:wf)(us ws:.x)(left:List Rat)(f:Nat)(o4 o5 o6:.bD),σ = [some x0,some x1,some (.ref lf),some (.ref ll),o4,o5,o6]/\Exc lf H6 H'/\aW H6 H'/\ll≠lf/\H' lf=some (.lst ws)/\ah K H' ws ((mL xs row i).map N)/\H' ll=some (.lst us)/\ah K H' us (left.map N)/\(∀y∈left,y∈xs)/\left.length<=xs.length/\left.length<=f/\ig f left=(aj xs).drop i) ⟨l2,us2,us1,xs,xs.length,_,_,_,rfl,Exc.refl _ _,aW.refl _,ne2,ef6,by rw[zwC];exact tf6,el6,tl6,λy h=>h,wu _,wu _,rfl⟩ (λi σ H' _ h=>by obtain⟨_,_,_,_,_,_,_,_,_,E,_⟩:=h;exact .of (E _ _ ne6 e6)) ?_ ?_
 . rintro i x σ H7 hx hz;obtain⟨ll,us,ws,left,f,o4,o5,o6,rfl,E7,K7,nl,ef,tf,el,tl',sub,hlx,hf,heq⟩:=hz
   obtain⟨hi,ix⟩:=cO t6 hx;have ix7:Is K H7 x (N (row.getD i 0)):=ix.dQ K7;obtain⟨he,hmx,f',hf',heq'⟩:=zwH heq () hf;have hpos:=WL.mpr he
   have bl:∀i,af 80000 (left.getD i 0):=λi=>by
     rcases wJ i left.length with z | z
     . exact IG bx (sub _ (getD_mem z))
     . rw[wb,wQ z];exact af.zero.mono ⋯
   have hul:us.length=left.length:=by rw[tl'.length,wn]
   o_head zon.v (.inl (cw el tl')) hpos bl (λvm im=>?_)
   . skip
     rw[<- zwV]at tf;o_head sU ((hx'.by T6).dw K7 (d6 _)) ?_;refine jO (n:=.cE) () () (λk σ H8=>∃(ws:.x)(o7:.bD),σ = [some x0,some x1,some (.ref lf),some (.ref ll),some x,some vm,o7]/\Exc lf H7 H8/\aW H7 H8/\H8 lf=some (.lst ws)/\ah K H8 ws ((iT xs row i k).map N)) ⟨ws,_,rfl,Exc.refl _ _,aW.refl _,ef,tf⟩ ?_ ?_
     . rintro k σ H8 hk hz;obtain⟨ws,o7,rfl,E8,K8,ef8,tf8⟩:=hz
       have hk':k<xs.length:=by simpa using hk
       have hwl:=tf8.length;rw[wn,yG]at hwl;have KX:=K7.trans K8;o_head x_ ((hx'.by T6).dw KX (d6 _)) () () (λv9 i9=>?_);rw[wE]at i9;have im8:=im.dQ K8;have hfl:=Ct (xs:=xs) (w:=k) (c:=i) hk' ();k_few
       . rename_i z
         refine jC (j:=k) ef8 (by unfold fZ;rw[if_pos (),if_pos ()];simp) (λH9 E9 e9=>?_);have K9:=E9.keep ef8;o_head ⟨_,_,rfl,E8.trans E9,K8.trans K9,e9,?_⟩;rw[zyG hk' (hfl.mpr (by rw[z,hmx]))];exact zv2 (ah.keep K9 _ _ (fh _) tf8) (ix7.dQ (K8.trans K9))
       . rename_i z
         refine⟨_,_,rfl,E8,K8,ef8,?_⟩;rw[zAQ (λy=>z (by rw[hmx];exact hfl.mp y))];exact tf8
     . rintro σ H8 hz;obtain⟨ws8,o8,rfl,E8,K8,ef8,tf8⟩:=hz
       rw[wE,zzS]at tf8;have el8:=E8 _ _ nl el;have tl8:ah K H8 us (left.map N):=ah.keep K8 _ _ (fh _) tl';have im8:=im.dQ K8;have E68:=E7.trans E8;have K68:=K7.trans K8;clear tf ef E7 K7 E8 K8 el tl' im ix7;generalize bQ left=mxx at *;o_head sk (.of el8) (λD i ys σ' H'=>(∃o,σ'=[o,some vm])/\H8 D=none/\au H8 H'/\H' D=some .cj/\ah K H' ys (((left.take i).filter λy=>!decide (y=mxx)).map N)) (λD H' n s e=>⟨⟨_,rfl⟩,n,s,e,.nil⟩) (λD i ys σ' H' h=>h.2.2.1.seq (.of el8)) ?_ ?_
       . rintro D j y ys σ' H9 hy hz;obtain⟨⟨o,rfl⟩,n9,S9,e9,t9⟩:=hz
         obtain⟨hj,iy⟩:=cO tl8 hy;have iy9:=iy.by S9;have im9:=im8.by S9;have hyl:=t9.length;rw[wn]at hyl;have hfl:=Wl (λy=>!decide (y=mxx)) (left.take j);rw[Wf]at hfl;k_few
         . rename_i z
           refine kF e9 () (λH10 E10 e10=>⟨⟨_,rfl⟩,n9,S9.grow n9 E10,e10,?_⟩);have K10:=E10.keep e9;rw[iJ hj,Wy,WB,decide_eq_false z,wU];exact(ah.keep K10 _ _ (fh _) t9).append (.cons (iy9.dQ K10) .nil)
         . rename_i z
           refine⟨ys,⟨_,rfl⟩,n9,S9,e9,?_⟩;rw[iJ hj,Wy,WB,decide_eq_true (by first | exact z | exact Ws.mp z)];have:([]:List Rat).filter (λy=>!decide (y=mxx))=[]:=rfl
           simpa using t9
       . rintro D ys σ' H9 hz;obtain⟨_,n9,S9,e9,t9⟩:=hz
         rw[hul,Wm]at t9;o_head ⟨D,ys,ws8,_,f',_,_,_,rfl,E68.trans S9.exc,K68.trans S9.keep,(λz=>by subst z;rw[ef8]at n9;cases n9),S9 _ _ ef8,ah.same S9 _ _ tf8,e9,t9,λy hy=>sub y (ve.mp hy).1,?_,hf',heq'⟩;have:=Wl (λy=>!decide (y=mxx)) left;lia
 . rintro σ H7 hz;obtain⟨ll,us,ws,left,f,o4,o5,o6,rfl,E7,K7,nl,ef,tf,el,tl',sub,hlx,hf,heq⟩:=hz
   rw[show(us3++[v4]).length=row.length by rw[t6.length,wn],zzO hrl.symm]at tf;o_head iI (cw ef tf) (λv H8 S8 i8=>?_);refine q v H8 ((T6.grow n1 E7).trans S8) i8
def LGL(a b:Rat)(xs:.a):wF:=.tuple [N (1-bQ xs),.list ((cE a b xs).map TW),TN (dH a b xs)]
inductive Yo(K:wa)(v w:V)(H:Hp)(Q:VK)(E:XK):Prop|v{W:Nat}(h:.bo)(k:Is K H w (TN S))(ba:af 10 U)(bb:af 10 Z)(h1:1<=S.length)(h8:S.length<=8)(c:Cm W S)(hm:W+2+21*S.length<=79000)(q:Rs K H Q (LGL U Z S))
theorem zwk : aC .cd .G=(wr xs.length).filter λw=>decide (xs.getD w 0=bQ xs):=by
 unfold aC;refine vJ λw hw=>?_
 have hw:=wN.mp hw;rw[DX hw];have hle:=G4 (xs:=xs) (xs.getD w 0) (getD_mem hw);generalize xs.getD w 0=x at *;generalize bQ xs=m at *
 by_cases h:x=m
 ·rw[decide_eq_true h,decide_eq_false .aF];rfl
 ·rw[decide_eq_false h,decide_eq_true .aF];rfl
structure zG3(K:wa)(a b:Rat)(xs:.a)(m:Nat)(H H':Hp)(vw:V)(lp lW lv lg:wf)(left:List Nat)(ps:.a)(done:.be)(f:Nat)(pv wv:.x)(gone:.bi):Prop where
 same:au H H'
 hp:H lp=none
 hv:H lv=none
 iw:Is K H' vw (N (1-bQ xs))
 kP:lp≠lv
 nWp:lW≠lp
 nWv:lW≠lv
 ngp:lg≠lp
 ngv:lg≠lv
 ep:H' lp=some (.lst pv)
 tp:ah K H' pv (ps.map N)
 eW:H' lW=some (.lst (vz .aL))
 ev:H' lv=some (.lst wv)
 tv:ah K H' wv (done.map TW)
 eg:H' lg=some (.lst (vz gone))
 gn:∀w,w<xs.length->(w∈gone ↔ w ∉ left)
 gl:gone.length+left.length<=xs.length
 rg:Rg xs.length left
 len:ps.length=xs.length
 fl:left.length<=f
 dl:done.length+left.length<=xs.length
 cm:Cm (m+2+21*(xs.length-left.length)) ps
 w1:done++(dA a b f ps left).1=cE a b xs
 w2:(dA a b f ps left).2=(ff a b xs).2
def YW(K:wa)(a b:Rat)(xs:.a)(m:Nat)(H:Hp)(x0 x1 vm vw:V)(lp lv:wf)(k:Nat)(σ':L2.St)(H':Hp):Prop:=∃(lW lg:wf)(left:List Nat)(ps:.a)(done:.be)(f:Nat)(pv wv:.x)(gone:.bi)(o8 o9:.bD),σ'=[some x0,some x1,some vm,some vw,some .bU,some (.ref lW),some (.ref lv),some (.ref lg),o8,o9]/\k=left.length/\zG3 K a b xs m H H' vw lp lW lv lg left ps done f pv wv gone
theorem mG{o:HO}(h:H p=none)(k:H q=some o):p≠q:=λe=>by rw[e,k]at h;cases h
theorem zCv(h:i∈left):(wr (i+1)).filter (λw=>decide (w∈left))=(wr i).filter (λw=>decide (w∈left))++[i]:=by
 rw[mf (n:=i),if_pos (decide_eq_true h)]
theorem zDd(h:i ∉ left):(wr (i+1)).filter (λw=>decide (w∈left))=(wr i).filter (λw=>decide (w∈left)):=by
 rw[mf (n:=i),if_neg (by simpa using h),Wh]
theorem zu8(T:.o):ms P w base T.MZ 4 Yo:=by
 exists T.MZ,["_law_rule","_law_phases","_law_high_here","_law_wait","_law_now","_law_wave","_law_waves","_law_gone","_law_often","_law_k"],"c2",(ak (ay 2 jp (ao (Et T) hr (q1 1)))
     (ak (ay 3 jp (ao (nh T) hr (ae .aA .cR)))
     (ak (ay 4 jp (eO rfl (dq ["_law_one","_law_wait"] [none,some 3]) (kZ .X) .L .ah (λ_ _ _ _ _=>(ao (h_ T:) hr .cl))))
     (ak (kO (i:=5) jp rfl .s rfl (dq ["_law_k","_law_high_here","_law_phases"] [none,some 2,some 1]) (gI rfl T.h0j (ae (cT K T.h0t (q1 4)) ag)) .L (λ_ _ _ _ _=>(nq (dX K hu (cB (show gP _ (dM K)from ck) .au .C .J) .X))) (λ_ _ _ _ _=>.C))
     (ak (ay 6 jp (cZ ag))
     (ak (ay 7 jp (cZ ag))
     (ak (nI vj (iD K hu .cI (cZ ag)) (ak (jP (jD vP vV vW jk (pv 6) (ae (fM K T.h0i (q1 5)) ag)))
     (ak (ay 7 jp (az cv (pv 7) .cI))
     (ak (ay 8 jp (ao (zkz T) hr (ae .C (ae (cT K T.h0t (q1 5)) ag))))
     (ak (fi vj rfl (gI rfl T.h0j (ae (cT K T.h0t (q1 1)) ag)) (cC (i:=9) jp rfl .s) (av (aY (dB (show bV _ (vR .NotIn) (iM K true)from zb) (pv 9) (pv 7) .af) (av (fQ (ao (h_ T) hr (ae (ao (lX T) hr (ae (qi 8) (ae (cB ck .cL (pv 9) .J) ag))) (ae (qi 8) ag))) (j3 .cL (pv 9) jL))) bE)))
     (av (kO (i:=5) jp rfl .s rfl (dq ["_law_k","_law_gone","_law_now"] [none,some 7,some 4]) (gI rfl T.h0j (ae (cT K T.h0t (q1 4)) ag)) .L (λ_ _ _ _ _=>(nq (PW.pt (mB (dB (show bV _ (vR .NotIn) (iM K true)from zb) .C .X .af) (lY (c7 (cF (ao (yu T:) hr (ae (cB (show gP _ (dM K)from ck) .au .C .J) (ae (show PE _ _ (nH K _)from aU (ae ar .z)) ag)))))))))) (λ_ _ _ _ _=>.C))))))))
     (av (aA (aU (ae .ak (ae (pv 6) (ae (fM K T.h0i (ae (eO rfl (dq ["_law_k","_law_gone","_law_now"] [none,some 7,some 4]) (gI rfl T.h0j (ae (cT K T.h0t (q1 4)) ag)) .L .ah (λ_ _ _ _ _=>by exact(sX (dB (show bV _ (vR .In) (iM K false)from Sb) .C .X .af) (show PE _ _ (nH K _)from aU (ae ar .z)) (cB (show gP _ (dM K)from ck) .au .C .J)))) ag)) ag)))))))))))))
 obtain@⟨ra,rb,xs,m,hr',hx',ba,bb,h1,h8,cm,hm,q⟩:=h;have bx:∀i,af 80000 .an:=λi=>(cm.get i).mono ()
 have bm:af 79000 (bQ xs):=(cm.eH (gY h1)).mono ();o_head zon.v (.inr hx') h1 bx (λvm im=>?_);o_head dj (r:=1) rfl rfl .aJ;o_head ZM.v i1 (im.by S1) af.one bm ⋯ (λvw H2 S2 iw=>?_);have T2:=S1.trans S2;have im2:=im.by T2;obtain⟨ap,us,rfl,hu0,tu0⟩:=cA.mp hx';have hu:=T2.kY hu0;have tu:ah K H2 us .bg:=ah.same T2 _ _ tu0;o_head ke (o0:=none) (tl:=[some vw]) hu rfl (λj y H'=>Is K H' y (N ((cb xs).getD j 0))) ?_ ?_
 . intro D i x ys o H3 hx inv
   obtain⟨hi,ix⟩:=cO tu hx;have S3:=inv.same;have ix2:=ix.by S3;have iw2:=iw.by S3;have bi:=bx i;have bw:af 79040 (1-bQ xs):=(af.one.sub bm).mono ⋯;k_few;rename_i v4 H4 S4 i4;exact eT inv () fz ⟨_,rfl⟩ S4 (by rw[DX hi];exact i4)
 . intro lp ys H3 hnp S3 hD hl hr
   have hl':ys.length=(cb xs).length:=by rw[hl,tu.length,wn,fX]
   have tp:ah K H3 ys ((cb xs).map N):=fG hl' hr;have iw3:=iw.by S3;have im3:=im2.by S3;have T3:=T2.trans S3;have hpH:H lp=none:=gH T2 hnp;have hx3:=hx'.by T3;clear hl hr hu tu iw S1 S2 S3 hnp i1 im2 im T2;have j_:Cm (m+2) .cd:=(Cm.rise (h:=0) (cm.hJ (ys:=0::xs) λy hy=>by rcases wO.mp hy with rfl | hy;(exact .inr rfl);exact .inl hy) (gY h1)).hJ λy hy=>.inl (wH _ hy)
   o_head BX (cw hD tp) ?_;rw[fX];o_head Aj (n:=.cE) () () (λD i ys σ' H'=>(∃o,σ'=[o,some vm,some (.ref ap)])/\H3 D=none/\au H3 H'/\H' D=some (.lst (vz ((wr i).filter λw=>decide (xs.getD w 0=bQ xs))))) (λD H' n s e=>⟨⟨_,rfl⟩,n,s,e⟩) ?_ ?_
   . rintro D i zs σ' H4 hi hz;obtain⟨⟨o,rfl⟩,n4,S4,e4⟩:=hz
     have hi':i<xs.length:=by simpa using hi
     have hfl:((wr i).filter λw=>decide (xs.getD w 0=bQ xs)).length<=i:=by
       have:=Wl (λw=>decide (xs.getD w 0=bQ xs)) (wr i);rw[vv]at this;exact this
     have hx4:=hx3.by S4;have im4:=im3.by S4;o_head x_ hx4 () () (λv5 i5=>?_);rw[wE]at i5;generalize hmx:bQ xs=mxx at *;k_few
     . rename_i z
       refine kF e4 (by rw[iW];lia) (λH8 E8 e8=>⟨⟨_,rfl⟩,n4,S4.grow n4 E8,?_⟩);rw[mf (n:=i),if_pos (decide_eq_true z),u_];exact e8
     . rename_i z
       refine⟨[],⟨_,rfl⟩,n4,S4,?_⟩;rw[mf (n:=i),if_neg (by simpa using z),Wh];exact e4
   . rintro lW zs σ' H4 hz;obtain⟨_,n4,S4,e4⟩:=hz
     rw[wE,<- zwk]at e4;o_head c9 ∅ (λlv H5 n5 S5 e5=>?_);o_head c9 ∅ (λlg H6 n6 S6 e6=>?_);have S46:=S4.trans (S5.trans S6)
     have G0:YW K ra rb xs m H x0 (.ref ap) vm vw lp lv xs.length [some x0,some (.ref ap),some vm,some vw,some .bU,some (.ref lW),some (.ref lv),some (.ref lg),none,none] H6:=by
       refine⟨lW,lg,wr xs.length,cb xs,[],xs.length,ys,[],[],none,none,rfl,by rw[vv],T3.trans S46,hpH,gH (T3.trans S4) n5,iw3.by S46,(mG n5 (S4 _ _ hD)).symm,mG n4 hD,(mG n5 e4).symm,mG n6 (S5 _ _ (S4 _ _ hD)),mG n6 e5,S46 _ _ hD,ah.same S46 _ _ tp,S6 _ _ (S5 _ _ e4),S6 _ _ e5,.nil,e6,λw hw=>⟨λz=>(by cases z),λz=>absurd (wN.mpr hw) z⟩,by rw[vv];simp,Rg.range _,fX xs,by rw[vv];exact wu _,by rw[vv];simp,j_.mono (),?_,rfl⟩;rw[qb];rfl
     clear S46 S6 S5 S4 e6 e5 e4 n4 n5 n6 hD tp iw3 im3 hx3 j_ hpH T3 hl';o_head rN (YW K ra rb xs m H x0 (.ref ap) vm vw lp lv) _ G0 ?_;clear G0;rintro k σ' H6 hz;obtain⟨lW,lg,left,ps,done,f,pv,wv,gone,o8,o9,rfl,hk,G⟩:=hz;have bp:∀i,af 79000 (ps.getD i 0):=λi=>(G.cm.get i).mono (by have:=G.dl;lia)
     have hdl:=G.dl;o_head c9 ∅ (λle H7 n7 S7 e7=>?_);refine zEJ (S7 _ _ G.eW) e7 ?_;have T7:=G.same.trans S7;have ep7:=S7 _ _ G.ep;have ev7:=S7 _ _ G.ev;have eg7:=S7 _ _ G.eg;have eW7:=S7 _ _ G.eW;have iw7:=G.iw.by S7;have tp7:ah K H7 pv (ps.map N):=ah.same S7 _ _ G.tp;have tv7:ah K H7 wv (done.map TW):=ah.same S7 _ _ G.tv;have hps:=G.len;have hpvl:=tp7.length;rw[wn]at hpvl;clear n7 e7 S7
     by_cases he:aC ps left=[]
     . rw[decide_eq_false (by simpa using he)]
       have w1:=G.w1;have w2:=G.w2;rw[pg he]at w1 w2;rw[Wh]at w1;have eps:ps=(ff ra rb xs).2.2:=congrArg X9 w2;have elf:left=(ff ra rb xs).2.1:=congrArg X8 w2;have hph:jJ left ps=dH ra rb xs:=by rw[dH,<- eps,<- elf]
       o_head BX (cw ep7 tp7) ?_;rw[hps];o_head ZZ (n:=.cE) () () (o0:=none) (tl:=[some (.ref lg),some .bU]) rfl (λj y H'=>Is K H' y (N ((jJ left ps).getD j 0))) ?_ ?_
       . intro D i zs o H8 hi inv
         have hi':i<xs.length:=by simpa using hi
         have S8:=inv.same;o_head Yg (aF.of (S8 _ _ eg7)) ?_;have hg:=G.gn i hi';k_few
         . rename_i z
           refine dj (r:=0) rfl rfl (λv9 H9 S9 i9=>?_);exact eT inv () fz ⟨_,rfl⟩ S9 (by rw[nE (),if_neg (hg.mp z)];exact i9)
         . rename_i z
           refine jc (cw (S8 _ _ ep7) (ah.same S8 _ _ tp7)) () () (λv9 i9=>?_);rw[wE]at i9;exact eT inv () fz ⟨_,rfl⟩ .ar (by rw[nE (),if_pos (by exact Ws.mp λy=>z (hg.mpr y))];exact i9)
       . intro D zs H8 hn8 S8 hD8 hl8 hr8
         have tz:ah K H8 zs ((jJ left ps).map N):=fG (by rw[hl8,Jo];lia) hr8;rw[hph]at tz;have tv8:=ah.same S8 _ _ tv7;have ev8:=S8 _ _ ev7;rw[w1]at tv8;o_head iI (cw hD8 tz) (λv9 H9 S9 i9=>?_);o_head cW (ds:=[N (1-bQ xs),.list ((cE ra rb xs).map TW),TN (dH ra rb xs)]) ∅ (.cons (iw7.by (S8.trans S9)) (.cons (bY.mpr ⟨lv,wv,rfl,.of (S9 _ _ ev8),ah.same S9 _ _ tv8⟩) (.cons i9 .nil))) .cH;exact q v10 H10 (T7.trans (S8.trans .cu)) i10
     . rw[decide_eq_true he]
       o_head rV ?_;have hwl:=tv7.length;rw[wn]at hwl;have hlen:=Ac ps left;have hgl:=G.gl;have hpos:0<(aC ps left).length:=WL.mpr he;o_head jh (aF.of ev7) ?_;o_head yZ (.of eW7) (λlt H8 n8 S8 e8=>?_);have it8:Is K H8 (.ref lt) (TW .aL):=CJ.mpr ⟨lt,rfl,.of e8⟩;k_few;have ev8:=S8 _ _ ev7;refine jm ev8 () (λH9 E9 e9=>?_);have K9:aW H8 H9:=E9.keep ev8;have T9:au H H9:=(T7.trans S8).grow G.hv E9;have ep9:=E9 _ _ G.kP (S8 _ _ ep7);have eg9:=E9 _ _ G.ngv (S8 _ _ eg7);have eW9:=E9 _ _ G.nWv (S8 _ _ eW7);have KK:=S8.keep.trans K9;have tp9:ah K H9 pv (ps.map N):=ah.keep KK _ _ (fh _) tp7;have iw9:=iw7.dQ KK
       have tv9:ah K H9 (wv++[.ref lt]) ((done++[aC ps left]).map TW):=by
         rw[wU];exact(ah.keep KK _ _ (rq _) tv7).snoc (it8.dw K9 (Ag _))
       clear ep7 ev7 eg7 eW7 iw7 tp7 tv7 T7 it8 ev8 e8 KK;o_head gv eg9 eW9 (WM (iS (by rw[iW,iW];lia))) (λlg2 H10 n10 S10 e10=>?_);rw[show vz gone++vz .aL=vz (gone++aC ps left) by unfold vz;rw[wU]]at e10;o_head eP (aF.of (S10 _ _ eW9)) ?_;rw[iW];o_head Y_.v rfl (hr'.by (T9.trans S10)) ba bb () () (λvpush H11 S11 ipush=>?_);rw[wE]at ipush;have bf:af 90 .av:=(ba.pow _).mono ();have bg:af 30000 .ae:=(ba.aB bb _).mono ();have T11:=S10.trans S11;have ep11:=T11 _ _ ep9;have tp11:ah K H11 pv (ps.map N):=ah.same T11 _ _ tp9;have eg11:=S11 _ _ e10;have ev11:=T11 _ _ e9;have iw11:=iw9.by T11;have tv11:ah K H11 (wv++[.ref lt]) ((done++[aC ps left]).map TW):=ah.same T11 _ _ tv9;have rg':=G.rg.cg .aL;have ndl:=rg'.nodup;have ltl:=rg'.lt;have nGp:lg2≠lp:=mG n10 ep9;have nGv:lg2≠lv:=mG n10 e9
       have gn':∀w,w<xs.length->(w∈gone++aC ps left ↔ w ∉ cg left .aL):=λw hw=>by
         have:=G.gn w hw;rw[vG,this];unfold cg;rw[ve]
         by_cases z1:w∈left<;>by_cases z2:w∈aC ps left<;>simp[z1,z2]
       have TT:=T9.trans T11;have hx11:=hx'.by TT;generalize hL:cg left .aL=left' at *;clear S10 S11 T9 T11 ep9 tp9 e10 e9 iw9 tv9 eg9 eW9 n10;o_head sU hx11 ?_;refine jO (n:=.cE) () () (λi σ'' H''=>∃o pv',σ''=[some x0,some (.ref ap),some vm,some vw,some .bU,some (.ref lW),some (.ref lv),some (.ref lg2),some vpush,o]/\Exc lp H11 H''/\H'' lp=some (.lst pv')/\ah K H'' pv' ((di .av .ae ps ((wr i).filter λw=>decide (w∈left'))).map N)) ⟨_,pv,rfl,Exc.refl _ _,ep11,tp11⟩ ?_ ?_
       . rintro i σ'' H12 hi hz;obtain⟨o,pv',rfl,E12,e12,t12⟩:=hz
         have hi':i<xs.length:=by simpa using hi
         have K12:aW H11 H12:=E12.keep ep11;have hpl:=jx .av .ae ((wr i).filter λw=>decide (w∈left')) ps;have hgi:=gn' i hi';o_head Sj (aF.of (E12 _ _ nGp eg11)) ?_;k_few
         . rename_i z v13 i13
           have hin:i∈left':=Ws.mp λy=>z (hgi.mpr y)
           have bq:af 79000 ((di .av .ae ps ((wr i).filter λw=>decide (w∈left'))).getD i 0):=by
             rw[kb _ _ _ _ (W1.filter _) (λw hw'=>by rw[hps];exact ltl w (of_decide_eq_true (ve.mp hw').2)),if_neg]
             . exact bp _
             . intro hm
               have:=wN.mp (ve.mp hm).1;lia
           have ip12:=ipush.dw K12 (Ae _ _);generalize hqs:di .av .ae ps ((wr i).filter λw=>decide (w∈left'))=qs at *;generalize hfa:ra^(aC ps left).length=fa at *;generalize hgb:aB ra rb (aC ps left).length=gb at *;have bpr:af 80800 (fa*qs.getD i 0):=(bf.mul bq).mono ⋯;refine jc (cw e12 t12) () () (λv14 i14=>?_);rw[wE]at i14;k_few;rename_i v15 H15 S15 i15 v16 i16 v17 H17 S17 i17;have S17':=S15.trans S17;have e17:=S17' _ _ e12;have hvl:=t12.length;rw[wn]at hvl;refine jC (j:=i) e17 (by unfold fZ;rw[if_pos (),if_pos ()];simp) (λH18 E18 e18=>?_);refine⟨_,_,rfl,E12.trans (S17'.exc.trans E18),e18,?_⟩;have K18:=E18.keep e17;rw[zCv hin,Zc,hqs];refine fG (by rw[Wv,Wv];exact hvl) (λj v hj=>?_);rw[W5]at hj
           by_cases hjw:i=j
           . subst hjw
             rw[if_pos rfl,if_pos ()]at hj;cases hj;rw[y7 ()];exact i17.dQ K18
           . rw[if_neg hjw]at hj
             rw[yi hjw];obtain⟨_,ij⟩:=cO t12 hj;exact(ij.by S17').dQ K18
         . rename_i z
           have hout:i ∉ left':=hgi.mp (by first | exact z | exact Ws.mp z);refine⟨_,pv',rfl,E12,e12,?_⟩;rw[zDd hout];exact t12
       . rintro σ'' H12 hz;obtain⟨o,pv',rfl,E12,e12,t12⟩:=hz
         rw[wE,<- show left'=(wr xs.length).filter (λw=>decide (w∈left'))from rg']at t12;have K12:aW H11 H12:=E12.keep ep11
         have cm12:Cm (m+2+21*(xs.length-left'.length)) (di .av .ae ps left'):=by
           have c0:Cm (m+2+21*(xs.length-left.length)) (0::ps):=G.cm.hJ λy hy=>by rcases wO.mp hy with rfl | hy;(exact .inr rfl);exact .inl hy
           exact((c0.wave ba bb (aC ps left).length ndl (λw hw'=>by rw[hps];exact ltl w hw')).hJ λy hy=>.inl (wH _ hy)).mono ()
         have hpl:=jx .av .ae left' ps;have w1:=G.w1;have w2:=G.w2;have hfl:=G.fl;obtain⟨f',rfl⟩:∃f',f=f'+1:=⟨f-1,by lia⟩;rw[kx he,hL]at w1 w2;generalize hqs:di .av .ae ps left'=qs at *;have hends:=rg'.ends qs;have bq:∀i,af 79000 (qs.getD i 0):=λi=>(cm12.get i).mono ()
         have eg12:=E12 _ _ nGp eg11;have ev12:=E12 _ _ G.kP.symm ev11;have TX:=TT.grow G.hp E12;have hvl:=t12.length;rw[wn]at hvl;o_head BX (cw e12 t12) ?_;rw[hpl,hps];o_head Aj (n:=.cE) () () (λD i ys σ' H'=>(∃o,σ'=[o,some (.ref lg2),some .bU])/\H12 D=none/\au H12 H'/\H' D=some (.lst (vz ((wr i).filter λw=>decide (w∈left') && !decide (qs.getD w 0<1))))) (λD H' n s e=>⟨⟨_,rfl⟩,n,s,e⟩) ?_ ?_
         . rintro D i zs σ' H13 hi hz;obtain⟨⟨o,rfl⟩,n13,S13,e13⟩:=hz
           have hi':i<xs.length:=by simpa using hi
           have hfl2:((wr i).filter λw=>decide (w∈left') && !decide (qs.getD w 0<1)).length<=i:=by
             have:=Wl (λw=>decide (w∈left') && !decide (qs.getD w 0<1)) (wr i);rw[vv]at this;exact this
           have hgi:=gn' i hi';have bqi:=bq i;o_head Sj (aF.of (S13 _ _ eg12)) ?_;k_few
           . rename_i z
             have hin:i∈left':=Ws.mp λy=>z (hgi.mpr y)
             refine jc (cw (S13 _ _ e12) (ah.same S13 _ _ t12)) () () (λv14 i14=>?_);rw[wE]at i14;o_head dj (r:=1) rfl rfl (λv15 H15 S15 i15=>?_);have i14:=i14.by S15;have e15:=S15 _ _ e13;k_few
             . rename_i z2
               refine kF e15 (by rw[iW];lia) (λH16 E16 e16=>⟨⟨_,rfl⟩,n13,(S13.trans S15).grow n13 E16,?_⟩);rw[mf (n:=i),if_pos,u_]
               . exact e16
               . rw[decide_eq_true hin,decide_eq_false z2];rfl
             . rename_i z2
               refine⟨[],⟨_,rfl⟩,n13,S13.trans S15,?_⟩;rw[mf (n:=i),if_neg,Wh]
               . exact e15
               . rw[decide_eq_true hin,decide_eq_true (show qs.getD i 0<1 by first | exact z2 | exact Ws.mp z2)];simp
           . rename_i z
             have hout:i ∉ left':=hgi.mp (by first | exact z | exact Ws.mp z);refine⟨[],⟨_,rfl⟩,n13,S13,?_⟩;rw[mf (n:=i),if_neg,Wh]
             . exact e13
             . rw[decide_eq_false hout];simp
         . rintro lW2 zs σ' H13 hz;obtain⟨_,n13,S13,e13⟩:=hz
           rw[wE,<- hends]at e13;o_head ⟨left'.length,by lia,lW2,lg2,left',qs,done++[aC ps left],f',pv',wv++[V.ref lt],gone++aC ps left,_,_,rfl,rfl,?_⟩;have KA:=K12.trans S13.keep;exact⟨TX.trans S13,G.hp,G.hv,iw11.dQ KA,G.kP,mG n13 e12,mG n13 ev12,nGp,nGv,S13 _ _ e12,ah.same S13 _ _ t12,e13,S13 _ _ ev12,ah.keep KA _ _ (rq _) tv11,S13 _ _ eg12,gn',by rw[wM];lia,rg',by rw[hpl];exact hps,by lia,by rw[wM];simp;lia,cm12,by rw[Wr];exact w1,w2⟩
def P0(xs:.a):wF:=.tuple [LZ .aq,LN .aT]
theorem Uz(xs:.a)(v:Rat):(fm xs v).length=xs.count v:=by
 have e:(wr xs.length).map (λw=>xs.getD w 0)=xs:=by
  refine jd ∅ λi hi=>?_
  rw[wn,vv]at hi;rw[wb,wA,vZ hi]
  rfl
 have:xs.count v=((wr xs.length).map (λw=>xs.getD w 0)).count v:=by rw[e]
 rw[this];unfold fm List.count;rw[uF,<- QN];refine List.countP_congr λw _=>?_
 simp
def GB(xs ds:.a):List Int:=ds.map λv=>((fm xs v).length:Int)
inductive Sr(K:wa)(v:V)(H:Hp)(Q:VK)(E:XK):Prop|v(h:Is K H v (LN U)\/Is K H v (TN U))(h1:1<=U.length)(h8:U.length<=8)(b:∀Z,af 80000 (U.getD Z 0))(q:Rs K H Q (P0 U))
theorem Fs(T:.o):kw P w base T.zg 3 Sr:=by
 exists T.zg,["_law_phases","_law_left","_law_sizes","_law_found","_law_high_here"],"c1",(ak (ay 1 jp (gu .R rfl T.h0m fS .ck))
     (ak (ay 2 jp (cZ ag))
     (ak (ay 3 jp (cZ ag))
     (ak (nI vj (iD K hu .X (cZ ag)) (ak (ay 4 jp (ao (Et T) hr (q1 1)))
     (ak (jP (jD vP vV vW jk .au (ae (jD vP Qb PySem.F.type_list_count (show Ih _ "list.count" (Gh K)from zzb hu) .X (q1 4)) ag)))
     (ak (jP (jD vP vV vW jk .ak (q1 4)))
     (av (kO (i:=1) jp rfl .s rfl (dq ["_law_one","_law_high_here"] [none,some 4]) (fT .X) .L (λ_ _ _ _ _=>(nq (iD K hu .C .X))) (λ_ _ _ _ _=>.C)))))))
     (av (aA (aU (ae .au (ae (fN fK .ak fW (fE .cs)) ag)))))))))
 obtain@⟨xs,hx,h1,h8,bx,q⟩:=h;k_few
 have fstL:∀{Q':VK},(∀ll H' us,H ll=none->au H H'->H' ll=some (.lst us)->ah K H' us .bg->Q' (.ref ll) H')->fB K [x0] H Q':=λq'=>by
   rcases hx with h | h
   . exact zK h (λl H' ys n S e t=>q' l H' ys n S e t)
   . exact mj h (λl H' ys n S e t=>q' l H' ys n S e t)
 refine fstL (λll H1 us n1 S1 e1 t1=>?_);o_head c9 ∅ (λls H2 n2 S2 e2=>?_);have nls:ll≠ls:=λz=>by subst z;rw[e1]at n2;cases n2
 o_head c9 ∅ (λlf H3 n3 S3 e3=>?_);have e23:=S3 _ _ e2;have nlf:ll≠lf:=λz=>by subst z;rw[S2 _ _ e1]at n3;cases n3
 have nsf:ls≠lf:=λz=>by subst z;rw[e2]at n3;cases n3
 have ns0:H ls=none:=gH S1 n2;have nf0:H lf=none:=gH S1 (gH S2 n3);have S03:=S1.trans .bL;o_head rN (λm σ' H'=>∃(ll:wf)(left done:List Rat)(us ws:.x)(f:Nat)(o4:.bD),σ'=[some x0,some (.ref ll),some (.ref ls),some (.ref lf),o4]/\m=left.length/\au H H'/\ll≠ls/\ll≠lf/\H' ls=some (.lst ((GB xs done).map V.int))/\H' lf=some (.lst ws)/\ah K H' ws (done.map N)/\H' ll=some (.lst us)/\ah K H' us (left.map N)/\(∀y∈left,y∈xs/\left.count y=xs.count y)/\left.length<=f/\done.length+left.length<=xs.length/\done++ig f left=aj xs) _ ⟨ll,xs,[],us,[],xs.length,_,rfl,rfl,S03,nls,nlf,e23,e3,.nil,(S2.trans S3) _ _ e1,ah.same .bL _ _ t1,λy h=>⟨h,rfl⟩,wu _,by simp,rfl⟩ ?_;rintro m σ' H4 hz;obtain⟨ll,left,done,us,ws,f,o4,rfl,rfl,S4,nls,nlf,es,et,tt',el,tl',sub,hf,hdl,heq⟩:=hz;o_head c9 ∅ (λl5 H5 n5 S5 e5=>?_);have el5:=S5 _ _ el;have et5:=S5 _ _ et;have es5:=S5 _ _ es;have tl5:ah K H5 us (left.map N):=ah.same S5 _ _ tl';have tt5:ah K H5 ws (done.map N):=ah.same S5 _ _ tt'
 refine zzY (cw el5 tl5) (bY.mpr ⟨l5,[],rfl,.of e5,.nil⟩) (n:=4) (J1 λd hd=>by
   obtain⟨x,_,rfl⟩:=wW.mp hd;exact(m_ x).mono ⋯) ⋯ ?_
 have hwl:=tt5.length;rw[wn]at hwl;rw[show(!(left.map N).isEmpty) = !left.isEmpty by cases left<;>rfl]
 by_cases he:left=[]
 . rw[show(!left.isEmpty)=false by rw[he];rfl]
   rw[he,zc,Wh]at heq;subst heq;o_head iE (cw et5 tt5) (λl6 H6 us6 n6 S6 e6 t6=>?_);rw[tS,<- Qg]at t6;o_head cW (ds:=[LZ .aq,LN .aT]) ∅ (.cons (zGf (S6 _ _ es5)) (.cons (cw e6 t6) .nil)) (λv7 H7 S7 i7=>?_);exact q v7 H7 (S4.trans (S5.trans (S6.trans S7))) i7
 . rw [show (!left.isEmpty) = true by cases left with
       | nil=>exact absurd rfl he
       | cons y l=>rfl]
   have hpos:=WL.mpr he
   have bl:∀i,af 80000 (left.getD i 0):=λi=>by
     rcases wJ i left.length with z | z
     . exact IG bx (sub _ (getD_mem z)).1
     . rw[wb,wQ z];exact af.zero.mono ⋯
   obtain⟨f',rfl⟩:∃f',f=f'+1:=⟨f-1,by lia⟩;rw[mZ he]at heq;have hless:=CL he;have hcx:=(sub _ (gY hpos)).2;o_head rV ?_;o_head zon.v (.inl (cw el5 tl5)) hpos bl (λvm im=>?_);o_head jh (aF.of es5) ?_;o_head jh (aF.of el5) ?_;o_head zy4 el5 tl5 im ?_;rw[hcx,<- Uz];o_head jm es5 (by rw[wn,GB,wn];lia) (λH6 E6 e6=>?_);have K6:=E6.keep es5;have el6:=E6 _ _ nls el5;have et6:=E6 _ _ (WN nsf) et5;have im6:=im.dQ K6;o_head jh (aF.of et6) ?_;o_head jm et6 () (λH7 E7 e7=>?_);have K7:=E7.keep et6;have el7:=E7 _ _ nlf el6;have es7:=E7 _ _ nsf e6;have im7:=im6.dQ K7;have tl7:ah K H7 us (left.map N):=ah.keep (K6.trans K7) _ _ (fh _) tl5
   have tt7:ah K H7 (ws++[vm]) ((done++[bQ left]).map N):=by
     rw[wU];exact(ah.keep (K6.trans K7) _ _ (fh _) tt5).snoc im7
   have S7:au H H7:=((S4.trans S5).grow ns0 E6).grow nf0 E7;generalize hmx:bQ left=mxx at *;o_head sk (.of el7) (λD i ys σ' H'=>(∃o,σ'=[o,some vm])/\H7 D=none/\au H7 H'/\H' D=some .cj/\ah K H' ys (((left.take i).filter λy=>!decide (y=mxx)).map N)) (λD H' n s e=>⟨⟨_,rfl⟩,n,s,e,.nil⟩) (λD i ys σ' H' h=>h.2.2.1.seq (.of el7)) ?_ ?_
   . rintro D i x ys σ' H8 hx hz;obtain⟨⟨o,rfl⟩,n8,S8,e8,t8⟩:=hz
     obtain⟨hi,ix⟩:=cO tl7 hx;have ix8:=ix.by S8;have im8:=im7.by S8;have hyl:=t8.length;rw[wn]at hyl;have hfl:=Wl (λy=>!decide (y=mxx)) (left.take i);rw[Wf]at hfl;k_few
     . rename_i z
       refine kF e8 () (λH9 E9 e9=>⟨⟨_,rfl⟩,n8,S8.grow n8 E9,e9,?_⟩);have K9:=E9.keep e8;rw[iJ hi,Wy,WB,decide_eq_false z,wU];exact(ah.keep K9 _ _ (fh _) t8).append (.cons (ix8.dQ K9) .nil)
     . rename_i z
       refine⟨ys,⟨_,rfl⟩,n8,S8,e8,?_⟩;rw[iJ hi,Wy,WB,decide_eq_true (by first | exact z | exact Ws.mp z)];have:([]:List Rat).filter (λy=>!decide (y=mxx))=[]:=rfl
       simpa using t8
   . rintro D ys σ' H8 hz;obtain⟨_,n8,S8,e8,t8⟩:=hz
     have hul:=tl7.length;rw[wn]at hul;rw[hul,Wm]at t8;o_head ⟨(left.filter λy=>!decide (y=mxx)).length,by lia,D,_,done++[mxx],ys,ws++[vm],f',_,rfl,rfl,S7.trans S8,(λz=>by subst z;rw[es7]at n8;cases n8),(λz=>by subst z;rw[e7]at n8;cases n8),?_,S8 _ _ e7,ah.same S8 _ _ tt7,e8,t8,λy hy=>?_,by lia,by rw[wM];simp only[vL];lia,by rw[Wr];exact heq⟩
     . have e:=S8 _ _ es7
       unfold GB at e ⊢;rw[wU,wU];exact e
     . obtain⟨hy1,hy2⟩:=ve.mp hy
       have:=sub y hy1;exact⟨this.1,by rw[List.count_filter (p:=λy=>!decide (y=mxx)) hy2];exact this.2⟩
theorem Cm.OR{m:Nat}{h:Rat}{xs:.a}{a b:Rat}{ns:.p}(c:Cm m (h::xs))(ba:af 10 a)(bb:af 10 b):∀k,k<=ns.length->Cm (m+2*k+21*upTo ns k) ((h+d5 a b ns xs k)::aQ a b ns xs k)
 | 0,_=>by
  have e:h+d5 a b ns xs 0=h:=by rw[d5];grind
  rw[e];exact c.mono ()
 | k+1,hk=>by
  have:=(Cm.OR c ba bb (ns:=ns) k ()).OO ba bb (ns.getD k 0).toNat k;have e:h+d5 a b ns xs (k+1)=h+d5 a b ns xs k+(1-(aQ a b ns xs k).getD k 0):=by rw[d5];grind
  rw[aQ,e];refine this.mono ?_;rw[pU ()];lia
theorem zAV{a:Rat}(hl:.D)(hn:∀n∈ns,0<=n)(k:Nat):cQ a b ns (aX a b ns k xs)=aX a b ns (k+1) xs:=by
 rw[<- oz (by rw[cu];exact hl) hn,p_]
theorem Kh{a b:Rat}{ns:.p}{xs:.a}{m:Nat}(ok:.aS)(sz:dh ns)(hl:.D)(c:.bM):∀k,Cm (m+184*k) (fV a b ns xs k::aX a b ns k xs)
 | 0=>by
  rw[lH];refine(c.mono ()).hJ λy hy=>?_
  rcases wO.mp hy with rfl | hy
  ·exact .inr rfl
  ·exact .inl hy
 | k+1=>by
  have h8:=sz.bC;have hu:=sz.upTo
  have h1:Cm (m+184*k) (fV a b ns xs k::(aX a b ns k xs++[0])):=(Kh ok sz hl c k).hJ λy hy=>by
   rcases wO.mp hy with rfl | hy
   ·exact .inl .bH
   ·rcases vG.mp hy with h | h
    ·exact .inl (wH _ h)
    ·exact .inr (wZ.mp h)
  have h2:=(Cm.OR h1 ok.ba ok.bb (ns:=ns) ns.length .ax).mono (show _<=m+184*(k+1) by lia);refine lP h2 λy hy=>?_
  rcases wO.mp hy with rfl | hy
  ·exact wL ..
  ·rw[<- zAV hl sz.nn k]at hy
   exact wH _ (x6 _ hy)
theorem JK(a b:Rat)(ns:.p)(xs:.a):gE a b ns xs ns.length=c8 a b ns xs:=by
 have h:∀j,gE a b ns xs j=d5 a b ns .aV j:=λj=>by
  induction j with
  | zero=>rfl
  | succ j ih=>rw[gE,d5,ih]
 exact h _
theorem YY(A B:Rat)(f:Nat->Rat)(n:Nat):GM.sumTo (λk=>A+f k*B) n=.aM*A+GM.sumTo f n*B:=by
 rw[GP,Zo]
 congr 1
 rw[V5 (GM.sumTo f n) B,<- An];exact oS n λk _=>V5 ..
theorem Sn:∀n:Nat,GM.sumTo (λk=>((k:Int):Rat)) n=((((n:Int)*((n:Int)-1)).fdiv 2:Int):Rat)
 | 0=>by decide
 | n+1=>by
  rw[GM.sumTo,Sn n,<- VG]
  congr 1
  rw[WF _ ⋯,WF _ ⋯]
  have e:(((n+1:Nat):Int))*(((n+1:Nat):Int)-1)=(n:Int)*((n:Int)-1)+2*(n:Int):=by
   push_cast
   generalize (n:Int)=z
   have:(z+1)*(z+1-1)=z*(z-1)+2*z:=by
    rw[show z+1-1=z by lia,X7,Int.mul_sub,Qh,QR];lia
   exact this
  rw[e,Int.add_mul_ediv_left _ _ ⋯]
theorem zwP(hl:.D)(n:Nat):fV 1 b ns xs n=.aM*c8 1 b ns xs+((((n:Int)*((n:Int)-1)).fdiv 2:Int):Rat)*(c8 1 b ns (aX 1 b ns 1 xs)-c8 1 b ns xs):=by
 unfold fV;rw[<- Sn,<- YY];exact oS n λk _=>by rw[zAX k,Hi _ hl (cu ..).symm]
theorem zzK{a:Rat}(hF:a^ns.sum.toNat≠1)(hl:.D)(n:Nat):fV a b ns xs n=.aM*c8 a b ns (cf a b ns)+(1-.I^n) / (1-a^ns.sum.toNat)*(c8 a b ns xs-c8 a b ns (cf a b ns)):=by
 have hs:(cf a b ns).length=xs.length:=by rw[k_ ()];lia
 unfold fV
 have e:(1-.I^n) / (1-a^ns.sum.toNat)=GM.sumTo (λk=>.I^k) n:=by
  rw[Hy];generalize a^ns.sum.toNat=F at *;have hg:1-F≠0:=λe=>hF .aF
  have h1:(1 / (1-F))*(1-F)=1:=WG hg;rw[Ek h1 n];have h2:(1-F^n) / (1-F)=(1-F^n)*(1 / (1-F)):=by rw[Qk,Qk,Ql]
  rw[h2]
  grind
 rw[e,<- YY];exact oS n λk _=>by rw[Kt hF hl k,Hi _ () hs]
inductive zot(K:wa)(v w u t:V)(H:Hp)(Q:VK)(E:XK):Prop|v{W:.p}{n:Int}(e1:w=.ref U)(e3:t=.int n)(h1:Is K H v (R Z S))(h2:aF K H U (W.map V.int))(h3:Is K H u (LN Y))(hl:W.length=Y.length+1)(n0:0<=n)(ok:d_ Z S W n.toNat)(bx:∀D,af 50000 (Y.getD D 0))(c:Cm 42000 Y)(ce:Z=1->Cm 100 Y)(q:Rs K H Q (N (fV Z S W Y n.toNat)))
theorem zoI(T:.o):pi P w base T.Dw 7 zot:=by
 exists T.Dw,["_law_rule","_law_sizes","_law_places","_law_many","_law_first","_law_step","_law_rest_here","_law_factor","_law_often"],"c4",(ak (ay 4 jp (eI (ao (mI T) hr (q3 0 1 2))))
     (ak (aY (dX K hu .O .aA) (ak (ay 5 jp (ao (nh T) hr (ae (eI (ao (mI T) hr (ae .C (ae .X (ae (ao (Bk T) hr (by exact(@ae _ _ _ _ _ .C (@ae _ _ _ _ _ .X (@ae _ _ _ _ _ .au (@ae _ _ _ _ _ ar ag rL) bM) bM) bM))) ag))))) (q1 4))))
     (av (aA (ao (h_ T) hr (ae (ao (lX T) hr (ae (aU (ae .ak .z)) (q1 4))) (ae (ao (lX T) hr (ae (aU (ae (az .aj (az de .ak (az fL .ak ar)) ar) .z)) (q1 5))) ag)))))) bE)
     (ak (ay 6 jp (eI (ao (mI T) hr (ae .C (ae .X (ae (ao (zN T) hr .cl) ag))))))
     (ak (ay 7 jp (ao (yr T) hr (ae .O (ae (dE (show bN _ (.builtin "sum") (tR K)from FJ rfl) rfl T.h0s Br (q1 1)) ag))))
     (ak (ay 8 jp (ao (UT T) hr (ae (ao (nh T) hr (ae .aA (ae (ao (yr T) hr (q2 7 3)) ag))) (ae (ao (nh T) hr (ae .aA (q1 7))) ag))))
     (av (aA (ao (h_ T) hr (ae (ao (lX T) hr (ae (aU (ae .ak .z)) (q1 6))) (ae (ao (lX T) hr (ae (pv 8) (ae (ao (nh T) hr (q2 4 6)) ag))) ag))))))))))
 obtain@⟨p1,ra,rb,xs,ns,n,rfl,rfl,hr',hn',hx',hl,n0,ok,bx,c,ce,q⟩:=h;have h8:=ok.sz.bC;have h1:=ok.sz.some;have hu:=ok.sz.upTo;have hps:=ok.sz.pos;have h60:=ok.bC;have hkk:=ok.k;obtain⟨n,rfl⟩:∃j:Nat,n=(j:Int):=⟨n.toNat,by lia⟩;rw[wE]at q ok h60 hkk;have tb:∀{m:Nat}{ys:.a},Cm m ys->af (m+184) (c8 ra rb ns ys):=λ{m ys} cy=>((cy.snoc.zB ok.ok.ba ok.ok.bb (ns:=ns) ns.length .ax).eH .bH).mono ()
 have bT:=tb c;have rc:=mP ok.ok ok.sz hl c ⋯;have bn:af 6 .aM:=Gu h60;o_head mH hr' hn' (.inl hx') rc.1 rc.2.1 rc.2.2 .aJ;rw[JK]at i1;o_head aD (j:=1) i1 rfl (λv2 i2=>?_);have hr1:=hr'.by S1;k_few;rename_i va ia;refine dj (r:=1) rfl rfl .as;refine Aw (ia.by S3) i3 ?_;have T3:=S1.trans S3;k_few
 . rename_i ha
   subst ha;have c:=ce rfl;have bT:=tb c;have led1:d_ 1 rb ns 1:=⟨ok.ok,ok.sz,by decide,by have:=ok.sz.sum;lia⟩;refine Rb.v rfl rfl (hr'.by T3) (T3.seq hn') (hx'.by T3) hl ⋯ led1 bx (λl4 H4 us n4 S4 e4 t4=>?_);have i4:Is K H4 (.ref l4) (LN (aX 1 rb ns 1 xs)):=cw e4 t4;have T4:=T3.trans S4;have c1:Cm 1774 (aX 1 rb ns 1 xs):=(lP (Kh ok.ok ok.sz hl c 1) λy hy=>wH _ hy).mono ⋯;have rc1:=mP ok.ok ok.sz (by rw[cu];exact hl) c1 ⋯;have bT1:=tb c1;o_head mH (hr'.by T4) (T4.seq hn') (.inl i4) rc1.1 rc1.2.1 rc1.2.2 .bR;rw[JK]at i5;o_head aD (j:=1) i5 rfl .cU;have i25:=i2.by (S3.trans .bj);o_head ZM.v i6 i25 bT1 bT ⋯ (λv7 H7 S7 i7=>?_);have T7:=T4.trans (S5.trans S7);have i27:=i25.by S7;have bst:af 76000 (c8 1 rb ns (aX 1 rb ns 1 xs)-c8 1 rb ns xs):=(bT1.sub bT).mono ⋯;have bT':af 1774 (c8 1 rb ns xs):=bT.mono ⋯
   have hm0:0<=(n:Int)*((n:Int)-1)/\(n:Int)*((n:Int)-1)<=3600:=by
     rcases VC n with z | z
     . subst z;decide
     . exact⟨xT () (),by
         have:=uV (show(n:Int)<=60 by lia) (show(n:Int)-1<=60 by lia) () ⋯;lia⟩
   have hf0:0<=((n:Int)*((n:Int)-1)).fdiv 2/\((n:Int)*((n:Int)-1)).fdiv 2<=1800:=by rw[WF _ ⋯];lia
   have bh:af 11 (((((n:Int)*((n:Int)-1)).fdiv 2:Int)):Rat):=by
     have e:(2:Nat)^11=2048:=by decide
     exact⟨⟨by rw[xy,e];lia⟩,⟨by rw[xz];decide⟩⟩
   clear i1 i2 ia i3 i5 i6 i25 S3 S4 S5 S7 e4 t4 n4 T3 T4 hr1 i4;o_head C8 .bv;have i28:=i27.by S8;have i78:=i7.by S8;k_few;rename_i v9 H9 S9 i9;refine C8 .cH;have i710:=i78.by .cu;have i910:=i9.by S10;have b9:af 1780 (.aM*c8 1 rb ns xs):=(bn.mul bT').mono ⋯;have b11:af 76220 (((((n:Int)*((n:Int)-1)).fdiv 2:Int):Rat)*(c8 1 rb ns (aX 1 rb ns 1 xs)-c8 1 rb ns xs)):=(bh.mul bst).mono ⋯;k_few;rename_i v11 H11 S11 i11 v12 H12 S12 i12;rw[<- zwP hl]at i12;exact q v12 H12 (T7.trans (S8.trans (S9.trans (S10.trans .cx)))) i12
 . rename_i ha
   have hF:ra^ns.sum.toNat≠1:=λe=>ha ((lC ok.ok ()).mp e)
   have hne:1-ra^ns.sum.toNat≠0:=λe=>hF .aF
   have bF:af 49 .bV:=(jG ok.ok _).mono ();have hs:(cf ra rb ns).length=xs.length:=by rw[k_ ()];lia
   have cS:Cm 268 (cf ra rb ns):=zV ok.ok.ba ok.ok.bb h8 hu () hF;have rcS:=mP ok.ok ok.sz (by rw[hs];exact hl) cS ⋯;have bR:af 452 (c8 ra rb ns (cf ra rb ns)):=tb cS;refine Sk.v rfl (hr'.by T3) (T3.seq hn') ok.ok ok.sz ha (λl4 H4 us n4 S4 e4 t4=>?_);have T4:=T3.trans S4;o_head mH (hr'.by T4) (T4.seq hn') (.inl (cw e4 t4)) rcS.1 rcS.2.1 rcS.2.2 .bR;rw[JK]at i5;o_head aD (j:=1) i5 rfl .cU;have T5:=T4.trans S5;have i25:=i2.by (S3.trans .bj);have hr5:=hr'.by T5;clear i1 i2 ia i3 i5 S3 S4 S5 e4 t4 n4 T3 T4 hr1;k_few;rename_i vb ib;refine Fz (T5.seq hn') ?_;o_head O5.v rfl ib (A0 ok.ok) ⋯ () () () (λv7 H7 S7 i7=>?_);o_head dj (r:=1) rfl rfl .bv;k_few;have hkn:(6*ns.sum.toNat+1)*n<=32000:=Wt (Wb _ ()) hkk;refine O5.v rfl (i7.by S8) (jG ok.ok _) () () () (by rw[wE];lia) (λv9 H9 S9 i9=>?_);rw[wE]at i9;have bP:af 32020 (.bV^n):=ok.pow .ax;o_head ZM.v (i8.by S9) i9 af.one bP ⋯ .cH;o_head dj (r:=1) rfl rfl (λv11 H11 S11 i11=>?_);o_head ZM.v i11 (i7.by (S8.trans (S9.trans (S10.trans S11)))) af.one bF ⋯ (λv12 H12 S12 i12=>?_);o_head Rm.v (i10.by .cx) i12 (af.one.sub bP) (af.one.sub bF) ⋯ hne (λv13 H13 S13 i13=>?_);have S513:=S7.trans (S8.trans (S9.trans (S10.trans (S11.trans (S12.trans S13)))))
   have i613:=i6.by S513;have i213:=i25.by S513;have T13:=T5.trans S513;have bO:af 33200 ((1-.bV^n) / (1-ra^ns.sum.toNat)):=((af.one.sub bP).div (af.one.sub bF) hne).mono ⋯;clear i6 i7 i8 i9 i10 i11 i12 i25 S7 S8 S9 S10 S11 S12 S13 S513 T5 ib hr5;generalize hO:(1-.bV^n) / (1-ra^ns.sum.toNat)=O at *;o_head C8 (λv14 H14 S14 i14=>?_);have i614:=i613.by S14;have b15:af 458 (.aM*c8 ra rb ns (cf ra rb ns)):=(bn.mul bR).mono ⋯;k_few;rename_i v15 H15 S15 i15;refine ZM.v (i213.by (S14.trans S15)) (i614.by S15) bT bR ⋯ (λv16 H16 S16 i16=>?_);have i1316:=i13.by (S14.trans (S15.trans S16));have i1516:=i15.by S16;have bD:af 54800 (c8 ra rb ns xs-c8 ra rb ns (cf ra rb ns)):=(bT.sub bR).mono ⋯;have bOD:af 88000 (O*(c8 ra rb ns xs-c8 ra rb ns (cf ra rb ns))):=(bO.mul bD).mono ⋯;k_few;rename_i v17 H17 S17 i17 v18 H18 S18 i18;rw[<- hO,<- zzK hF hl]at i18;exact q v18 H18 (T13.trans (S14.trans (S15.trans (S16.trans (S17.trans S18))))) i18
def sT(K:wa):R2:=λx y H Q=>∃d ds,Is K H x d/\Is K H y .aH/\Sh 60 d/\vD .aH=true/\Q (.bl (!ds.any λe=>wP e d)) H
theorem GR{X:Cx}(hu:X.A.units+64<WW):bV X (vR .NotIn) (sT X.K):=by
 intro pins s σ H x y v u Q I rx ry h;obtain⟨d,ds,hd,he,sd,se,q⟩:=h;obtain⟨as,h1⟩:=I.reads d x v sd.1 hd rx;obtain⟨bs,h2⟩:=I.reads .aH y u se he ry;have sd2:=sd.2;have hm:=xc (Wa ds) d.depth;exact PySem.SeqAt.notIn_tuple_reads h2 h1 (by rw[vD]at se;exact se) sd.1 () ⟨.bl _,H,I,rfl,q⟩
theorem Jz{v w:V}(h:Is K H v (N x))(k:Is K H w (TN xs))(q:Q (.bl (!decide (x∈xs))) H):sT K v w H Q :=
 ⟨N x,xs.map N,h,k,(m_ x).mono ⋯,by rw[vD];exact pM xs,by rw[Tz];exact q⟩
theorem Iw{v:V}(h:Is K H v (LZ ns)):∃p,v=.ref p/\aF K H p .aC:=by
 obtain⟨p,us,rfl,s,t⟩:=bY.mp h;rw[oF.mp t]at s;exact⟨p,rfl,s⟩
theorem zFD{a:Rat}(ok:.aS)(hp:cq ys)(h0:0∈ys)(f:fC a b ys k):(∀y∈aX a b (aG ys) k (aH ys),y∈ai a b ys (k*(aj ys).length))/\((wr ys.length).map λw=>(aX a b (aG ys) k (aH ys)++[0]).getD (aM ys w) 0)=ai a b ys (k*(aj ys).length):=by
 obtain⟨hz,hn,hs,L⟩:=kh (a:=a) (b:=b) hp h0;obtain⟨Lr,_⟩:=ky ok L hn (iB ys) k f;rw[hs]at Lr
 constructor
 ·intro y hy
  obtain⟨j,hj,rfl⟩:=vA hy;obtain⟨w,hw,hf⟩:=Lr.some j (by rw[wM];lia);have e:=Lr.pl.at' w hw;rw[hf,wb (l:=_++_),vO hj,we hj]at e;have e:(ai a b ys (k*(aj ys).length)).getD w 0=(aX a b (aG ys) k (aH ys))[j]:=e;rw[<- e];exact getD_mem hw
 ·refine jd (by simp[bS]) λw hw=>?_
  have hw:w<ys.length:=by simpa using hw
  rw[Lr.pl.at' w (by rw[bS];exact hw),wb (l:=List.map _ _),wA,vZ hw]
  rfl
structure JH(a b h:Rat)(ys:.a)(r g:Nat):Prop where
 ok:aK a b
 h1:1<=ys.length
 h4:ys.length<=4
 hp:cq ys
 r3:r<=30
 cy:1<=r->Cm 34000 ys
 ce:1<=r->a=1->Cm 100 ys
 eK:g<=40
 hb:af 88000 h
 ch:cX a b ys r->∀t,t<=g->Cm 70000 (ai a b ys (r*(aj ys).length+t))
 bh:cX a b ys r->∀t,t<=g->af 88000 (h+aE a b ys (r*(aj ys).length+t))
 bt:cX a b ys r->af 88000 (aE a b ys (r*(aj ys).length))
def tT(a b h:Rat)(ys:.a)(r g:Nat):wF:=.tuple [N (h+aE a b ys (r*(aj ys).length+g)),TN (ai a b ys (r*(aj ys).length+g))]
inductive zmn(K:wa)(v w u t s:V)(H:Hp)(Q:VK)(E:XK):Prop|v{U:Nat}{Z:Nat}(e3:t=.int (U:Int))(e4:s=.int (Z:Int))(i1:Is K H v (R S W))(i2:Is K H w (N Y))(i3:Is K H u (TN D))(ok:JH S W Y D U Z)(qn:¬ cX S W D U->Rq H Q .bX)(q:cX S W D U->Rs K H Q (tT S W Y D U Z))
theorem JI(T:.o):po P w base T.zd 8 zmn:=by
 exists T.zd,["_law_rule","_law_hour","_law_phases","_law_rounds","_law_glows","_law_sizes","_law_places","_law_k","_law_wait","_law_waves"],"c5",(ak (aY (dB kS .ak ar .cG) (ak (fQ (ao (Fs T) hr .cR) (gZ (n:=2) rfl (dg (cC (i:=5) jp rfl .s) (dg (cC (i:=6) jp rfl .s) gQ))))
     (ak (aY (PW.pt (fI (dB (show bV _ (vR .NotIn) (sT K)from GR hu) .aA .au .af) (g6 (c7 (cF (ao (Ib T) hr (q3 0 5 6))))))) (av (aA gD)) bE)
     (ak (aY (c7 (cF (ao (Ib T) hr (ae .C (ae .cI (ae (ao (Bk T) hr (by exact(@ae _ _ _ _ _ .C (@ae _ _ _ _ _ .cI (@ae _ _ _ _ _ (pv 6) (@ae _ _ _ _ _ (az fL .ak ar) ag AU) bM) bM) bM))) ag)))))) (av (aA gD)) bE)
     (ak (ay 1 jp (ao (h_ T) hr (ae .X (ae (ao (zoI T) hr (by exact(@ae _ _ _ _ _ .C (@ae _ _ _ _ _ .cI (@ae _ _ _ _ _ (pv 6) (@ae _ _ _ _ _ .ak ag bM) bM) bM) bM))) ag))))
     (av (ay 2 jp (ao (YD T) hr (ae .au (ae (ao (Bk T) hr (by exact(@ae _ _ _ _ _ .C (@ae _ _ _ _ _ .cI (@ae _ _ _ _ _ (pv 6) (@ae _ _ _ _ _ .ak ag bM) bM) bM) bM))) ag))))))))) bE)
     (ak (fi vj rfl (gI rfl T.h0j (q1 4)) (cC (i:=7) jp rfl .s) (ak (fQ (ao (zu8 T) hr (q2 0 2)) (gZ (n:=3) rfl (dg (cC (i:=8) jp rfl .s) (dg (cC (i:=9) jp rfl .s) (dg (cC (i:=2) jp rfl .s) gQ)))))
     (av (ay 1 jp (ao (h_ T) hr (q2 1 8))))))
     (av (aA (aU (q2 1 2))))))
 obtain@⟨ra,rb,h0,ys,r,g,rfl,rfl,hr',hh',hy',ok,qn,q⟩:=h;have eK:=ok.eK;have l1:∀k,1<=(ai ra rb ys k).length:=λk=>by rw[bS];exact ok.h1
 have l8:∀k,(ai ra rb ys k).length<=8:=λk=>by rw[bS];exact(show _<=8 by have:=ok.h4;lia)
 wtm_at "sq"
 have main:cX ra rb ys r->∀(vh vp:V)(o5 o6:.bD)(H1:Hp),au H H1->Is K H1 vh (N (h0+aE ra rb ys (r*(aj ys).length)))->Is K H1 vp (TN (ai ra rb ys (r*(aj ys).length)))->tl_ {nx:=λ_ H'=>Q V.bX H',rt:=Q} [some x0,some vh,some vp,some (V.int (r:Int)),some (V.int (g:Int)),o5,o6,none,none,none] H1:=λgo vh vp o5 o6 H1 S1 ih ip=>by
   wtm_at "tl";o_head jO (n:=(g:Int)) () () (λt σ H'=>∃vh vp o7 o8 o9,σ = [some x0,some vh,some vp,some (.int (r:Int)),some (.int (g:Int)),o5,o6,o7,o8,o9]/\au H H'/\Is K H' vh (N (h0+aE ra rb ys (r*(aj ys).length+t)))/\Is K H' vp (TN (ai ra rb ys (r*(aj ys).length+t)))) ⟨vh,vp,_,_,_,rfl,S1,ih,ip⟩ ?_ ?_
   . rintro t σ H2 ht hz;obtain⟨vh,vp,o7,o8,o9,rfl,S2,ih2,ip2⟩:=hz
     have ht':t<g:=by simpa using ht
     have ct:=ok.ch go t ();have b1:=ok.bh go t ();have e1:ai ra rb ys (r*(aj ys).length+(t+1))=dH ra rb (ai ra rb ys (r*(aj ys).length+t)):=rfl;have e2:aE ra rb ys (r*(aj ys).length+(t+1))=aE ra rb ys (r*(aj ys).length+t)+(1-bQ (ai ra rb ys (r*(aj ys).length+t))):=rfl;have q1:=l1 (r*(aj ys).length+t);have q8:=l8 (r*(aj ys).length+t);rw[e1,e2];have b2:af 88000 (1-bQ (ai ra rb ys (r*(aj ys).length+t))):=(af.one.sub (ct.eH (gY q1))).mono ⋯;generalize ai ra rb ys (r*(aj ys).length+t)=zs at *;generalize aE ra rb ys (r*(aj ys).length+t)=hh at *;o_head Yo.v (hr'.by S2) ip2 ok.ok.ba ok.ok.bb q1 q8 ct () .as;have ih3:=ih2.by S3;o_head mY (show Is K H3 v3 (.tuple [N (1-bQ zs),.list ((cE ra rb zs).map TW),TN (dH ra rb zs)])from i3) rfl (λus t4=>?_);obtain⟨v4,r1,rfl,i4,t4⟩:=cP.mp t4;obtain⟨v5,r2,rfl,i5,t4⟩:=cP.mp t4;obtain⟨v6,r3,rfl,i6,t4⟩:=cP.mp t4;rw[fO.mp t4];k_few;rename_i v7 H7 S7 i7;exact⟨v7,v6,_,_,_,rfl,S2.trans (S3.trans S7),by rw[<- Rat.add_assoc];exact i7,i6.by S7⟩
   . rintro σ H2 hz;obtain⟨vh,vp,o7,o8,o9,rfl,S2,ih2,ip2⟩:=hz
     rw[wE]at ih2 ip2;o_head cW (ds:=[N (h0+aE ra rb ys (r*(aj ys).length+g)),TN (ai ra rb ys (r*(aj ys).length+g))]) ∅ (.cons ih2 (.cons ip2 .nil)) .as;exact q go v3 H3 .bL i3
 rcases VC r with rz | rp
 . have e0:h0+aE ra rb ys (r*(aj ys).length)=h0:=by
     rw[rz,VD]
     show h0+0=h0
     grind
   have e1:ai ra rb ys (r*(aj ys).length)=ys:=by rw[rz,VD];rfl
   rw[e0,e1]at main;wtm_at "gt"
   . exfalso
     lia
   . exact main (.inl rz) x1 x2 none none H (λ_ _ h=>h) hh' hy'
 . have r3:=ok.r3
   have cy:=ok.cy rp;have ce:=ok.ce rp;have sz:=oU ok.h1 (show _<=8 by have:=ok.h4;lia);have hvl:=jn ys;have hvp:=lu ok.h1
   have hn:(aG ys).length=(aH ys).length+1:=by
     unfold aG aH;rw[wn,VW];lia
   have bx:∀j,af 80000 (ys.getD j 0):=λj=>(cy.get j).mono ⋯
   have cp0:Cm 34000 (aH ys):=kn cy;have cp:Cm 42000 (aH ys):=cp0.mono ⋯;have bp:∀j,af 50000 ((aH ys).getD j 0):=λj=>(cp.get j).mono ⋯
   have sm:=sz.pos;have cl1:Cm 65400 (aX ra rb (aG ys) (r-1) (aH ys)):=zAx ok.ok ok.h1 ok.h4 r3 cy;have fr0:fC ra rb ys r->cH ra rb (aG ys) (aH ys)=true:=λfr=>by have:=fr 0 ();unfold cK at this;rw[lH]at this;exact this
   have nogo:¬ (0∈ys/\fC ra rb ys r)->¬ cX ra rb ys r:=λh g=>by
     rcases g with g | g
     . lia
     . exact h g
   wtm_at "gt"
   . refine Sr.v (.inr hy') ok.h1 (show _<=8 by have:=ok.h4;lia) bx .aJ
     refine mY (show Is K H1 v1 (.tuple [LZ (aG ys),LN (aH ys)])from i1) rfl (λus t=>?_);obtain⟨v2,r1,rfl,iz,t⟩:=cP.mp t;obtain⟨vp,r2,rfl,ip,t⟩:=cP.mp t;rw[fO.mp t];obtain⟨p1,rfl,hz⟩:=Iw iz;have hr1:=hr'.by S1;have hy1:=hy'.by S1;have hh1:=hh'.by S1;clear t iz i1;wtm_at "gt";wtm_at "tl";wtm_at "gt";refine dj (r:=0) rfl rfl .as;wtm_at "gt";refine Jz i3 (hy1.by S3) ⟨_,rfl,?_⟩
     by_cases z0:0∈ys
     case neg =>
       rw[decide_eq_false z0];wtm_at "gt";exact qn (nogo λh=>z0 h.1) H3 (S1.trans S3)
     rw[decide_eq_true z0,if_neg ⋯];wtm_at "gt";refine EI (hr1.by S3) (S3.seq hz) (.inl (ip.by S3)) ok.ok sz hn cp ⋯ (λH4 S4=>⟨_,rfl,?_⟩);have T4:=S3.trans S4;cases f0:cH ra rb (aG ys) (aH ys)
     case false =>
       wtm_at "gt";exact qn (nogo λh=>by rw[fr0 h.2]at f0;cases f0) H4 (S1.trans T4)
     wtm_at "gt";wtm_at "tl";wtm_at "gt";have hr4:=hr1.by T4;have hz4:=T4.seq hz;have ip4:=ip.by T4;refine Rb.v rfl rfl hr4 hz4 ip4 hn () (kz ok.ok sz ()) bp (λl5 H5 us5 n5 S5 e5 t5=>?_);rw[show((r:Int)-1).toNat=r-1 by lia]at t5;wtm_at "gt";refine EI (hr4.by S5) (S5.seq hz4) (.inl (cw e5 t5)) ok.ok sz (by rw[cu];exact hn) cl1 ⋯ (λH6 S6=>⟨_,rfl,?_⟩);have S46:=S5.trans S6;cases f1:cH ra rb (aG ys) (aX ra rb (aG ys) (r-1) (aH ys))
     case false =>
       wtm_at "gt";exact qn (nogo λh=>by have:=h.2 (r-1) ();unfold cK at this;rw[this]at f1;cases f1) H6 (S1.trans (T4.trans S46))
     have fr:fC ra rb ys r:=λk hk=>TF ok.ok hn f0 f1 ()
     have go:cX ra rb ys r:=.inr ⟨z0,fr⟩;obtain⟨hzv,hn',hs,L⟩:=kh (a:=ra) (b:=rb) ok.hp z0;have lo:=zFD ok.ok ok.hp z0 fr;have bt:=ok.bt go
     have et:fV ra rb (aG ys) (aH ys) r=aE ra rb ys (r*(aj ys).length):=by
       obtain⟨_,e⟩:=ky ok.ok L hn' (iB ys) r fr;rw[hs]at e;exact e.symm
     have hr6:=hr4.by S46;have hz6:=S46.seq hz4;have ip6:=ip4.by S46;have T6:=T4.trans S46;have hh6:=hh1.by T6;have hy6:=hy1.by T6;have TT6:=S1.trans T6;have hb:=ok.hb;clear hr4 hz4 ip4 S46 S5 S6 e5 t5 n5 S3 S4 T4 i3 hr1 hy1 hh1 hz ip T6 S1;wtm_at "gt";wtm_at "tl";wtm_at "gt";refine zot.v rfl rfl hr6 hz6 ip6 hn () (kz ok.ok sz ()) bp cp (λe=>kn (ce e)) (λv7 H7 S7 i7=>?_);rw[wE,et]at i7;have hh7:=hh6.by S7;wtm_at "gt";rename_i v8 H8 S8 i8;have T8:=S7.trans S8;wtm_at "tl";wtm_at "gt";refine Rb.v rfl rfl (hr6.by T8) (T8.seq hz6) (ip6.by T8) hn () (kz ok.ok sz ()) bp (λl9 H9 us9 n9 S9 e9 t9=>?_);rw[wE]at t9;wtm_at "gt";refine Rl.v (hy6.by (T8.trans S9)) (cw e9 t9) (show _<=8 by have:=ok.h4;lia) (by rw[cu];lia) bx .cH;rw[lo.2]at i10;wtm_at "gt";exact main go v8 v10 _ _ H10 (TT6.trans (T8.trans .cu)) (i8.by .cu) i10
   . exfalso
     lia
def pN(a b:Rat)(xs:.a):Option String:=if(aj xs).length=1 then some "one" else if 0∈xs then dW a b xs else none
inductive znY(K:wa)(v w:V)(H:Hp)(Q:VK)(E:XK):Prop|v{W:Nat}(h:.bo)(k:Is K H w (TN S))(ok:aK U Z)(h1:1<=S.length)(h8:S.length<=8)(c:Cm W S)(hm:W<=65800)(q:Rq H Q (mr (pN U Z S)))
theorem zoc(T:.o):ms P w base T.Dx 7 znY:=by
 exists T.Dx,["_law_rule","_law_phases","_law_sizes","_law_places"],"c2",(ak (fQ (ao (Fs T) hr (q1 1)) (gZ (n:=2) rfl (dg (cC (i:=2) jp rfl .s) (dg (cC (i:=3) jp rfl .s) gQ))))
     (ak (aY (dX K hu (cT K T.h0t .cR) ar) (av (aA fA)) bE)
     (ak (aY (PW.pt (fI (dB (show bV _ (vR .NotIn) (sT K)from GR hu) .aA .X .af) (g6 (c7 (cF (ao (Ib T) hr (q3 0 2 3))))))) (av (aA gD)) bE)
     (ak (aY (dX K hu (eI (ao (mI T) hr (q3 0 2 3))) .ak) (av (aA fA)) bE)
     (ak (aY (PW.pt (mB (dB lF (eI .O) (eI .O) .cG) (lY (cF (ao (zwW T) hr (q3 0 2 3)))))) (av (aA fA)) bE)
     (av (aA gD)))))))
 obtain@⟨ra,rb,xs,m,hr',hx',ok,h1,h8,c,hm,q⟩:=h;have bx:∀i,af 80000 .an:=λi=>(c.get i).mono ()
 have sz:=oU h1 h8;have hvl:=jn xs;unfold pN at q;o_head Sr.v (.inr hx') h1 h8 bx .aJ;o_head mY (show Is K H1 v1 (.tuple [LZ .aq,LN .aT])from i1) rfl (λys t=>?_);obtain⟨v2,r1,rfl,iz,t⟩:=cP.mp t;obtain⟨vp,r2,rfl,ip,t⟩:=cP.mp t;rw[fO.mp t];obtain⟨p1,rfl,hz⟩:=Iw iz;o_head eP hz ?_;rw[wn,oA];k_few
 . rename_i z
   have z:(aj xs).length=1:=by lia
   rw[if_pos z]at q;exact q _ S1
 . rename_i z
   have z:¬ (aj xs).length=1:=by lia
   rw[if_neg z]at q;refine dj (r:=0) rfl rfl .as;have T3:=S1.trans S3;have hx3:=hx'.by T3;have hr3:=hr'.by T3;have hz3:=S3.seq hz;have ip3:=ip.by S3;clear hx' hr' hz ip S1 S3 i1 iz t;o_head Jz i3 hx3 ⟨_,rfl,?_⟩
   by_cases h0:0∈xs
   . rw[decide_eq_true h0,if_neg ⋯]
     rw[if_pos h0]at q;unfold dW at q;rw[if_neg z]at q;have hvp:=lu h1;have hpl:(aH xs).length+1=(aj xs).length:=by unfold aH;rw[VW];lia
     have hn:(aG xs).length=(aH xs).length+1:=by rw[oA];lia
     have cp:Cm m .aT:=kn c;have rc:=mP ok sz hn cp hm;generalize aG xs=ns at *;generalize aH xs=ps at *;o_head EI hr3 hz3 (.inl ip3) ok sz hn cp hm (λH4 S4=>?_);have T4:=T3.trans S4;have hr4:=hr3.by S4;have hz4:=S4.seq hz3;have ip4:=ip3.by S4;clear hr3 hz3 ip3 T3 S4 hx3 i3;k_few
     . rename_i y
       rw[if_neg (by rw[y];decide)]at q;exact q _ T4
     . rename_i y
       rw[if_pos y]at q;refine mH hr4 hz4 (.inl ip4) rc.1 rc.2.1 rc.2.2 .bR;have T5:=T4.trans S5;have hr5:=hr4.by S5;have hz5:=S5.seq hz4;have ip5:=ip4.by S5;clear hr4 hz4 ip4 T4 S5;o_head aD (j:=0) i5 rfl .cU;o_head Zi (show Is K H5 v6 (LN (cQ ra rb ns ps))from i6) ip5 ?_;k_few
       . rename_i w
         rw[if_pos w]at q;exact q _ T5
       . rename_i w v7 i7 v8 i8 y2
         have ha:ra<1:=by
           rw[<- Xa];intro h;have:=(AJ ra).mpr h;lia
         rw[if_neg w]at q
         have es:dZ ra rb ns ps=jN ra rb ns:=by
           unfold dZ;rw[if_neg .aF,if_neg .aF]
         refine Pj.v rfl hr5 hz5 ip5 ok sz hn cp hm (λH6 S6=>⟨_,rfl,?_⟩);rw[es]
         by_cases y3:jN ra rb ns=true
         . rw[if_pos ⟨ha,y3⟩]at q
           rw[y3];k_few;exact q _ (T5.trans S6)
         . rw[if_neg (λh=>y3 h.2)]at q
           rw[Q8.mpr y3];k_few;exact q _ (T5.trans S6)
       . rename_i w v7 i7 v8 i8 y2
         rw[if_neg w,if_neg (λh=>y2 (by
           have:=mt (AJ ra).mp (Xa.mpr h.1);lia))]at q
         exact q _ T5
   . rw[decide_eq_false h0]
     rw[if_neg h0]at q;k_few;exact q _ T3
theorem D_{a:Rat}(h:dy a b xs)(c:gO b.den 47 xs)(h1:a=1) : Cm 100 (ai a b xs j):=by
 subst h1;obtain⟨B,hB,hd,bB,hx⟩:=c;have hov:=(J_ h.ok hB hd h.h1 (λx hx'=>let ⟨t,e,_⟩:=hx x hx';⟨t,e⟩) j).1
 have e:B*(((1:Rat).den:Int))^cV 1 b xs j=B:=by
  have:((1:Rat).den:Int)=1:=rfl;rw[this,Int.one_pow,Qh]
 rw[e]at hov;have hp:=h.hp.at h.ok.a0 h.ok.b0 j;refine⟨B,hB,bB.mono ⋯,λx hx'=>?_⟩;obtain⟨t,e,bt⟩:=IX (l:=0) hB bB (hov x hx') (hp.nn x hx') (Wk (hp.lt x hx'));exact⟨t,e,bt.mono ⋯⟩
theorem zrL(a b:Rat)(xs:.a):pN a b xs=iC a b xs:=by
 unfold pN iC
 by_cases z:0∈xs
 ·rw[if_pos z,if_pos z]
  by_cases y:(aj xs).length=1
  ·rw[if_pos y];unfold dW;rw[if_pos y]
  ·rw[if_neg y]
 ·rw[if_neg z,if_neg z]
theorem zCA{o:Option String}{w:.am}(ho:o=none \/ ∃w,o=some w/\gT w)(hw:gT w)(q:Q (.bl (decide (o=some w))) H):jo K (.str (wB w)) (mr o) H Q:=by
 rcases ho with rfl | ⟨v,rfl,hv⟩
 ·exact nu (d:=.str (wB w)) (e:=.none) .aY (nT.mpr rfl) (Bl w) ⋯ (by rw[show wP (.str (wB w)) .none=decide ((none:Option String)=some w) by rw[wP]<;>simp];exact q)
 ·refine ju _ _ _ ?_ q
  rcases hv with rfl | rfl | rfl<;>rcases hw with rfl | rfl | rfl<;>rw[wP]<;>decide
theorem Gb{a:Rat}(B:dy a b xs)(c47:gO b.den 47 xs)(h4:xs.length<=4)(cx:Cm 20000 .B)(b0:af 20000 (aE a b xs i))(c6:r<=30)(eK:g<=40):JH a b (aE a b xs i) .B r g:=by
 have l1:1<=(ai a b xs i).length:=by rw[bS];exact B.h1
 have l4:(ai a b xs i).length<=4:=by rw[bS];exact h4
 have pk:=B.hp.at B.ok.a0 B.ok.b0 i;have fg:=FC l4 c6 eK;have far:=λk (hk:k<=160)=>Ii (i:=0) (k:=k) B.ok l1 l4 pk cx ()
 refine⟨B.ok,l1,l4,pk,c6,λ_=>cx.mono ⋯,λ_ e=>D_ B c47 e,eK,b0.mono ⋯,λ_ t ht=>?_,λ_ t ht=>?_,λ_=>?_⟩
 ·exact(lP (far (r*(aj .B).length+t) ()) λy hy=>wH _ hy).mono ⋯
 ·exact(b0.add ((far (r*(aj .B).length+t) ()).eH .bH)).mono ⋯
 ·exact((far (r*(aj .B).length) ()).eH .bH).mono ⋯
inductive ZL(K:wa)(v u t:V)(H:Hp)(Q:VK)(E:XK):Prop|v{w:.am}(i1:.bo)(i2:Is K H u (TN S))(i3:Is K H t (.list (bL W Y D w)))(B:dy U Z S)(c:gO Z.den 47 S)(h4:S.length<=4)(T:dU 20000 S.length W Y D w)(qt:gR U Z S W Y D w->Rq H Q .cJ)(qf:¬ gR U Z S W Y D w->Rq H Q .cn)
theorem zu2(T:.o):pc P w base T.MV 9 ZL:=by
 exists T.MV,["_law_rule","_law_phases","_law_paper_here","_law_hour","_law_row","_law_stand_here"],"c3",(ak (ay 3 jp .aA)
     (ak (fi vj rfl (fT (fN fK .au fW (fE .cs))) (cC (i:=4) jp rfl .s) (ak (aY (PW.pt (fI (iD K hu (qi 4) .ak) (g6 (iD K hu (qi 4) .X)))) .bI bE)
     (ak (ay 5 jp (ao (JI T) hr (by exact(@ae _ _ _ _ _ .C (@ae _ _ _ _ _ .ak (@ae _ _ _ _ _ .X (@ae _ _ _ _ _ (qi 4) (@ae _ _ _ _ _ (qi 4) ag gj) gj) bM) bM) bM))))
     (ak (aY (dB tY .cI gD .cG) .bI bE)
     (av (fQ .cI (gZ (n:=2) rfl (dg (cC (i:=3) jp rfl .s) (dg (cC (i:=1) jp rfl .s) gQ)))))))))
     (av (aA (e_ (ji K hu (eI (cB ck .au .cs .J)) .ak) (e_ (ji K hu (eI (cB ck .au .cs .J)) .X) (gL (ji K hu (eI (cB ck .au .cs .J)) (ao (zoc T) hr .cl)))))))))
 obtain@⟨ra,rb,xs,ps,hl,yl,wd,hr',hx',hq',B,c47,h4,TP,qt,qf⟩:=h;have bC:=TP.bC;o_head dj (r:=0) rfl rfl .aJ;have hq1:Is K H1 x2 (.list (ps.map aV.d++[gq hl yl wd])):=hq'.by S1;o_head iE hq1 (λl2 H2 us2 n2 S2 e2 t2=>?_);rw[Ur]at t2;have T2:=S1.trans S2;have hul:=t2.length;rw[wn]at hul;o_head ow (.of e2) (λj σ H'=>∃(vh vp:V)(o4 o5:.bD)(k:Nat),σ = [some x0,some vp,some x2,some vh,o4,o5]/\au H2 H'/\Is K H' vh (N (aE ra rb xs k))/\Is K H' vp (TN (ai ra rb xs k))/\(dJ ra rb xs 0 ps hl yl ↔ dJ ra rb xs k (ps.drop j) hl yl)) ⟨v1,x1,_,_,0,rfl,λ_ _ h=>h,i1.by S2,hx'.by T2,XJ⟩ (λj σ H' _ h=>by obtain⟨_,_,_,_,_,_,S,_⟩:=h;exact .of (S _ _ e2)) ?_ ?_
 . rintro j x σ H3 hx hz;obtain⟨vh,vp,o4,o5,k,rfl,S3,ih,ip,hk⟩:=hz
   obtain⟨hi,ix⟩:=kl t2 hx;rw[wn]at hi;have ix3:=ix.by S3;rw[wb,wA,we hi]at ix3;have ix3:Is K H3 x (.tuple [N ps[j].h,TN ps[j].xs,.int (ps[j].r:Int),.int (ps[j].g:Int)]):=ix3;have te:=TP.rows _ (vF hi);have TT3:=T2.trans S3;have hr3:=hr'.by TT3;have fst:=λf=>(dJ.first (a:=ra) (b:=rb) (xs:=xs) (i:=k) (ps:=ps) (h:=hl) (ys:=yl) (j:=j) () f)
   rw[ou hi,nP hi]at fst;o_head aD (j:=0) ix3 rfl .cT;have bh:=te.bh;k_few
   . rename_i z
     exact qf (λf=>z (fst (hk.mp f.1)).1) H3 TT3
   rename_i hk1;refine aD (j:=1) ix3 rfl (λv5 i5=>?_);o_head PY (show Is K H3 v5 (TN ps[j].xs)from i5) ip ?_
   by_cases hk2:ps[j].xs=ai ra rb xs k
   case neg =>
     rw[decide_eq_false hk2];k_few;exact qf (λf=>hk2 (fst (hk.mp f.1)).2) H3 TT3
   rw[decide_eq_true hk2];have nx:=λgo=>(dJ.next (a:=ra) (b:=rb) (xs:=xs) (h:=hl) (ys:=yl) hi hk1 hk2 go)
   have gos:=λf=>(dJ.pI (a:=ra) (b:=rb) (xs:=xs) (i:=k) (h:=hl) (ys:=yl) hi f)
   have c0:=te.cm;have b0:=te.bh;have c6:=te.c6;have eK:=te.eK;rw[hk2]at c0;rw[hk1]at b0;unfold b_ at nx;generalize ps[j].r=r at *;generalize ps[j].g=g at *;have so:=Gb B c47 h4 c0 b0 c6 eK;o_head aD (j:=2) ix3 rfl .cU;rw[cj.mp i6];o_head aD (j:=3) ix3 rfl (λv7 i7=>?_);rw[cj.mp i7];o_head zmn.v rfl rfl hr3 ih ip so (λng H8 S8=>?_) (λgo v8 H8 S8 i8=>?_)
   . k_few
     exact qf (λf=>ng (gos (hk.mp f.1))) H8 (TT3.trans S8)
   . have i8:Is K H8 v8 (.tuple [N (aE ra rb xs (k+(r*(aj (ai ra rb xs k)).length+g))),TN (ai ra rb xs (k+(r*(aj (ai ra rb xs k)).length+g)))]):=by
       unfold tT at i8;rw[kf,dS]at i8;exact i8
     obtain⟨a8,us8,rfl,s8,t8⟩:=cA.mp i8;k_few
     . rename_i z
       cases z
     refine mY i8 rfl (λus t=>?_);obtain⟨v9,r1,rfl,i9,t⟩:=cP.mp t;obtain⟨v10,r2,rfl,i10,t⟩:=cP.mp t;rw[fO.mp t];k_few;exact⟨v9,v10,_,_,_,rfl,S3.trans S8,i9,i10,hk.trans (nx go)⟩
 . rintro σ H3 hz;obtain⟨vh,vp,o4,o5,k,rfl,S3,ih,ip,hk⟩:=hz
   rw[hul,xl]at hk;have hk:dJ ra rb xs 0 ps hl yl ↔ hl=aE ra rb xs k/\yl=ai ra rb xs k:=hk;have TT3:=T2.trans S3;have hq3:Is K H3 x2 (.list (ps.map aV.d++[gq hl yl wd])):=hq1.by .bL;have bh:=TP.bh;o_head jW hq3 .cT;have i4:Is K H3 v4 (.tuple [N hl,TN yl,.str (wB wd)]):=i4;o_head aD (j:=0) i4 rfl (λv5 i5=>?_);k_few
   . rename_i y1
     refine jW hq3 .cU;have i6:Is K H3 v6 (.tuple [N hl,TN yl,.str (wB wd)]):=i6;o_head aD (j:=1) i6 rfl (λv7 i7=>?_);o_head B6 (show Is K H3 v7 (TN yl)from i7) ip ?_
     by_cases y2:yl=ai ra rb xs k
     case neg =>
       rw[decide_eq_false y2];k_few;exact qf (λf=>y2 (hk.mp f.1).2) H3 TT3
     rw[decide_eq_true y2];have ft:=hk.mpr ⟨y1,y2⟩;have cy:Cm 20000 (ai ra rb xs k):=by rw[<- y2];exact TP.cm
     have lk:=bS ra rb xs k;have x1':=B.h1;o_head jW hq3 (λv8 i8=>?_);have i8:Is K H3 v8 (.tuple [N hl,TN yl,.str (wB wd)]):=i8;o_head aD (j:=2) i8 rfl (λv9 i9=>?_);rw[cN.mp i9];o_head znY.v (hr'.by TT3) ip B.ok () () cy ⋯ (λH10 S10=>?_);rw[zrL,<- y2];refine zCA Kg TP.wd ?_
     by_cases wz:iC ra rb yl=some wd
     . rw[decide_eq_true wz]
       exact qt ⟨ft,wz⟩ H10 (TT3.trans S10)
     . rw[decide_eq_false wz]
       exact qf (λf=>wz f.2) H10 (TT3.trans S10)
   . rename_i y1
     exact qf (λf=>y1 (hk.mp f.1).1) H3 TT3
inductive PF(K:wa)(v:V)(H:Hp)(Q:VK)(E:XK):Prop|v(h:Is K H v (bG U Z S))(ok:dy U Z S)(qe:yy U Z S->Rq H Q .bX)(q:∀l W es Y D G,ml U Z S es Y D->H l=none->au H W->W l=some (.lst G)->ah K W G (jV U Z S es Y D)->Q .az W)
theorem zsB(T:.o):kw P w base T.My 14 PF:=by
 exists T.My,["_law_swarm","_law_found"],"c1",(ak (ay 1 jp gD)
     (ak (zDy (tb:=λW=>o_ (G8 (Jm K a) W (mi (jM 0) sD)) (kj 1)) (th:=o_ (tC .bX) (kj 1)) rfl rfl rfl T.NN (λW pn E' hx=>by exact(av (ay 1 jp (zBn (zvj T) (hr.mono ⋯) rfl T.ze.g T.ze.F.kp T.ze.b hx .ck)))) (λpn ex oe=>by exact(av (ay 1 jp gD))))
     (av (aA .X))))
 obtain@⟨ra,rb,xs,hw,ok,qe,q⟩:=h;o_head zDo (λσ' C o H'=>σ'=[some x0,some .bX]/\C=.ref a.jj/\yy ra rb xs/\au H H') ?_ ?_
 . k_few
   refine zs7 hw ok (λF H' S=>⟨rfl,rfl,F,S⟩) (λl H' es n w us P hl S e t=>?_);k_few;exact q l H' es n w us P hl S e t
 . rintro σ' C o H' hz;obtain⟨rfl,rfl,F,S⟩:=hz
   refine⟨T.aab,?_⟩;k_few;exact qe F H' S
theorem R3{a:Rat}(ok:.aS)(hp:cq xs)(h0:0∈xs)(f:cH a b .aq .aT=true):ai a b xs (aj xs).length=xs ↔ cQ a b .aq .aT=aH xs:=by
 obtain⟨hz,hn,hs,L⟩:=kh (a:=a) (b:=b) hp h0;have L1:=(yw ok L hn f).1;rw[hs]at L1;have v1:=pW L1.pl L1.mU.pw L1.some
 constructor
 ·intro e
  rw[e,<- hz]at v1;exact(Xb v1 (by rw[oW hn])).symm
 ·intro e
  have a1:=JN L1 (bS a b xs _);have a2:=JN L (n:=xs.length) rfl;rw[e]at a1;rw[<- a1,a2]
theorem A9{a:Rat}(ok:.aS)(hp:cq xs)(h0:0∈xs)(f:cH a b .aq .aT=true)(r:cQ a b .aq .aT=aH xs) :
  (∀k,ai a b xs (k+(aj xs).length)=ai a b xs k) /\ ∀k,(cE a b .bW).length=1:=by
 obtain⟨hz,hn,hs,L⟩:=kh (a:=a) (b:=b) hp h0;have hb:=(R3 ok hp h0 f).mpr r;have W:=(yw ok L hn f).2.1;rw[hs]at W
 have per:∀k,ai a b xs (k+(aj xs).length)=ai a b xs k:=λk=>by
  rw[Xw,<- dS,hb]
 refine⟨per,λk=>?_⟩
 have hv:1<=(aj xs).length:=by
  have:=congrArg xC hz;rw[wM]at this;simp at this;lia
 induction k using Nat.strongRecOn with
 | ind k ih =>
  rcases wJ k (aj xs).length with z | z
  ·rw[W k z];rfl
  ·have:=ih (k-(aj xs).length) ()
   rw[<- per,Nat.sub_add_cancel z]at this;exact this
theorem tP{a:Rat}{w:.am}(h:dW a b xs=some w):(w="one"/\(aj xs).length=1)\/((aj xs).length≠1/\cH a b .aq .aT=true/\((w="rests"/\cQ a b .aq .aT=aH xs)\/(w="drawn"/\cQ a b .aq .aT≠aH xs/\a<1/\jN a b .aq=true))):=by
 unfold dW at h
 split at h
 ·rename_i z
  exact .inl ⟨(w6 h).symm,z⟩
 ·rename_i z
  split at h
  ·rename_i y
   refine .inr ⟨z,y,?_⟩
   split at h
   ·rename_i u
    exact .inl ⟨(w6 h).symm,u⟩
   ·rename_i u
    split at h
    ·rename_i t
     exact .inr ⟨(w6 h).symm,u,t⟩
    ·cases h
  ·cases h
theorem R4{a:Rat}(a0:0<a)(b0:0<=b)(h1:.al)(hp:cq xs)(w:(cE a b xs).length=1):(aj (dH a b xs)).length=(aj xs).length:=by
 obtain⟨v,J⟩:=yF a0 b0 h1 hp.nn hp.lt;have e:=congrArg xC J.new;rw[jY,wM,Wg,jY,vL]at e;have v1:=J.v1;have vm:=J.vm;have:¬ 1<v:=λz=>by have:=J.more.mpr z;lia
 lia
theorem Gf{a b:Rat}(a0:0<a)(b0:0<=b){xs:.a}(h1:.al)(hp:cq xs)(wv:∀k,(cE a b .bW).length=1):∀k,(aj .bW).length=(aj xs).length
 | 0=>rfl
 | k+1=>(R4 a0 b0 (by rw[bS];exact h1) (hp.at a0 b0 k) (wv k)).trans (Gf a0 b0 h1 hp wv k)
theorem SS{a:Rat}(ok:.aS)(h1:.al)(h8:xs.length<=8)(hp:cq xs)(h0:0∈xs)(f:cH a b .aq .aT=true)(ha:a<1)(d:jN a b .aq=true):(∀k,cK a b .aq .aT k=true) /\ ∀k,(cE a b .bW).length=1:=by
 obtain⟨hz,hn,hs,L⟩:=kh (a:=a) (b:=b) hp h0;have sz:=oU h1 h8
 have fr:∀k,cK a b .aq .aT k=true:=λk=>by
  induction k with
  | zero=>unfold cK;rw[lH];exact f
  | succ k ih =>
   unfold cK at *;rw[<- p_];exact zy5 ok sz (by rw[cu];exact hn) ha d ih
 refine⟨fr,λk=>?_⟩;have hv:0<(aG xs).length:=by lia
 have:=Ux ok L hn (iB xs) (k:=k / (aG xs).length) (t:=k % (aG xs).length) (λj _=>fr j) (Qx _ hv);rw[xf,uO]at this;rw[this];rfl
theorem zCs{a:Rat}(a0:0<a)(hl:.ag)(h:aX a b ns 1 xs=aX a b ns 1 ys):xs=ys:=by
 refine jd hl λi hi=>?_
 have e:=congrArg (λl=>l.getD i 0) h;simp only[gx hi,gx (show i<ys.length by lia),nR]at e;have e:a^ns.sum.toNat*xs.getD i 0+(cD a b ns).getD i 0=a^ns.sum.toNat*ys.getD i 0+(cD a b ns).getD i 0:=e;have hF:=oG a0 ns.sum.toNat;generalize a^ns.sum.toNat=F at *;have k2:F*(xs.getD i 0-ys.getD i 0)=0:=by grind
 rcases Qv.mp k2 with k | k
 ·rw[k]at hF;exact absurd hF ⋯
 ·grind
theorem Ri{a b:Rat}(a0:0<a){ns:.p}{xs:.a} : ∀k,aX a b ns (k+1) xs=aX a b ns k xs->aX a b ns 1 xs=xs
 | 0,h=>by rw[lH]at h;exact h
 | k+1,h=>Ri a0 k (zCs (b:=b) a0 (ns:=ns) (by rw[cu,cu]) (by rw[p_,p_];exact h))
theorem zCu{a:Rat}(ok:.aS)(h1:.al)(h8:xs.length<=8)(hp:cq xs)(h0:0∈xs){s s':.am}(w:dW a b xs=some s)(w':dW a b .bW=some s'):s=s'/\(aj .bW).length=(aj xs).length:=by
 have a0:=ok.a0;have b0:=ok.b0;have hpk:=hp.at a0 b0 k;have vk:=lu (xs:=ai a b xs k) (by rw[bS];exact h1);rcases tP w with⟨rfl,v1⟩ | ⟨v1,f,C⟩
 ·have:=AE a0 b0 h1 hp k
  have e:(aj .bW).length=1:=by lia
  unfold dW at w';rw[if_pos e]at w';exact⟨w6 w',by lia⟩
 ·obtain⟨hz,hn,hs,L⟩:=kh (a:=a) (b:=b) hp h0
  rcases C with⟨rfl,r⟩ | ⟨rfl,r,ha,d⟩
  ·obtain⟨per,wv⟩:=A9 ok hp h0 f r
   have ev:=Gf a0 b0 h1 hp wv k
   have h0k:0∈ai a b xs k:=by
    rw[<- per k];exact hp.zero a0 b0 h1 ()
   rcases tP w' with⟨_,z⟩ | ⟨_,fk,⟨rfl,_⟩ | ⟨_,z,_⟩⟩
   ·lia
   ·exact⟨rfl,ev⟩
   ·exact absurd ((R3 ok hpk h0k fk).mp (by rw[dS,ev,per])) z
  ·obtain⟨fr,wv⟩:=SS ok h1 h8 hp h0 f ha d
   have ev:=Gf a0 b0 h1 hp wv k;rcases tP w' with⟨_,z⟩ | ⟨_,fk,⟨_,z⟩ | ⟨rfl,_⟩⟩
   ·lia
   ·have h0k:0∈ai a b xs k:=by
     rcases VC k with e | e
     ·rw[e];exact h0
     ·exact hp.zero a0 b0 h1 e
    obtain⟨per,_⟩:=A9 ok hpk h0k fk z;have hv:=lu h1;obtain⟨L1,_⟩:=ky ok L hn (iB xs) k (λj _=>fr j);obtain⟨L2,_⟩:=ky ok L hn (iB xs) (k+1) (λj _=>fr j);have u1:=pW L1.pl L1.mU.pw L1.some;have u2:=pW L2.pl L2.mU.pw L2.some;rw[hs]at u1 u2;obtain⟨j,hj⟩:∃j,k*(aj xs).length=k+j:=⟨k*(aj xs).length-k,by have:=qJ k hv;lia⟩
    have e:ai a b xs ((k+1)*(aj xs).length)=ai a b xs (k*(aj xs).length):=by
     have:=per j;rw[ev,dS,dS]at this;rw[Vi,hj,VL];exact this
    rw[e,u1]at u2;have e2:=Xb u2 (by rw[cu,cu]);have e3:=Ri a0 k e2.symm;rw[oz hn (iB xs)]at e3;exact absurd e3 r
   ·exact⟨rfl,ev⟩
theorem zAS{a:Rat}(a0:0<a)(b0:0<=b)(h1:.al)(hp:cq xs)(v1:(aj xs).length=1):(cE a b xs).length=1:=by
 have ws:=R1 (a:=a) (b:=b) a0 b0 h1 hp;obtain⟨v,J⟩:=yF a0 b0 h1 hp.nn hp.lt;have vm:=J.vm;have:¬ 1<(cE a b xs).length:=λz=>by have:=J.more.mp z;lia
 lia
theorem zwT{a:Rat}(ok:.aS)(h1:.al)(h8:xs.length<=8)(hp:cq xs)(h0:0∈xs){s:.am}(w:dW a b xs=some s):∀k,(cE a b .bW).length=1:=by
 rcases tP w with⟨_,v1⟩ | ⟨v1,f,⟨_,r⟩ | ⟨_,r,ha,d⟩⟩
 ·intro k
  have:=AE ok.a0 ok.b0 h1 hp k;have:=lu (xs:=ai a b xs k) (by rw[bS];exact h1);exact zAS ok.a0 ok.b0 (by rw[bS];exact h1) (hp.at ok.a0 ok.b0 k) ()
 ·exact(A9 ok hp h0 f r).2
 ·exact(SS ok h1 h8 hp h0 f ha d).2
theorem CC{a b:Rat}(a0:0<a)(b0:0<=b){xs:.a}(h1:.al)(hp:cq xs):∀k,(∀i,i<k->(cE a b .B).length=1)->(aj .bW).length=(aj xs).length
 | 0,_=>rfl
 | k+1,wv=>(R4 a0 b0 (by rw[bS];exact h1) (hp.at a0 b0 k) (wv k ())).trans (CC a0 b0 h1 hp k λi hi=>wv i ())
theorem A7{a b:Rat}(ok:.aS){xs:.a}(hp:cq xs)(h0:0∈xs):∀r,(∀i,i<r*(aj xs).length->(cE a b .B).length=1)->fC a b xs r
 | 0,_=>λj hj=>by lia
 | r+1,wv=>λj hj=>by
  have ih:=A7 ok hp h0 r λi hi=>wv i (by rw[Vi];lia)
  rcases wJ j r with z | z
  ·exact ih j z
  ·have:j=r:=by lia
   subst this;obtain⟨hz,hn,hs,L⟩:=kh (a:=a) (b:=b) hp h0;obtain⟨Lk,_⟩:=ky ok L hn (iB xs) j ih;cases e:cK a b .aq .aT j with
   | true=>rfl
   | false =>
    obtain⟨t,ht,hw⟩:=zr7 ok Lk (by rw[cu];exact hn) e;rw[dS,hs]at hw;rw[hs]at ht;rw[wv _ (by rw[Vi];lia)]at hw;lia
theorem X_{a:Rat}(ok:.aS)(hp:cq xs)(h0:0∈xs)(f:fC a b xs r)(hi:i<r*(aj xs).length):(cE a b .B).length=1:=by
 obtain⟨hz,hn,hs,L⟩:=kh (a:=a) (b:=b) hp h0;have hv:0<(aG xs).length:=by lia
 rw[<- hs]at hi;have hq:i / (aG xs).length<r:=(Nat.div_lt_iff_lt_mul hv).mpr hi;have:=Ux ok L hn (iB xs) (k:=i / (aG xs).length) (t:=i % (aG xs).length) (λj hj=>f j ()) (Qx _ hv);rw[xf,uO]at this;rw[this];rfl
theorem cX.le{a:Rat}{q:Nat}(g:cX a b xs r)(h:q<=r):cX a b xs q:=by
 rcases g with e | ⟨z,f⟩
 ·exact .inl ()
 ·exact .inr ⟨z,λk hk=>f k ()⟩
theorem cX.shift{a:Rat}(ok:.aS)(h1:.al)(hp:cq xs){q:Nat}(g:cX a b xs r)(h:q<=r):cX a b (ai a b xs (q*(aj xs).length)) (r-q)/\(aj (ai a b xs (q*(aj xs).length))).length=(aj xs).length:=by
 rcases g with e | ⟨z,f⟩
 ·have:q=0:=by lia
  subst this;rw[VD];exact⟨.inl (),rfl⟩
 ·have hm:=Wb (aj xs).length h
  have ev:=CC ok.a0 ok.b0 h1 hp (q*(aj xs).length) λi hi=>X_ ok hp z f ()
  refine⟨.inr ⟨?_,A7 ok (hp.at ok.a0 ok.b0 _) ?_ _ λi hi=>?_⟩,ev⟩
  ·rcases VC (q*(aj xs).length)with e | e
   ·rw[e];exact z
   ·exact hp.zero ok.a0 ok.b0 h1 e
  ·rcases VC (q*(aj xs).length)with e | e
   ·rw[e];exact z
   ·exact hp.zero ok.a0 ok.b0 h1 e
  ·rw[ev,Nat.sub_mul]at hi
   rw[dS];exact X_ ok hp z f ()
theorem zzr{a:Rat}(ok:.aS)(h1:.al)(h8:xs.length<=8)(hp:cq xs)(h0:0∈xs){s:.am}(w:dW a b xs=some s)(r:Nat):cX a b xs r/\dW a b .bS=some s:=by
 have wv:=zwT ok h1 h8 hp h0 w;have f:=A7 ok hp h0 r λi _=>wv i
 have f1:=A7 ok hp h0 (r+1) λi _=>wv i
 refine⟨.inr ⟨h0,f⟩,?_⟩;have ev:=CC ok.a0 ok.b0 h1 hp .Q λi _=>wv i
 rcases tP w with⟨rfl,v1⟩ | ⟨v1,f0,⟨rfl,y⟩ | ⟨rfl,y,ha,d⟩⟩
 ·unfold dW
  rw[if_pos ()]
 ·have per:=(A9 ok hp h0 f0 y).1
  have:ai a b xs .Q=xs:=by
   induction r with
   | zero=>rw[VD];rfl
   | succ r ih=>rw[Vi,per];exact ih (λj hj=>f j ()) (λj hj=>f1 j ()) (CC ok.a0 ok.b0 h1 hp _ λi _=>wv i)
  rw[this];exact w
 ·obtain⟨hz,hn,hs,L⟩:=kh (a:=a) (b:=b) hp h0
  obtain⟨Lr,_⟩:=ky ok L hn (iB xs) r f;have s1:=zsu Lr.pl Lr.mU.pw Lr.some (by rw[Lr.len]) (iB xs) Lr.size;have u1:=pW Lr.pl Lr.mU.pw Lr.some;rw[hs]at s1 u1
  have p1:aH .bS=aX a b .aq r .aT:=by
   unfold aH at u1 ⊢;rw[u1,Xc]
  have fr:cH a b (aG .bS) (aH .bS)=true:=by
   rw[s1,p1];exact f1 r ()
  have told:∃s',dW a b .bS=some s':=by
   unfold dW;rw[if_neg (),if_pos fr]
   by_cases q:cQ a b (aG .bS) (aH .bS)=aH .bS
   ·rw[if_pos q];exact⟨_,rfl⟩
   ·rw[if_neg q,if_pos ⟨ha,by rw[s1];exact d⟩];exact⟨_,rfl⟩
  obtain⟨s',w'⟩:=told;rw[w',(zCu ok h1 h8 hp h0 w w').1]
theorem pj.pI{a:Rat}(B:dy a b xs)(h:pj a b xs i r g):cX a b .B r/\r<=30/\g<=40:=by
 rcases h with⟨e0,er,eg⟩ | ⟨i1,_,R⟩
 ·exact⟨.inl er,by lia,by lia⟩
 ·have:=R.gN
  have:=(B.nf i).2;exact⟨.inr ⟨B.hp.zero B.ok.a0 B.ok.b0 B.h1 i1,R.free⟩,R.c6,by lia⟩
theorem Uv{a:Rat}(B:dy a b xs)(h4:xs.length<=4){es:.aD}{w:.am}(P:ml a b xs es n w)(c47:gO b.den 47 xs)(hi:i<=n):af 3500 (aE a b xs i)/\Cm 3500 .B:=by
 have s1:=P.sp.1;have s2:=P.sp.2;have hnf:=B.nf n;obtain⟨k,rfl⟩:=Nat.exists_eq_add_of_le hi;have hg:cV a b xs i<=cV a b xs (i+k):=by rw[rf];lia
 have c:=FH B.ok c47 B.h1 B.hp (i:=0) (k:=i) (l:=11) (by have:(2:Nat)^11=2048:=⋯;lia);rw[xk]at c;have c:Cm 3500 (aE a b xs i::ai a b xs i):=c.mono ();exact⟨c.eH .bH,lP c λy hy=>wH _ hy⟩
theorem dJ.two{a:Rat}{e f:aV}{tail:.cS}(e1:e.h=aE a b xs i)(e2:e.xs=ai a b xs i)(g1:cX a b .B e.r)(f1:f.h=aE a b xs (b_ a b xs i e.r e.g))(f2:f.xs=ai a b xs (b_ a b xs i e.r e.g))(g2:cX a b (ai a b xs (b_ a b xs i e.r e.g)) f.r):dJ a b xs i (e::f::tail) h ys ↔ dJ a b xs (b_ a b xs (b_ a b xs i e.r e.g) f.r f.g) tail h ys :=
 ⟨λz=>z.2.2.2.2.2.2,λz=>⟨e1,e2,g1,f1,f2,g2,z⟩⟩
theorem Cn:∀ps:List aV,aT (ps.map aV.d)=true
 | []=>rfl
 | e::ps=>by rw[vi,aT,Cn ps,show c_ (aV.d e)=true by rw[aV.d,c_,aT,aT,aT,aT,aT,ee,d6];rfl];rfl
theorem RO(a b:Rat)(xs:.a)(es:.aD)(n:Nat)(w:.am):jV a b xs es n w=bL (es.map λe=>⟨aE a b xs e.1,ai a b xs e.1,e.2.1,e.2.2⟩) (aE a b xs n) (ai a b xs n) w:=by
 unfold jV bL;rw[VB];rfl
theorem zFz(h:Rat)(ys:.a):c_ (.tuple [N h,TN ys])=true:=by rw[c_,aT,aT,aT,ee,d6];rfl
theorem gk.idx{a b:Rat}{xs:.a} : ∀{es:.aD}{i n:Nat},gk a b xs i es n->∀j,j<=es.length->kI es n j<=n
 | [],i,n,h,j,hj=>by
  have:j=0:=by simpa using hj
  subst this;exact wu _
 | e::es,i,n,h,j,hj=>by
  have hn:=gk.idx h.2.2;cases j with
  | zero =>
   have h0:=hn 0 (Vh _);rw[gk.first h.2.2]at h0;unfold b_ at h0
   show e.1<=n
   rw[h.1];lia
  | succ j=>exact hn j (by simpa using hj)
theorem zDa{a:Rat}(B:dy a b xs){q s:Nat}(go:cX a b .B r)(hq:q<=r)(hs:s<=g)(h:s=0\/q=r):cX a b (ai a b xs (b_ a b xs i q s)) (r-q)/\b_ a b xs (b_ a b xs i q s) (r-q) (g-s)=b_ a b xs i r g:=by
 rcases h with rfl | rfl
 ·obtain⟨g1,g2⟩:=go.shift B.ok (by rw[bS];exact B.h1) (B.hp.at B.ok.a0 B.ok.b0 i) hq
  rw[dS]at g1 g2;have hm:=Wb (aj .B).length hq;refine⟨g1,?_⟩;unfold b_;rw[xh,g2,Nat.sub_mul];lia
 ·refine⟨.inl (),?_⟩
  unfold b_;rw[W6,VD];lia
theorem zwO{g:TG}{tb:TS}{D:df}{σ : L2.St}{a:wf}{xs:.x}(hx:aF K H a xs)(Pv:Nat->L2.St->Hp->Prop)(h0:Pv 0 σ H)(hl:∀i σ H,i<=xs.length->Pv i σ H->aF K H a xs)(hs:∀i x σ H (D':df),xs[i]? = some x->Pv i σ H->(∀σ2 H2,Pv (i+1) σ2 H2->D'.nx σ2 H2)->g x σ H λσ2 H2=>tb D' σ2 H2)(hd:∀σ H,Pv xs.length σ H->D.nx σ H):B8 K g tb D σ .bu H :=
 ow hx Pv h0 hl (λi x σ H e hp=>hs i x σ H _ e hp (λ_ _ h=>h)) hd
inductive zqW(K:wa)(u v s:V)(H:Hp)(Q:VK)(E:XK):Prop|v{G:Nat}{k:Int}{es:.aD}{w:.am}(e0:u=.ref U)(e2:s=.ref Z)(hp:bA H U k)(hk:k<=800000)(hne:Z≠U)(ir:Is K H v (R S W))(e:H Z=some (.lst Y))(t:ah K H Y (jV S W D es G w))(B:dy S W D)(c47:gO W.den 47 D)(h4:D.length<=4)(P:ml S W D es G w)(q:∀l us' I ps' h' ys',Exc U H I->aW H I->bA I U (k+100)->I l=some (.lst us')->l≠U->ah K I us' (bL ps' h' ys' w)->dU 9200 D.length ps' h' ys' w->1<=ps'.length/\ps'.length<=30->gR S W D ps' h' ys' w->Q .az I)
theorem zwl(T:.o):pc P w base T.Nq 9 zqW:=by
 exists T.Nq,["_law_pen_here","_law_rule","_law_paper_here","_law_found","_law_hour","_law_phases","_law_rounds","_law_glows","_law_first","_law_some","_law_stand_here","_law_word_here","_law_more"],"c3",(ak (ay 3 jp (cZ ag))
     (ak (aY (dB kS (cT K T.h0t .cR) ar .cG) (av (aA (gu .R rfl T.h0m fS .cR))) bE)
     (ak (fi vj rfl (fT (fN fK .au fW (fE .cs))) (gZ (n:=4) rfl (dg (cC (i:=4) jp rfl .s) (dg (cC (i:=5) jp rfl .s) (dg (cC (i:=6) jp rfl .s) (dg (cC (i:=7) jp rfl .s) gQ))))) (ak (ay 8 jp (ao (dN T) hr (ae .C (ae (az cv (pv 6) ar) ag))))
     (ak (ay 9 jp (ao (dN T) hr (ae .C (ae (az cv (pv 7) ar) ag))))
     (ak (aY (dX K hu .aE ar) (av (ay 9 jp ar)) (av (ay 8 jp (pv 6))))
     (ak (ay 10 jp (ao (JI T) hr (by exact(@ae _ _ _ _ _ .X (@ae _ _ _ _ _ .cL (@ae _ _ _ _ _ .cI (@ae _ _ _ _ _ (pv 8) (@ae _ _ _ _ _ (pv 9) ag bM) bM) bM) bM) bM))))
     (ak (jP (jD vP vV vW jk .ak (ae (aU (by exact(@ae _ _ _ _ _ .cL (@ae _ _ _ _ _ .cI (@ae _ _ _ _ _ (pv 8) (@ae _ _ _ _ _ (pv 9) ag bM) bM) bM) bM))) ag)))
     (av (jP (jD vP vV vW jk .ak (ae (aU (by exact(@ae _ _ _ _ _ (qi 10) (@ae _ _ _ _ _ (qi 10) (@ae _ _ _ _ _ (az fL (pv 6) (pv 8)) (@ae _ _ _ _ _ (az fL (pv 7) (pv 9)) ag AU) AU) gj) gj))) ag))))))))))
     (ak (fQ (cB ck .au .cs .J) (gZ (n:=3) rfl (dg (cC (i:=4) jp rfl .s) (dg (cC (i:=5) jp rfl .s) (dg (cC (i:=11) jp rfl .s) gQ)))))
     (ak (ay 12 jp (ao (dN T) hr (ae .C (ae (cB ck (cZ (ae ar .z)) .aE .J) ag))))
     (ak (aY (PW.pt (mB (dX K hu (pv 11) fA) (lY (dB (show bV _ (vR .NotIn) (sT K)from GR hu) .aA .cI .af)))) (av (ay 12 jp ar)) bE)
     (ak (ay 10 jp (ao (JI T) hr (by exact(@ae _ _ _ _ _ .X (@ae _ _ _ _ _ .cL (@ae _ _ _ _ _ .cI (@ae _ _ _ _ _ (pv 12) (@ae _ _ _ _ _ ar ag rL) bM) bM) bM) bM))))
     (av (aA (az cv .ak (cZ (ae (aU (by exact(@ae _ _ _ _ _ .cL (@ae _ _ _ _ _ .cI (@ae _ _ _ _ _ (pv 12) (@ae _ _ _ _ _ ar ag rL) bM) bM) bM))) (ae (aU (ae (qi 10) (ae (qi 10) (q1 11)))) ag)))))))))))))
 obtain@⟨p,lp,ra,rb,us,xs,n,k,es,wd,rfl,rfl,hp,hk,hne,ir,e0,t0,B,c47,h4,P,q⟩:=h;have hul:=t0.length;have hat:=P.walk.at;have hz0:=P.walk.first;have bC:=P.bC;have cmi:=λi (hi:i<=n)=>Uv B h4 P c47 hi
 rw[show(jV ra rb xs es n wd).length=es.length+1 by simp[jV]]at hul;o_head c9 ∅ (λlf H1 n1 S1 e1=>?_);o_head eP (.of (S1 _ _ e0)) ?_;k_few
 . exfalso
   lia
 have il:Is K H1 .bU (.list (es.map (ny ra rb xs)++[sY ra rb xs n wd])):=bY.mpr ⟨lp,us,rfl,.of (S1 _ _ e0),ah.same S1 _ _ t0⟩;refine iE il (λl2 H2 us2 n2 S2 e2 t2=>?_);rw[tS,Xc]at t2;have hul2:=t2.length;rw[wn]at hul2
 have imm2:aT (es.map (ny ra rb xs))=true:=by
   have:=Cn (es.map λe=>⟨aE ra rb xs e.1,ai ra rb xs e.1,e.2.1,e.2.2⟩);rw[VB]at this;exact this
 have mC:lf≠p:=bA.ne n1 hp;have n2p:l2≠p:=bA.ne n2 (hp.same S1);have n2f:l2≠lf:=λz=>by rw[z,e1]at n2;cases n2
 have T2:=S1.trans S2;have e2f:=S2 _ _ e1;have hp2:=hp.same T2;have ir2:=ir.by T2;refine zwO (.of e2) (λj σ H'=>∃us' ps' o4 o5 o6 o7 o8 o9 o10,σ = [some .ay,some x1,some .bU,some (.ref lf),o4,o5,o6,o7,o8,o9,o10,none,none]/\(∀b o,b≠p->b≠lf->H2 b=some o->H' b=some o)/\aW H2 H'/\bA H' p (k+3*(j:Int))/\H' lf=some (.lst us')/\ah K H' us' (ps'.map aV.d)/\(∀e∈ps',Tm 4000 xs.length e)/\ps'.length=2*j /\ ∀tail h y,dJ ra rb xs 0 (ps'++tail) h y ↔ dJ ra rb xs (kI es n j) tail h y) ⟨[],[],_,_,_,_,_,_,_,rfl,λ_ _ _ _ h=>h,(au.refl H2).keep,hp2.le (),e2f,.nil,by simp,rfl,λtail h y=>by rw[hz0];exact XJ⟩ (λj σ H' _ h=>by obtain⟨_,_,_,_,_,_,_,_,_,_,E,_⟩:=h;exact .of (E _ _ n2p n2f e2)) ?_ ?_
 . rintro j x σ H3 D' hx ⟨us',ps',o4,o5,o6,o7,o8,o9,o10,rfl,E3,K3,P3,e3,t3,tm3,len3,fi3⟩ hnx
   obtain⟨hi,ix⟩:=kl t2 hx;rw[wn]at hi;obtain⟨q1,ro,q3⟩:=hat j hi;have ix3:=ah.keep K3 _ _ imm2 t2;obtain⟨_,ix3⟩:=kl ix3 hx;rw[wb,wA,we hi]at ix3;have ix3:Is K H3 x (jX (aE ra rb xs es[j].1) (ai ra rb xs es[j].1) es[j].2.1 es[j].2.2):=ix3;have hin:=P.walk.idx (j+1) ();rw[q1]at ix3 ro q3;obtain⟨go,c6,eK⟩:=ro.pI B;generalize es[j].2.1=r at *;generalize es[j].2.2=g at *;have hin0:kI es n j<=n:=P.walk.idx j ();rw[<- q3]at hin;have fi4:∀(e f:aV)(tail:.cS)(h:Rat)(y:.a),dJ ra rb xs (kI es n j) (e::f::tail) h y->True:=λ_ _ _ _ _ _=>trivial
   clear fi4;rw[<- q3]at hnx;generalize kI es n j=i at *;clear q1 q3 ix ro;unfold jX at ix3;have ir3:=ir2.gy K3;refine mY ix3 rfl (λut tt=>?_);obtain⟨vh,w1,rfl,ih,tt⟩:=cP.mp tt;obtain⟨vx,w2,rfl,iv,tt⟩:=cP.mp tt;obtain⟨vr,w3,rfl,jr,tt⟩:=cP.mp tt;obtain⟨vg,w4,rfl,jg,tt⟩:=cP.mp tt;rw[fO.mp tt,cj.mp jr,cj.mp jg];clear tt jr jg ix3;wtm_at "gt";wtm_at "tl";wtm_at "gt";rename_i q Hq q0 q1 Eq Kq Pq s Hs s0 s1 Es Ks Ps;obtain⟨q,rfl⟩:∃q':Nat,q=(q':Int):=⟨q.toNat,by lia⟩;obtain⟨s,rfl⟩:∃s':Nat,s=(s':Int):=⟨s.toNat,by lia⟩;have ci:=cmi i hin0;wtm_at "tl";wtm_at "sq"
   have main:∀(Q' S':Nat)(H6:Hp),Q'<=r->S'<=g->(S'=0\/Q'=r)->Exc p H3 H6->aW H3 H6->bA H6 p (k+3*(j:Int)+1+1+1)->tl_ D' [some .ay,some x1,some .bU,some (.ref lf),some vh,some vx,some (.int (r:Int)),some (.int (g:Int)),some (.int (Q':Int)),some (.int (S':Int)),o10,none,none] H6:=by
     intro Q' S' H6 hQ hS hd E6 K6 P6;have e6:=E6.at mC e3;have ir6:=ir3.gy K6;have ih6:=ih.dw K6 (ee _);have iv6:=iv.dw K6 (d6 _);have hu3:=t3.length;rw[wn,len3]at hu3;wtm_at "tl";k_few;obtain⟨go2,ld⟩:=zDa B go hQ hS hd;refine zmn.v rfl rfl (U:=Q') (Z:=S') ir6 ih6 iv6 (Gb B c47 h4 (ci.2.mono ⋯) (ci.1.mono ⋯) () ()) (λng=>absurd (go.le hQ) ng) (λ_ v8 H8 S8 i8=>?_)
     have i8:Is K H8 v8 (.tuple [N (aE ra rb xs (b_ ra rb xs i Q' S')),TN (ai ra rb xs (b_ ra rb xs i Q' S'))]):=by
       unfold tT at i8;rw[kf,dS]at i8;exact i8
     have hmn:b_ ra rb xs i Q' S'<=n:=by
       have h1:b_ ra rb xs i Q' S'<=b_ ra rb xs i r g:=by rw[<- ld];unfold b_;lia
       lia
     have cm:=cmi _ hmn;generalize hm:b_ ra rb xs i Q' S'=m at *;have hm:=hm.symm;have ih8:=ih6.by S8;have iv8:=iv6.by S8;o_head jh (aF.of (S8 _ _ e6)) ?_;o_head cW (ds:=[N (aE ra rb xs i),TN .Z,.int (Q':Nat),.int (S':Nat)]) ∅ (.cons ih8 (.cons iv8 (.cons .bp (.cons .bp .nil)))) (λv9 H9 S9 i9=>?_);have T9:=S8.trans S9;o_head jm (T9 _ _ e6) () (λHA EA eA=>?_);have KA:=EA.keep (T9 _ _ e6);have i8A:=(i8.by S9).dw KA (zFz _ _);have i9A:=i9.dw KA (sv (aE ra rb xs i) .Z Q' S');o_head jh (aF.of eA) ?_;o_head aD (j:=0) i8A rfl (λv10 i10=>?_);o_head aD (j:=1) i8A rfl (λv11 i11=>?_);o_head cW (ds:=[N (aE ra rb xs m),TN (ai ra rb xs m),.int ((r-Q':Nat):Int),.int ((g-S':Nat):Int)]) ∅ (.cons i10 (.cons i11 (.cons (cj.mpr (by congr 1<;>lia)) (.cons (cj.mpr (by congr 1<;>lia)) .nil)))) (λv12 HB SB i12=>?_);o_head jm (SB _ _ eA) (by rw[wM];simp;lia) (λHC EC eC=>?_);have KC:=EC.keep (SB _ _ eA);k_few;have KAC:=SB.keep.trans KC;have K9C:=KA.trans KAC;refine hnx _ _ ⟨us'++[v9]++[v12],ps'++[⟨aE ra rb xs i,ai ra rb xs i,Q',S'⟩,⟨aE ra rb xs m,ai ra rb xs m,r-Q',g-S'⟩],_,_,_,_,_,_,_,rfl,λb o h1 h2 h=>EC b o h2 (SB b o (EA b o h2 (T9 b o (E6 b o h1 (E3 b o h1 h2 h))))),K3.trans (K6.trans (T9.keep.trans K9C)),?_,eC,?_,λe he=>?_,by rw[wM,len3];simp;lia,λtail h y=>?_⟩
     . obtain⟨a1,b1,c1,ep,p0,p1⟩:=P6.same T9
       exact⟨a1,b1,c1,EC.at (λz=>mC z.symm) (SB _ _ (EA.at (λz=>mC z.symm) ep)),p0,by lia⟩
     . rw[wU,Wr]
       exact(ah.keep (K6.trans (T9.keep.trans K9C)) _ _ (Cn ps') t3).append (.cons (i9A.dw KAC (sv (aE ra rb xs i) .Z Q' S')) (.cons (i12.dw KC (sv (aE ra rb xs m) (ai ra rb xs m) (r-Q') (g-S'))) .nil))
     . rcases vG.mp he with z | z
       . exact tm3 e z
       . simp only[wO,WT,or_false]at z
         rcases z with rfl | rfl
         . exact⟨by rw[bS],ci.2.mono ⋯,ci.1.mono ⋯,show Q'<=30 by lia,show S'<=40 by lia⟩
         . exact⟨by rw[bS],cm.2.mono ⋯,cm.1.mono ⋯,show r-Q'<=30 by lia,show g-S'<=40 by lia⟩
     . rw[Wr,fi3]
       refine(dJ.two (e:=⟨aE ra rb xs i,ai ra rb xs i,Q',S'⟩) (f:=⟨aE ra rb xs m,ai ra rb xs m,r-Q',g-S'⟩) (i:=i) rfl rfl (go.le hQ) ?_ ?_ ?_).trans ?_
       . exact congrArg (aE ra rb xs) hm
       . exact congrArg (ai ra rb xs) hm
       . rw[<- hm];exact go2
       . rw[<- hm,ld];exact XJ
   wtm_at "gt"
   . rename_i z Hz z0 z1 Ez Kz Pz yz
     exact main q 0 Hz () (Vh _) .aI (Eq.trans (Es.trans Ez)) (Kq.trans (Ks.trans Kz)) Pz
   . rename_i z Hz z0 z1 Ez Kz Pz yz
     exact main r s Hz .ax () (.inr rfl) (Eq.trans (Es.trans Ez)) (Kq.trans (Ks.trans Kz)) Pz
 . rintro σ H3 hz;obtain⟨us',ps',o4,o5,o6,o7,o8,o9,o10,rfl,E3,K3,P3,e3,t3,tm3,len3,fi3⟩:=hz
   rw[hul2,zzL]at fi3;rw[hul2]at P3 len3;have nlf:lp≠lf:=λz=>by rw[<- z,e0]at n1;cases n1
   have elp:=E3 _ _ hne nlf (T2 _ _ e0);have imm0:aT (jV ra rb xs es n wd)=true:=by rw[RO];exact jt ..
   have tl3:=ah.keep K3 _ _ imm0 (ah.same T2 _ _ t0);have hq3:Is K H3 .bU (.list (es.map (ny ra rb xs)++[sY ra rb xs n wd])):=bY.mpr ⟨lp,us,rfl,.of elp,tl3⟩;have ir3:=ir2.gy K3;have hul3:=t3.length;rw[wn,len3]at hul3;have cn:=cmi n (wu n);have h0:0∈ai ra rb xs n:=B.hp.zero B.ok.a0 B.ok.b0 B.h1 P.n1;have ln:=bS ra rb xs n;have l1:=B.h1;have wg:=λr=>zzr B.ok (xs:=ai ra rb xs n) () () (B.hp.at B.ok.a0 B.ok.b0 n) h0 P.word r
   have iwd:gT wd:=by
     rcases Fc (a:=ra) (b:=rb) (xs:=ai ra rb xs n)with e | ⟨w',e,i⟩
     . rw[P.word]at e;cases e
     . rw[P.word]at e;cases e;exact i
   clear il tl3 n2 S2 e2 t2 imm2 n2p n2f e2f hp2 ir2;o_head jW hq3 .cT;have i4:Is K H3 v4 (.tuple [N (aE ra rb xs n),TN (ai ra rb xs n),.str (wB wd)]):=i4;refine mY i4 rfl (λut tt=>?_);obtain⟨vh,w1,rfl,ih,tt⟩:=cP.mp tt;obtain⟨vx,w2,rfl,iv,tt⟩:=cP.mp tt;obtain⟨vw,w3,rfl,jw,tt⟩:=cP.mp tt;rw[fO.mp tt,cN.mp jw];clear tt i4 jw;wtm_at "gt";wtm_at "tl";wtm_at "ga";rename_i ca Ha na Sa ea rb' Hb b0 b1 Eb Kb Pb z hz m Hm m0 m1 Em Km Pm;obtain⟨m,rfl⟩:∃m':Nat,m=(m':Int):=⟨m.toNat,by lia⟩;have m30:m<=30:=by lia
   obtain⟨gm,wm⟩:=wg m;have Km3:=Sa.keep.trans (Kb.trans Km);have Em3:=Sa.exc.trans (Eb.trans Em);have irm:=ir3.gy Km3;have ihm:=ih.dw Km3 (ee _);have ivm:=iv.dw Km3 (d6 _);have em:=Em3.at mC e3;have tm:=ah.keep Km3 _ _ (Cn ps') t3;have EH:Exc p H Hm:=λb o hb h=>Em3 b o hb (E3 b o hb (λz=>by rw[z,n1]at h;cases h) (T2 b o h))
   have KH:aW H Hm:=T2.keep.trans (K3.trans Km3);have Pm:=Pm.le (show k+3*(es.length:Int)+1+1<=k+100 by lia);have nfp:=mC;clear Sa Eb Em Kb Km Pb ea na b0 b1 hz m0 m1 wg ih iv E3 K3 P3 e3 t3 elp hq3 T2 S1 n1 e1
   have main:∀H5,au Hm H5->tl_ {nx:=λ_ H'=>Q V.bX H',rt:=Q} [some .ay,some x1,some .bU,some (.ref lf),some vh,some vx,o6,o7,o8,o9,o10,some (.str (wB wd)),some (.int (m:Int))] H5:=by
     intro H5 S5;wtm_at "tl";o_head zmn.v rfl rfl (U:=m) (Z:=0) (irm.by S5) (ihm.by S5) (ivm.by S5) (Gb B c47 h4 (cn.2.mono ⋯) (cn.1.mono ⋯) m30 ⋯) (λng=>absurd gm ng) (λ_ v8 H8 S8 i8=>?_);have T8:=S5.trans S8
     have i8:Is K H8 v8 (.tuple [N (aE ra rb xs (b_ ra rb xs n m 0)),TN (ai ra rb xs (b_ ra rb xs n m 0))]):=by
       unfold tT at i8;rw[kf,dS]at i8;exact i8
     have fc:=Ii (i:=0) (k:=m*(aj (ai ra rb xs n)).length+0) B.ok (show 1<=(ai ra rb xs n).length by lia) () (B.hp.at B.ok.a0 B.ok.b0 n) cn.2 (by have:=FC (ys:=ai ra rb xs n) () m30 (show 0<=40 by decide);lia)
     have fb:af 9100 (aE ra rb xs (b_ ra rb xs n m 0)):=by
       show af 9100 (aE ra rb xs (n+(m*(aj (ai ra rb xs n)).length+0)))
       rw[<- kf];exact(cn.1.add (fc.eH .bH)).mono ⋯
     have fx:Cm 5500 (ai ra rb xs (b_ ra rb xs n m 0)):=by
       show Cm 5500 (ai ra rb xs (n+(m*(aj (ai ra rb xs n)).length+0)))
       rw[<- dS];exact(lP fc λy hy=>wH _ hy).mono ⋯
     have wl:iC ra rb (ai ra rb xs (b_ ra rb xs n m 0))=some wd:=by
       have e:b_ ra rb xs n m 0=n+m*(aj (ai ra rb xs n)).length:=by unfold b_;lia
       unfold iC;rw[if_pos (B.hp.zero B.ok.a0 B.ok.b0 B.h1 (by have:=P.n1;lia)),e,<- dS];exact wm
     have ll:dJ ra rb xs 0 (ps'++[⟨aE ra rb xs n,ai ra rb xs n,m,0⟩]) (aE ra rb xs (b_ ra rb xs n m 0)) (ai ra rb xs (b_ ra rb xs n m 0)):=(fi3 _ _ _).mpr ⟨rfl,rfl,gm,rfl,rfl⟩;have lx:(ai ra rb xs (b_ ra rb xs n m 0)).length=xs.length:=bS ..;clear fi3;generalize aE ra rb xs (b_ ra rb xs n m 0)=h9 at *;generalize ai ra rb xs (b_ ra rb xs n m 0)=y9 at *;o_head cW (ds:=[N (aE ra rb xs n),TN (ai ra rb xs n),.int (m:Nat),.int (0:Nat)]) ∅ (.cons (ihm.by T8) (.cons (ivm.by T8) (.cons .bp (.cons .bp .nil)))) (λv9 H9 S9 i9=>?_);o_head aD (j:=0) (i8.by S9) rfl (λv10 i10=>?_);o_head aD (j:=1) (i8.by S9) rfl (λv11 i11=>?_);o_head cW (ds:=[N h9,TN y9,.str (wB wd)]) ∅ (.cons i10 (.cons i11 (.cons .aY .nil))) (λv12 HB SB i12=>?_);o_head c9 ∅ (λlc HC nC SC eC=>?_);refine gv ((T8.trans (S9.trans (SB.trans SC))) _ _ em) eC (by rw[W7];simp;lia) (λlz HD nD SD eD=>?_);have T9:=S9.trans (SB.trans (SC.trans SD));have TT:=T8.trans T9;refine q lz (us'++[v9,v12]) HD (ps'++[⟨aE ra rb xs n,ai ra rb xs n,m,0⟩]) h9 y9 (EH.trans TT.exc) (KH.trans TT.keep) (Pm.same TT) eD (bA.ne nD (Pm.same (T8.trans (S9.trans (SB.trans SC))))) ?_ ⟨λe he=>?_,lx,fx.mono ⋯,?_,iwd,by rw[wM,len3];simp;lia⟩ ⟨by simp,by rw[wM,len3];simp;lia⟩ ⟨ll,wl⟩
     . unfold bL
       rw[wU,Wr];exact(ah.same TT _ _ tm).append (.cons (i9.by (SB.trans (SC.trans SD))) (.cons (i12.by (SC.trans SD)) .nil))
     . rcases vG.mp he with z | z
       . exact(tm3 e z).mono ⋯
       . rw[wZ.mp z]
         exact⟨by rw[bS],cn.2.mono ⋯,cn.1.mono ⋯,m30,show(0:Nat)<=40 by decide⟩
     . exact fb.mono ⋯
   rcases iwd with rfl | rfl | rfl
   . refine ju _ _ true (by rw[wP];decide) ?_
     wtm_at "gt";refine dj (r:=0) rfl rfl .bR;wtm_at "gt";refine Jz i5 (ivm.by S5) ⟨_,rfl,?_⟩;rw[decide_eq_true h0];wtm_at "gt";exact main H5 S5
   . refine ju _ _ false (by rw[wP];decide) ?_
     wtm_at "gt";exact main Hm .ar
   . refine ju _ _ false (by rw[wP];decide) ?_
     wtm_at "gt";exact main Hm .ar
theorem Cm.bump{l:Rat}(c:.bM)(b:af k l)(h:∀y∈ys,y∈xs \/ ∃x∈xs,y=x+l):Cm (m+k+1) ys:=by
 obtain⟨B,h0,h1,h2⟩:=c;have hb:0<B*(l.den:Int):=Wj h0 (den_pos l);have k3:=ku l;refine⟨B*(l.den:Int),hb,(h1.mul b.b).mono (),λy hy=>?_⟩;rcases h y hy with z | ⟨x,hx,rfl⟩
 ·obtain⟨t,e,bt⟩:=h2 y z
  refine⟨t*(l.den:Int),?_,(bt.mul b.b).mono ()⟩
  symm
  refine gr () ?_;have k1:=dG t (show B≠0 by lia);rw[e];simp only[vY];rw[<- k1];generalize wC t B=u
  grind
 ·obtain⟨t,e,bt⟩:=h2 x hx
  refine⟨t*(l.den:Int)+l.num*B,?_,((bt.mul b.b).add ((b.t.mul h1).mono (show k+m<=m+k by lia))).mono ()⟩
  symm
  refine gr () ?_;have k1:=dG t (show B≠0 by lia);rw[e];simp only[VG,vY];rw[<- k1,<- k3];generalize wC t B=u
  grind
theorem nA{K:wa}{H:Hp}{v:V}{d:wF}(h:.bA):∀{vs:.x}{ds:.bP}(j:Nat),ah K H vs ds->ah K H (vs.set j v) (ds.set j d)
 | [],[],_,t=>t
 | [],_::_,_,t=>by cases t.length
 | _::_,[],_,t=>by cases t.length
 | x::vs,y::ds,j,t=>by
  obtain⟨x',r,e,i,t'⟩:=cP.mp t;cases e;cases j with
  | zero=>exact .cons h t'
  | succ j=>exact .cons i (nA h j t')
theorem S_{w:.am}(hj:j<ps.length)(e:aV):(bL ps h ys w).set j e.d=bL (ps.set j e) h ys w:=by
 unfold bL;rw[List.set_append_left _ _ (by simpa using hj),List.map_set]
theorem GZ(ps:.cS)(h:Rat)(ys:.a)(w:.am)(h':Rat)(ys':.a)(w':.am):(bL ps h ys w).set ps.length (gq h' ys' w')=bL ps h' ys' w':=by
 unfold bL;rw[xN _ _ ∅];simp
theorem dU.set{w:.am}(T:dU m n ps h ys w)(hm:m<=M){e:aV}(te:Tm M n e)(j:Nat):dU M n (ps.set j e) h ys w :=
 ⟨λx hx=>by
  rcases VU hx with z | z
  ·exact(T.rows x z).mono hm
  ·rw[z];exact te,T.len,T.cm.mono hm,T.bh.mono hm,T.wd,by rw[Wv];exact T.bC⟩
theorem zCV{w:.am}(hj:j<=ps.length):L2.cutD (bL ps h ys w) (some ((j+1:Nat):Int)) (some (ps.length:Int))=(ps.drop (j+1)).map aV.d:=by
 unfold L2.cutD;rw[HT.pF,HT.pF,rW,Qy (),Qy ()];rcases wJ j ps.length with z | z
 ·unfold bL
  rw[QI .aw,<- Qo,QG ∅,WJ ∅]
 ·rw[show ps.length-(j+1)=0 by lia,qY,Qm ()]
  rfl
theorem zC5(xs:.cc)(x : α):L2.cutD (xs++[x]) (some (-1)) none=[x]:=by
 unfold L2.cutD
 rw[HT.sJ,show HT.bK (xs++[x]).length 0 (some (-1))=xs.length by
  rw[wM,vL];simp[HT.bK];lia]
 simp
theorem zy0{w:.am}(hj:j<=ps.length){d:wF}(e:(bL ps h ys w)[j]? = some (.tuple (N (fe ps h j)::TN (cY ps ys j)::d::ds))):(∃hz:j<ps.length,d=.int (ps[j].r:Int)/\ds=[.int (ps[j].g:Int)])\/(j=ps.length/\d=.str (wB w)/\ds=[]):=by
 rcases wJ j ps.length with z | z
 ·rw[Gg z]at e
  unfold aV.d at e
  injection e with e
  injection e with e
  injection e with _ e
  injection e with _ e
  injection e with e1 e2
  exact .inl ⟨z,e1.symm,e2.symm⟩
 ·have y:j=ps.length:=by lia
  subst y;unfold bL at e;rw[vC ∅,wn,W6]at e;unfold gq at e
  injection e with e
  injection e with e
  injection e with _ e
  injection e with _ e
  injection e with e1 e2
  exact .inr ⟨rfl,e1.symm,e2.symm⟩
theorem zrx{w:.am}(T:dU m n ps h ys w)(hm:m<=M){d:wF}(e:(∃hz:j<ps.length,d=.int (ps[j].r:Int)/\ds=[.int (ps[j].g:Int)])\/(j=ps.length/\d=.str (wB w)/\ds=[])){h':Rat}{x':.a}(bh:af M h')(cx:Cm M x')(lx:x'.length=n):∃ps' h'' ys'' w'',(bL ps h ys w).set j (.tuple (N h'::TN x'::d::ds))=bL ps' h'' ys'' w''/\dU M n ps' h'' ys'' w'':=by
 rcases e with⟨hz,rfl,rfl⟩ | ⟨rfl,rfl,rfl⟩
 ·have t:=T.rows _ (vF hz)
  exact⟨_,_,_,_,S_ hz ⟨h',x',ps[j].r,ps[j].g⟩,T.set (e:=⟨h',x',ps[j].r,ps[j].g⟩) hm ⟨lx,cx,bh,t.c6,t.eK⟩ j⟩
 ·exact⟨_,_,_,_,GZ ps h ys w h' x' w,⟨λe he=>(T.rows e he).mono hm,lx,cx,bh,T.wd,T.bC⟩⟩
theorem Rc{w:.am}(T:dU m n ps h ys w)(hm:m<=M)(hz:j<ps.length)(c6:r<=30)(eK:g<=40):∃ps' h'' ys'' w'',(bL ps h ys w).set j (.tuple [N ps[j].h,TN ps[j].xs,.int (r:Int),.int (g:Int)])=bL ps' h'' ys'' w''/\dU M n ps' h'' ys'' w'':=by
 have t:=T.rows _ (vF hz);exact⟨_,_,_,_,S_ hz ⟨ps[j].h,ps[j].xs,r,g⟩,T.set (e:=⟨ps[j].h,ps[j].xs,r,g⟩) hm ⟨t.len,t.cm.mono hm,t.bh.mono hm,c6,eK⟩ j⟩
inductive zoJ(K:wa)(u v:V)(H:Hp)(Q:VK)(E:XK):Prop|v{G:Nat}{I:Nat}{k:Int}{w:.am}(e0:u=.ref U)(e1:v=.ref Z)(hp:bA H U k)(hk:k<=900000)(hne:Z≠U)(e:H Z=some (.lst S))(t:ah K H S (bL W Y D w))(n1:1<=G)(n4:G<=4)(T:dU I G W Y D w)(f1:1<=W.length)(bC:W.length<=30)(hm:I<=10000)(q:∀l us' J ps' h' ys' w',Exc U H J->aW H J->bA J U (k+10)->J l=some (.lst us')->l≠U->ah K J us' (bL ps' h' ys' w')->dU 11000 G ps' h' ys' w'->Q .az J)
theorem Ui(T:.o):ms P w base T.Dz 3 zoJ:=by
 exists T.Dz,["_law_pen_here","_law_paper_here","_law_found","_law_at","_law_row","_law_way","_law_little","_law_worm"],"c2",(ak (ay 2 jp (gu .R rfl T.h0m fS (q1 1)))
     (ak (ay 3 jp (ao (dN T) hr (ae .C (ae (cT K T.h0t .cR) ag))))
     (ak (ay 4 jp (gu .R rfl T.h0m fS (ae (cB ck .au .ak .J) ag)))
     (ak (ay 5 jp .aE)
     (ak (ay 6 jp (ao (iP T) hr (ae (az fL ar (az de ar .aE)) (ae (az cv ar (ao (dN T) hr (ae .C (ae (cB ck (cZ (ae ar (ae (Gp (v:=1000000) ⟨by decide,by decide,by decide⟩ .bQ) ag))) .aE .J) ag)))) ag))))
     (ak (aY (dX K hu .cI ar) (av (fQ (ao (h_ T) hr (ae (qi 4) (q1 6))) (j3 .cL ar jL))) (av (aY (dX K hu .cI ar) (ak (ay 7 jp (ao (dN T) hr (ae .C (ae (cT K T.h0t (ae (qi 4) ag)) ag))))
     (av (fQ (az (show bV _ (WE .Add) (pT K)from zL) (az (show bV _ (WE .Add) (pT K)from zL) (fN fK (qi 4) fW (fE (pv 7))) (aU (ae (ao (h_ T) hr (ae (cB ck (qi 4) (pv 7) .J) (q1 6))) ag))) (fN fK (qi 4) (fE (az cv (pv 7) ar)) fW)) (j3 .cL ar jL)))) (av (aY (PW.pt (mB (dB lF .cI ar .cG) (lY (dX K hu (cT K T.h0t (q1 4)) ar)))) (av (fQ (ao (dN T) hr (ae .C (ae (cB ck (cZ (ae ar .z)) .aE .J) ag))) (j3 .cL .cI jL))) (av (aY (PW.pt (mB (dX K hu .cI ar) (lY (dB kS (cT K T.h0t .cR) ar .cG)))) (av (aA (az cv (az cv (fN fK .au fW (fE .ak)) (fN fK .au (fE (az cv .ak ar)) (fE (az fL (cT K T.h0t .cR) ar)))) (fN fK .au (fE .cs) fW)))) (av (aY (dX K hu .cI ar) (av (aA (az cv (az cv (fN fK .au fW (fE .ak)) (az (show bV _ (WE .Mult) oH from Ao) (cZ (ae (cB ck .au (dE (show bN _ (.builtin "max") KP from zwq rfl) rfl T.h0q zEI (ae ar (ae (dE (show bN _ (.builtin "min") Ci from YO rfl) rfl T.h0x zBi (ae .ak (ae (az fL (cT K T.h0t .cR) ar) ag))) ag))) .J) ag)) (gu zze rfl T.h0w zBc (ae (jF kS (cT K T.h0t .cR) ar .cG) ag)))) (fN fK .au (fE .ak) fW)))) (ak (ay 4 jp (gu .R rfl T.h0m fS (ae (cB ck .au .cs .J) ag)))
     (ak (ay 3 jp (az fL (cT K T.h0t .cR) ar))
     (av (fQ (cB ck (cZ (ae fA (ae fA (ae fA ag)))) .aE .J) (j3 .cL ar jL))))))))))))))
     (ak (fQ (fM K T.h0i (q1 4)) (j3 .au .ak jL))
     (av (aA .au)))))))))
 obtain@⟨p,lp,us,ps,hl,yl,n,m,k,wd,rfl,rfl,hp,hk,hne,e0,t0,n1,n4,TP,f1,bC,hm,q⟩:=h;have imm:=jt ps hl yl wd;o_head zK (bY.mpr ⟨lp,us,rfl,.of e0,t0⟩) (λlf H1 uf nf S1 e1 t1=>?_);have hul:=t1.length;rw[rW]at hul;o_head eP (.of e1) ?_;k_few;rename_i r H2 r0 r1 E2 K2 P2;obtain⟨j,rfl⟩:∃j:Nat,r=(j:Int):=⟨r.toNat,by lia⟩;have hj:j<=ps.length:=by lia
 have nfp:lf≠p:=bA.ne nf hp;have e2:=E2.at nfp e1;have t2:=ah.keep K2 _ _ imm t1;obtain⟨d,ds,ej⟩:=zu1 (ps:=ps) (h:=hl) (ys:=yl) (w:=wd) hj;obtain⟨bh,cx,lx⟩:=TP.at hj;refine gf (j:=j) (bY.mpr ⟨lf,uf,rfl,.of e2,t2⟩) ej (λv1 i1=>?_);o_head mj i1 (λlr H3 ur nr S3 e3 t3=>?_);have kind:=zy0 hj ej;have hlr:=t3.length;simp only[Wi]at hlr;have nrf:lr≠lf:=λz=>by rw[z,e2]at nr;cases nr
 have nrp:lr≠p:=bA.ne nr P2;have EH3:Exc p H H3:=S1.exc.trans (E2.trans S3.exc);have KH3:aW H H3:=S1.keep.trans (K2.trans S3.keep);have e3f:=S3 _ _ e2;have t3f:=ah.same S3 _ _ t2;have P3:=P2.same S3
 have fresh:∀b o,H b=some o->b≠lr/\b≠lf:=λb o hb=>by
   constructor
   . intro z
     rw[z]at hb;have hb:=S1 _ _ hb;rw[E2 _ _ nrp hb]at nr;cases nr
   . intro z
     rw[z,nf]at hb;cases hb
 wtm_at "gt";wtm_at "tl";wtm_at "gt";rename_i wy H4 w0 w1 E4 K4 P4;wtm_at "tl";wtm_at "gt";refine c9 ∅ (λlc Hc nc Sc ec=>?_);wtm_at "gt";rename_i ra Ha a0 a1 Ea Ka Pa rb Hb b0 b1 Eb Kb Pb z hz rd Hd d0 d1 Ed Kd Pd vl H5 li S5 il el bl;have E35:Exc p H3 H5:=E4.trans (Ea.trans (Sc.exc.trans (Eb.trans (Ed.trans S5.exc))));have K35:aW H3 H5:=K4.trans (Ka.trans (Sc.keep.trans (Kb.trans (Kd.trans S5.keep))))
 have immr:aT (N (fe ps hl j)::TN (cY ps yl j)::d::ds)=true:=by
   rcases kind with⟨_,rfl,rfl⟩ | ⟨_,rfl,rfl⟩<;>rw[aT,aT,aT,ee,d6]<;>rfl
 have e5f:=E35.at nfp e3f;have t5f:=ah.keep K35 _ _ imm t3f;have e5r:=E35.at nrp e3;have t5r:=ah.keep K35 _ _ immr t3;have P5:=Pd.same S5;have EH:Exc p H H5:=EH3.trans E35;have KH:aW H H5:=KH3.trans K35;have bl:af 200 li:=bl.mono ⋯;clear Ea Ka Pa Eb Kb Pb Ed Kd Pd S5 Sc ec nc E4 K4 P4 EH3 KH3 e3 t3 e3f t3f P3 S3 e2 t2 E2 K2 P2 S1 e1 t1 i1 e0 t0 hp el a0 a1 b0 b1 hz d0 d1 nr nf r0 r1;wtm_at "tl";wtm_at "sq"
 have main:∀(aq:Nat)(l6:wf)(ur6:.x)(ds6:.bP)(o7:.bD)(H6:Hp),aq<=ps.length->(∀b o,b≠p->b≠lr->H5 b=some o->H6 b=some o)->aW H5 H6->bA H6 p (k+10)->H6 l6=some (.lst ur6)->ah K H6 ur6 ds6->(∃ps' h'' ys'' w'',(bL ps hl yl wd).set aq (.tuple ds6)=bL ps' h'' ys'' w''/\dU 11000 n ps' h'' ys'' w'')->aT ds6=true->tl_ {nx:=λ_ H'=>Q V.bX H',rt:=Q} [some .ay,some .bU,some (.ref lf),some (.int (aq:Int)),some (.ref l6),some (.int wy),some vl,o7] H6:=by
   rintro aq l6 ur6 ds6 o7 H6 ha E6 K6 P6 e6 t6 ⟨ps',h'',ys'',w'',es,TT⟩ i6;have e6f:=E6 _ _ nfp nrf.symm e5f;have t6f:=ah.keep K6 _ _ imm t5f;wtm_at "tl";o_head iI (bY.mpr ⟨l6,ur6,rfl,.of e6,t6⟩) (λv7 H7 S7 i7=>?_);o_head jC (j:=aq) (S7 _ _ e6f) (by unfold fZ;simp;lia) (λH8 E8 e8=>?_);have K8:=E8.keep (S7 _ _ e6f);o_head q lf (uf.set aq v7) H8 ps' h'' ys'' w'' (λb o hb h=>E8 b o (fresh b o h).2 (S7 b o (E6 b o hb (fresh b o h).1 (EH b o hb h)))) (KH.trans (K6.trans (S7.keep.trans K8))) ?_ e8 nfp ?_ TT
   . obtain⟨x1,y1,c1,ep,p0,p1⟩:=P6.same S7
     exact⟨x1,y1,c1,E8.at nfp.symm ep,p0,p1⟩
   . rw[<- es]
     exact nA (i7.dw K8 (by rw[c_];exact i6)) aq (ah.keep (S7.keep.trans K8) _ _ imm t6f)
 have hmM:m<=11000:=by lia
 have il5:Is K H5 (.ref lf) (.list (ps.map aV.d++[gq hl yl wd])):=bY.mpr ⟨lf,uf,rfl,.of e5f,t5f⟩;have il5p:Is K H5 (.ref lf) (.list (bL ps hl yl wd)):=il5;have ir5:Is K H5 (.ref lr) (.list (N (fe ps hl j)::TN (cY ps yl j)::d::ds)):=bY.mpr ⟨lr,ur,rfl,.of e5r,t5r⟩;have bh2:af 10000 (fe ps hl j):=bh.mono hm;wtm_at "gt"
 . refine gf (j:=0) ir5 rfl .cU
   wtm_at "gt";rename_i v7 H7 S7 i7;refine jC (j:=0) (S7 _ _ e5r) (by unfold fZ;rw[if_pos (),if_pos ()];simp) (λH8 E8 e8=>?_);have K8:=E8.keep (S7 _ _ e5r);wtm_at "gt";refine main j lr _ (N (fe ps hl j+li)::TN (cY ps yl j)::d::ds) none H8 hj (λb o h1 h2 h=>E8 b o h2 (S7 b o h)) (S7.keep.trans K8) ?_ e8 ?_ (zrx TP hmM kind ((bh.mono hm |>.add bl).mono ⋯) (cx.mono hmM) lx) ?_
   . obtain⟨x1,y1,c1,ep,p0,p1⟩:=P5.same S7
     exact⟨x1,y1,c1,E8.at nrp.symm ep,p0,by lia⟩
   . exact nA (i7.dw K8 (ee _)) 0 (ah.keep (S7.keep.trans K8) _ _ immr t5r)
   . rw[aT]at immr ⊢
     rw[ee]at immr ⊢;exact immr
 . refine gf (j:=1) ir5 rfl .cU
   wtm_at "gt";refine sU i6 ?_;rw[lx];wtm_at "gt";rename_i wm Hw m0 m1 Ew Kw Pw;obtain⟨wm,rfl⟩:∃w':Nat,wm=(w':Int):=⟨wm.toNat,by lia⟩;have hwm:wm<(cY ps yl j).length:=by lia
   have hz1:¬ ((wm:Int)<0):=by lia
   have hz2:¬ ((wm:Int)+1<0):=by lia
   have ewr:=Ew.at nrp e5r;have twr:=ah.keep Kw _ _ immr t5r;have irw:Is K Hw (.ref lr) (.list (N (fe ps hl j)::TN (cY ps yl j)::d::ds)):=bY.mpr ⟨lr,ur,rfl,.of ewr,twr⟩;have ilw:=il.dw Kw (ee _);have bx:af 10000 ((cY ps yl j).getD wm 0):=(cx.get wm).mono hm;wtm_at "tl";wtm_at "gt";refine gf (j:=1) irw rfl (λv7 i7=>?_);have i7:Is K Hw v7 (.tuple ((cY ps yl j).map N)):=i7;wtm_at "gt";refine yS i7 (by rw[wn];simp[HT.bK,hz1];lia) .bv;rw[yY]at i8;wtm_at "gt";refine gf (j:=1) (irw.by S8) rfl (λv9 i9=>?_);wtm_at "gt";refine x_ (show Is K H8 v9 (TN (cY ps yl j))from i9) () () (λv10 i10=>?_);rw[wE]at i10;have il8:=ilw.by S8;wtm_at "gt";rename_i v11 H11 S11 i11;generalize hx':(cY ps yl j).getD wm 0+li=x' at *;have bx':af 11000 x':=by rw[<- hx'];exact(bx.add bl).mono ⋯
   refine cW (ds:=[N x']) ∅ (.cons i11 .nil) (λv12 H12 S12 i12=>?_);refine Cj (i8.by .cx) i12 .aw (λv13 H13 S13 i13=>?_);have T13:=S8.trans (S11.trans (S12.trans S13));wtm_at "gt";refine gf (j:=1) (irw.by T13) rfl (λv14 i14=>?_);wtm_at "gt";rw[show(wm:Int)+1=((wm+1:Nat):Int) by lia];refine yS (show Is K H13 v14 (.tuple ((cY ps yl j).map N))from i14) (by rw[wn,HT.sJ,HT.pF];rintro ⟨h1,h2⟩;lia) (λv15 H15 S15 i15=>?_);rw[Eu _ _ (by rw[wn];lia)]at i15;refine Cj (i13.by S15) i15 .aw (λv16 H16 S16 i16=>?_);have T16:=T13.trans (S15.trans S16)
   have i16:Is K H16 v16 (TN ((cY ps yl j).set wm x')):=by
     rw[<- Xg,<- Qo]at i16;have e:(cY ps yl j).set wm x'=(cY ps yl j).take wm++x'::(cY ps yl j).drop (wm+1):=by rw[List.set_eq_take_append_cons_drop,if_pos hwm]
     unfold TN;rw[e,wU,vi];rw[Wr]at i16;exact i16
   have cx':Cm 11000 ((cY ps yl j).set wm x'):=(Cm.bump cx bl λy hy=>by
     rcases VU hy with z | z
     . exact .inl z
     . exact .inr ⟨_,getD_mem hwm,z.trans hx'.symm⟩).mono ()
   wtm_at "gt";refine jC (j:=1) (T16 _ _ ewr) (by rw[hlr];unfold fZ;rw[if_pos (show(0:Int)<=1 by decide),if_pos ()];rfl) (λH8 E8 e8=>?_);have K8:=E8.keep (T16 _ _ ewr);wtm_at "gt";refine main j lr _ (N (fe ps hl j)::TN ((cY ps yl j).set wm x')::d::ds) (some (.int (wm:Int))) H8 hj (λb o h1 h2 h=>E8 b o h2 (T16 b o (Ew b o h1 h))) (Kw.trans (T16.keep.trans K8)) ?_ e8 ?_ (zrx TP hmM kind (bh.mono hmM) cx' (by rw[Wv];exact lx)) ?_
   . obtain⟨x1,y1,c1,ep,p0,p1⟩:=Pw.same T16
     exact⟨x1,y1,c1,E8.at nrp.symm ep,p0,by lia⟩
   . exact nA (i16.dw K8 (d6 _)) 1 (ah.keep (Kw.trans (T16.keep.trans K8)) _ _ immr t5r)
   . rw[aT,aT]at immr ⊢
     rw[d6]at immr ⊢;exact immr
 . refine eP (.of e5r) ?_
   rw[hlr];wtm_at "gt"
   . rename_i z4
     have z1:ds.length=1:=by lia
     rcases kind with⟨hz,rfl,rfl⟩ | ⟨_,rfl,rfl⟩
     case inr=>cases z1
     refine c9 ∅ (λl9 H9 n9 S9 e9=>?_);wtm_at "gt";rename_i rA HA a0 a1 EA KA PA zA hzA rB HB b0 b1 EB KB PB;obtain⟨rB,rfl⟩:∃r':Nat,rB=(r':Int):=⟨rB.toNat,by lia⟩;have c6:rB<=30:=by lia
     have EE:Exc p H5 HB:=S9.exc.trans (EA.trans EB);have KK:aW H5 HB:=S9.keep.trans (KA.trans KB);have eB:=EE.at nrp e5r;have tB:=ah.keep KK _ _ immr t5r;have tr:=TP.rows _ (vF hz);have hh:=ou (h:=hl) hz;have hx:=nP (ys:=yl) hz;have h23:wy=((2:Nat):Int)\/wy=((3:Nat):Int):=by lia
     rcases h23 with rfl | rfl
     . refine jC (j:=2) eB (by rw[hlr];rfl) (λHC EC eC=>?_)
       have KC:=EC.keep eB;wtm_at "gt";refine main j lr _ [N (fe ps hl j),TN (cY ps yl j),.int (rB:Int),.int (ps[j].g:Int)] none HC hj (λb o h1 h2 h=>EC b o h2 (EE b o h1 h)) (KK.trans KC) ?_ eC ?_ (by rw[hh,hx];exact Rc TP hmM hz c6 tr.eK) (by rw[aT,aT,ee,d6];rfl)
       . obtain⟨x1,y1,c1,ep,p0,p1⟩:=PB
         exact⟨x1,y1,c1,EC.at nrp.symm ep,p0,by lia⟩
       . exact nA .bp 2 (ah.keep KC _ _ immr tB)
     . refine jC (j:=3) eB (by rw[hlr];rfl) (λHC EC eC=>?_)
       have KC:=EC.keep eB;wtm_at "gt";refine main j lr _ [N (fe ps hl j),TN (cY ps yl j),.int (ps[j].r:Int),.int (rB:Int)] none HC hj (λb o h1 h2 h=>EC b o h2 (EE b o h1 h)) (KK.trans KC) ?_ eC ?_ (by rw[hh,hx];exact Rc TP hmM hz tr.c6 ()) (by rw[aT,aT,ee,d6];rfl)
       . obtain⟨x1,y1,c1,ep,p0,p1⟩:=PB
         exact⟨x1,y1,c1,EC.at nrp.symm ep,p0,by lia⟩
       . exact nA .bp 3 (ah.keep KC _ _ immr tB)
   . exfalso;lia
   . exfalso;lia
   . refine jW il5 (λv8 i8=>?_)
     have i8:Is K H5 v8 (.tuple [N hl,TN yl,.str (wB wd)]):=i8;wtm_at "gt";refine mj i8 (λl8 H8 u8 n8 S8 e8 t8=>?_);have hu8:=t8.length;have n8p:l8≠p:=bA.ne n8 P5;wtm_at "gt";wtm_at "tl";wtm_at "gt";refine eP (.of (S8 _ _ e5f)) ?_;rw[hul];wtm_at "gt";rw[show((ps.length+1:Nat):Int)-1=(ps.length:Int) by lia];wtm_at "tl";wtm_at "gt";refine c9 ∅ (λl9 H9 n9 S9 e9=>?_);wtm_at "gt";rename_i rw9 HA w90 w91 EA KA PA;have P9:=P5.same (S8.trans S9);have n9p:l9≠p:=bA.ne n9 (P5.same S8);have ic:Is K HA (.ref l9) (.list [.str (wB "one"),.str (wB "rests"),.str (wB "drawn")]):=bY.mpr ⟨l9,_,rfl,.of (EA.at n9p e9),.cons .aY (.cons .aY (.cons .aY .nil))⟩;have e8A:=EA.at n8p (S9 _ _ e8);have imm8:aT [N hl,TN yl,.str (wB wd)]=true:=by rw[aT,aT,ee,d6];rfl
     have t8A:=ah.keep KA _ _ imm8 (ah.same S9 _ _ t8)
     have fin:∀w':String,gT w'->zY (.ref l8) (.int 2) (.str (wB w')) HA (λHB=>tl_ {nx:=λ_ H'=>Q V.bX H',rt:=Q} [some .ay,some .bU,some (.ref lf),some (.int (ps.length:Int)),some (.ref l8),some (.int wy),some vl,none] HB):=λw' iw=>by
       refine jC (j:=2) e8A (by rw[hu8];rfl) (λHB EB eB=>?_);have KB:=EB.keep e8A;refine main ps.length l8 _ [N hl,TN yl,.str (wB w')] none HB .ax (λb o h1 h2 h=>EB b o (λz=>by rw[z,n8]at h;cases h) (EA b o h1 ((S8.trans S9) b o h))) ((S8.trans S9).keep.trans (KA.trans KB)) ?_ eB ?_ ⟨ps,hl,yl,w',GZ ps hl yl wd hl yl w',⟨λe he=>(TP.rows e he).mono hmM,TP.len,TP.cm.mono hmM,TP.bh.mono hmM,iw,TP.bC⟩⟩ (by rw[aT,aT,ee,d6];rfl)
       . obtain⟨x1,y1,c1,ep,p0,p1⟩:=PA
         exact⟨x1,y1,c1,EB.at n8p.symm ep,p0,by lia⟩
       . exact nA .aY 2 (ah.keep KB _ _ imm8 t8A)
     have h3:rw9=((0:Nat):Int)\/rw9=((1:Nat):Int)\/rw9=((2:Nat):Int):=by lia
     rcases h3 with rfl | rfl | rfl
     . refine gf (j:=0) ic rfl (λx hx=>?_)
       rw[cN.mp hx];wtm_at "gt";exact fin _ .aI
     . refine gf (j:=1) ic rfl (λx hx=>?_)
       rw[cN.mp hx];wtm_at "gt";exact fin _ (.inr .aI)
     . refine gf (j:=2) ic rfl (λx hx=>?_)
       rw[cN.mp hx];wtm_at "gt";exact fin _ (.inr (.inr rfl))
 . refine eP (.of e5f) ?_
   rw[hul];wtm_at "gt"
   . refine iE il5p (λl8 H8 u8 n8 S8 e8 t8=>?_)
     rw[yY,Jy hj]at t8;wtm_at "gt";refine eP (.of (S8 _ _ e5f)) ?_;rw[hul];wtm_at "gt";rw[show(j:Int)+1=((j+1:Nat):Int) by lia,show((ps.length+1:Nat):Int)-1=(ps.length:Int) by lia];refine iE (il5p.by S8) (λl9 H9 u9 n9 S9 e9 t9=>?_);rw[zCV hj]at t9;wtm_at "gt";have hu8:=t8.length;have hu9:=t9.length;rw[wn,Wf]at hu8;rw[wn,Wg]at hu9;refine gv (S9 _ _ e8) e9 (by rw[W7];lia) (λl10 H10 n10 S10 e10=>?_);wtm_at "gt";refine iE (il5.by (S8.trans .cu)) (λl11 H11 u11 n11 S11 e11 t11=>?_);rw[zC5]at t11;have hu11:=t11.length;rw[vL]at hu11;wtm_at "gt";refine gv (S11 _ _ e10) e11 (by rw[W7,wM];lia) (λl12 H12 n12 S12 e12=>?_);have TT:=S8.trans (S9.trans (S10.trans .cx));refine q l12 _ H12 (ps.take j++ps.drop (j+1)) hl yl wd (EH.trans TT.exc) (KH.trans TT.keep) ((P5.same TT).le ()) e12 (bA.ne n12 (P5.same (S8.trans (S9.trans (S10.trans S11))))) ?_ ⟨λe he=>?_,TP.len,TP.cm.mono hmM,TP.bh.mono hmM,TP.wd,by rw[wM,Wf,Wg];lia⟩
     . unfold bL
       rw[wU];exact((ah.same (S9.trans (S10.trans .cx)) _ _ t8).append (ah.same (S10.trans .cx) _ _ t9)).append (ah.same S12 _ _ t11)
     . rcases vG.mp he with z | z
       . exact(TP.rows _ (qD z)).mono hmM
       . exact(TP.rows _ (Xd z)).mono hmM
   . exfalso;lia
   . exfalso;lia
 . refine iE il5p (λl8 H8 u8 n8 S8 e8 t8=>?_)
   rw[yY,Jy hj]at t8;wtm_at "gt";refine eP (.of (S8 _ _ e5f)) ?_;rw[hul];wtm_at "gt";rename_i mn m1 m2 m3;refine zCO (λM x1 x2 x3=>?_);obtain⟨b,rfl⟩:∃b:Nat,M=(b:Int):=⟨M.toNat,by lia⟩;have hb:b<(bL ps hl yl wd).length:=by rw[rW];lia
   have hb2:1<=ps.length->b<ps.length:=by lia
   refine gf (j:=b) (il5p.by S8) (we hb) (λv9 i9=>?_);wtm_at "gt";refine c9 ∅ (λl10 H10 n10 S10 e10=>?_);wtm_at "gt";refine eP (.of ((S8.trans S10) _ _ e5f)) ?_;rw[hul];wtm_at "gt";have hu8:=t8.length;rw[wn,Wf]at hu8
   have hdr:(bL ps hl yl wd).drop j=(ps.drop j).map aV.d++[gq hl yl wd]:=by
     unfold bL;rw[QI (by simpa using hj),<- Qo]
   have z:=f1;rw[decide_eq_true ()];refine Py e10 ⋯ ⋯ ∅ (λl11 H11 n11 S11 e11=>?_);have e11:H11 l11=some (.lst [v9]):=e11;have hbz:=hb2 z
   have ib:Is K H8 v9 (ps[b]).d:=by
     have e:=Gg (h:=hl) (ys:=yl) (w:=wd) hbz;rw[we hb]at e;rw[<- w6 e];exact i9
   refine gv ((S10.trans S11) _ _ e8) e11 (by rw[W7];simp;lia) (λl12 H12 n12 S12 e12=>?_);have T12:=S8.trans (S10.trans .cx);wtm_at "gt";refine iE (il5p.by T12) (λl13 H13 u13 n13 S13 e13 t13=>?_);rw[Eu _ _ (by rw[rW];lia),hdr]at t13;have hu13:=t13.length;rw[wM,wn,Wg,vL]at hu13;refine gv (S13 _ _ e12) e13 (by rw[W7];simp;lia) (λl14 H14 n14 S14 e14=>?_);have TT:=T12.trans (S13.trans S14);have TX:=S10.trans (S11.trans (S12.trans (S13.trans S14)));refine q l14 _ H14 (ps.take j++[ps[b]]++ps.drop j) hl yl wd (EH.trans TT.exc) (KH.trans TT.keep) ((P5.same TT).le ()) e14 (bA.ne n14 (P5.same (T12.trans S13))) ?_ ⟨λe he=>?_,TP.len,TP.cm.mono hmM,TP.bh.mono hmM,TP.wd,by simp;lia⟩
   . have e:bL (ps.take j++[ps[b]]++ps.drop j) hl yl wd=(ps.take j).map aV.d++[(ps[b]).d]++((ps.drop j).map aV.d++[gq hl yl wd]):=by
       unfold bL;rw[wU,wU,Wr];rfl
     rw[e];exact((ah.same TX _ _ t8).append (.cons (ib.by TX) .nil)).append (ah.same S14 _ _ t13)
   . rcases vG.mp he with y | y
     . rcases vG.mp y with y | y
       . exact(TP.rows _ (qD y)).mono hmM
       . rw[wZ.mp y]
         exact(TP.rows _ (vF hbz)).mono hmM
     . exact(TP.rows _ (Xd y)).mono hmM
 . refine jW il5 (λv8 i8=>?_)
   have i8:Is K H5 v8 (.tuple [N hl,TN yl,.str (wB wd)]):=i8;wtm_at "gt";refine mj i8 (λl8 H8 u8 n8 S8 e8 t8=>?_);have hu8:=t8.length;have n8p:l8≠p:=bA.ne n8 P5;wtm_at "gt";wtm_at "tl";wtm_at "gt";refine eP (.of (S8 _ _ e5f)) ?_;rw[hul];wtm_at "gt";rw[show((ps.length+1:Nat):Int)-1=(ps.length:Int) by lia];wtm_at "tl";wtm_at "gt";refine c9 ∅ (λl9 H9 n9 S9 e9=>?_);wtm_at "gt";rename_i rw9 HA w90 w91 EA KA PA;have P9:=P5.same (S8.trans S9);have n9p:l9≠p:=bA.ne n9 (P5.same S8);have ic:Is K HA (.ref l9) (.list [.str (wB "one"),.str (wB "rests"),.str (wB "drawn")]):=bY.mpr ⟨l9,_,rfl,.of (EA.at n9p e9),.cons .aY (.cons .aY (.cons .aY .nil))⟩;have e8A:=EA.at n8p (S9 _ _ e8);have imm8:aT [N hl,TN yl,.str (wB wd)]=true:=by rw[aT,aT,ee,d6];rfl
   have t8A:=ah.keep KA _ _ imm8 (ah.same S9 _ _ t8)
   have fin:∀w':String,gT w'->zY (.ref l8) (.int 2) (.str (wB w')) HA (λHB=>tl_ {nx:=λ_ H'=>Q V.bX H',rt:=Q} [some .ay,some .bU,some (.ref lf),some (.int (ps.length:Int)),some (.ref l8),some (.int wy),some vl,none] HB):=λw' iw=>by
     refine jC (j:=2) e8A (by rw[hu8];rfl) (λHB EB eB=>?_);have KB:=EB.keep e8A;refine main ps.length l8 _ [N hl,TN yl,.str (wB w')] none HB .ax (λb o h1 h2 h=>EB b o (λz=>by rw[z,n8]at h;cases h) (EA b o h1 ((S8.trans S9) b o h))) ((S8.trans S9).keep.trans (KA.trans KB)) ?_ eB ?_ ⟨ps,hl,yl,w',GZ ps hl yl wd hl yl w',⟨λe he=>(TP.rows e he).mono hmM,TP.len,TP.cm.mono hmM,TP.bh.mono hmM,iw,TP.bC⟩⟩ (by rw[aT,aT,ee,d6];rfl)
     . obtain⟨x1,y1,c1,ep,p0,p1⟩:=PA
       exact⟨x1,y1,c1,EB.at n8p.symm ep,p0,by lia⟩
     . exact nA .aY 2 (ah.keep KB _ _ imm8 t8A)
   have h3:rw9=((0:Nat):Int)\/rw9=((1:Nat):Int)\/rw9=((2:Nat):Int):=by lia
   rcases h3 with rfl | rfl | rfl
   . refine gf (j:=0) ic rfl (λx hx=>?_)
     rw[cN.mp hx];wtm_at "gt";exact fin _ .aI
   . refine gf (j:=1) ic rfl (λx hx=>?_)
     rw[cN.mp hx];wtm_at "gt";exact fin _ (.inr .aI)
   . refine gf (j:=2) ic rfl (λx hx=>?_)
     rw[cN.mp hx];wtm_at "gt";exact fin _ (.inr (.inr rfl))
theorem zFK(w:PySem.Str):wP (.str w) (.str w)=true:=by rw[wP];simp
theorem O4(n:Int):wP (.int n) (.int n)=true:=by rw[wP];simp
theorem sV(n:Int):Sh 1 (.int n):=⟨by simp[vD],by simp[WC]⟩
theorem ZO(ps:.cS)(h:Rat)(ys:.a)(w:.am):Sh 5 (.list (bL ps h ys w)):=J1 λd hd=>by
 rcases vG.mp hd with z | z
 ·obtain⟨e,_,rfl⟩:=wW.mp z
  refine oP (n:=3) λd hd=>?_
  simp only[wO,WT,or_false]at hd;rcases hd with rfl | rfl | rfl | rfl
  ·exact(m_ _).mono ⋯
  ·exact(JV _).mono ⋯
  ·exact(sV _).mono ⋯
  ·exact(sV _).mono ⋯
 ·rw[wZ.mp z]
  refine oP (n:=3) λd hd=>?_
  simp only[wO,WT,or_false]at hd;rcases hd with rfl | rfl | rfl
  ·exact(m_ _).mono ⋯
  ·exact(JV _).mono ⋯
  ·exact(JG (z8 _)).mono ⋯
theorem RB(ps:.cS)(h:Rat)(ys:.a)(w:.am):wP (.list (bL ps h ys w)) (.list (bL ps h ys w))=true:=zE2 λd hd=>by
 rcases vG.mp hd with z | z
 ·obtain⟨e,_,rfl⟩:=wW.mp z
  refine TU λd hd=>?_
  simp only[wO,WT,or_false]at hd;rcases hd with rfl | rfl | rfl | rfl
  ·exact ZQ _
  ·exact zDS _
  ·exact O4 _
  ·exact O4 _
 ·rw[wZ.mp z]
  refine TU λd hd=>?_
  simp only[wO,WT,or_false]at hd;rcases hd with rfl | rfl | rfl
  ·exact ZQ _
  ·exact zDS _
  ·exact zFK _
inductive Y6(K:wa)(v u t:V)(H:Hp)(Q:VK)(E:XK):Prop|v{w:.am}{d:Bool}(e2:t=.bl d)(i:Is K H v (bG U Z S))(hp:Is K H u (.list (bL W Y D w)))(ok:aK U Z)(h1:1<=S.length)(h4:S.length<=4)(ph:cq S)(T:dU 20000 S.length W Y D w)(hd:d=true ↔ gR U Z S W Y D w)(q:Rq H Q .cJ)
theorem BS(T:.o):pc P w base T.sG 13 Y6:=by
 exists T.sG,["_law_swarm","_law_paper_here","_law_due","_law_kept","_law_found"],"c3",(ak (ay 3 jp (gu .R rfl T.h0m fS (q1 1)))
     (ak (ay 4 jp (ao (zw4 T) hr .cl))
     (av (aA (e_ (dE .cA rfl T.h0c ko (ae .cL (ae (jR (v:=.ty "bool") rfl T.h0n zxM rfl) ag))) (e_ (ji K hu .cL .au) (gL (ji K hu .X .ak))))))))
 obtain@⟨ra,rb,xs,ps,hl,yl,wd,d,rfl,hw,hp,ok,x1',x4,ph,TP,hd,q⟩:=h;o_head zK hp (λl H1 us n1 S1 e1 t1=>?_);have i1:Is K H1 .az (.list (bL ps hl yl wd)):=bY.mpr ⟨l,us,rfl,.of e1,t1⟩;o_head Rz.v (hw.by S1) (hp.by S1) ok x1' x4 ph TP (λf H2 S2=>?_) (λf H2 S2=>?_)
 . rw[hd.mpr f]
   o_head YQ ?_;rw[beq_self_eq_true];o_head J6 (hp.by .aZ) (i1.by S2) (ZO ..) ⋯ (RB ..) ?_;exact q _ .aZ
 . have e:d=false:=Q8.mpr λe=>f (hd.mp e)
   rw[e];o_head YQ ?_;rw[beq_self_eq_true];o_head J6 (hp.by .aZ) (i1.by S2) (ZO ..) ⋯ (RB ..) ?_;exact q _ .aZ
inductive zme(K:wa)(u v w:V)(H:Hp)(Q:VK)(E:XK):Prop|v{k m:Int}(e0:u=.ref U)(e2:w=.int m)(ir:Is K H v (R Z S))(ok:aK Z S)(h:bA H U k)(hk:k<=900)(h1:3<=m)(h8:m<=8)(q:∀(l:wf)(W:Hp)(Y:.x)(D:.a),H l=none->Exc U H W->aW H W->bA W U (k+13)->W l=some (.lst Y)->ah K W Y (D.map N)->1<=D.length->(D.length:Int)<=m->(∀G∈D,f_ G)->Q .az W)
theorem zDN(h1:1<=n)(h3:n<=3):dh (vy n (1:Int)):=by
 have:n=1\/n=2\/n=3:=by lia
 rcases this with rfl | rfl | rfl
 ·exact⟨by decide,by decide,by decide,by decide⟩
 ·exact⟨by decide,by decide,by decide,by decide⟩
 ·exact⟨by decide,by decide,by decide,by decide⟩
theorem zBk(h0:¬ x.num<0)(h1:¬ .ac<=x.num)(h2:¬ (60:Int)<.ac):f_ x:=by
 have:=Hn (r:=x.num) (u:=.ac) () () ();rw[Vy]at this;exact this
theorem ztT(T:.o):pc P w base T.Mo 6 zme:=by
 exists T.Mo,["_law_pen_here","_law_rule","_law_most","_law_found","_law_some","_law_one"],"c3",(ak (ay 3 jp (ao (zkk T) hr (q2 0 2)))
     (ak (aY (PW.pt (fI (dB kS .aE ar .cG) (g6 (dX K hu .br .aA)))) (av (aA .ak)) bE)
     (ak (ay 4 jp (az cv (ao (zN T) hr (ae .X (ae (az (show bV _ (WE .Mult) oH from Ao) (cZ .z) (az cv ar .aE)) ag))) (cZ (ae .aA ag))))
     (ak (fi vj rfl (fT .cL) (cC (i:=5) jp rfl .s) (av (aY (PW.pt (fI (dB lF (qi 5) ar .cG) (fI (dB CO (qi 5) (qi 5) .cG) (g6 (dB kS (qi 5) ar .cG))))) (av (aA .ak)) bE)))
     (av (aA .cL))))))
 obtain@⟨p,ra,rb,k,m,rfl,rfl,ir,ok,hp,hk,h3,h8,q⟩:=h;o_head zfv.v rfl rfl hp () () () (λl1 H1 us1 xs1 n1 E1 K1 P1 e1 t1 a1 b1 ph1=>?_);have ne1:l1≠p:=bA.ne n1 hp;k_few
 . rename_i d H2 d0 d1 E2 K2 P2 z
   exact q l1 H2 us1 xs1 n1 (E1.trans E2) (K1.trans K2) (P2.le ()) (E2.at ne1 e1) (ah.keep K2 _ _ (fh _) t1) a1 b1 ph1
 . rename_i d H2 d0 d1 E2 K2 P2 z va ia
   have e2:=E2.at ne1 e1;have t2:ah K H2 us1 (xs1.map N):=ah.keep K2 _ _ (fh _) t1;have ir2:=(ir.gy K1).gy K2;have EA:=E1.trans E2;have KA:=K1.trans K2;clear E1 K1 P1 e1 t1 E2 K2 ir;refine dj (r:=1) rfl rfl .as;refine Aw (ia.by S3) i3 ⟨_,rfl,?_⟩
   by_cases za:ra=1
   . rw[decide_eq_true za,if_pos rfl]
     k_few;exact q l1 H3 us1 xs1 n1 (EA.trans S3.exc) (KA.trans S3.keep) ((P2.same S3).le ()) (S3 _ _ e2) (ah.same S3 _ _ t2) a1 b1 ph1
   . rw[decide_eq_false za,if_neg ⋯]
     o_head c9 ∅ (λl4 H4 n4 S4 e4=>?_);have P4:=(P2.same S3).same S4;k_few;rename_i r H5 r0 r1 E5 K5 P5;have ne4:l4≠p:=bA.ne n4 (P2.same S3);refine JR (E5.at ne4 e4) () () (λl6 H6 n6 S6 e6=>?_);obtain⟨n,hn⟩:∃n:Nat,2+r=(n:Int):=⟨(2+r).toNat,by lia⟩;rw[hn,wE]at e6;have e6:H6 l6=some (.lst ((vy n (1:Int)).map V.int)):=by rw[XI];exact e6
     have S34:=S3.trans S4;have KB:=KA.trans (S34.keep.trans (K5.trans S6.keep));have EB:=EA.trans (S34.exc.trans (E5.trans S6.exc));have P6:=P5.same S6;have eB:H6 l1=some (.lst us1):=S6 _ _ (E5.at ne1 (S34 _ _ e2));have tB:ah K H6 us1 (xs1.map N):=ah.keep (S34.keep.trans (K5.trans S6.keep)) _ _ (fh _) t2;have irB:=ir2.gy (S34.keep.trans (K5.trans S6.keep));clear S3 S4 S34 E5 K5 S6 e2 t2 ir2 EA KA P2 P4 P5 e4 i3 ia n4 ne4 n6;o_head Sk.v rfl irB (.of e6) ok (zDN () ()) za (λl7 H7 us7 n7 S7 e7 t7=>?_);have hsl:(cf ra rb (vy n (1:Int))).length=n-1:=by rw[k_ (by rw[WP];lia),WP]
     have hul:=t7.length;rw[wn,hsl]at hul;generalize cf ra rb (vy n (1:Int))=ys at *;o_head dj (r:=0) rfl rfl .bv;o_head c9 ∅ (λl9 H9 n9 S9 e9=>?_);refine gv (S9 _ _ (S8 _ _ e7)) e9 (WM (iS .aw)) (λl10 H10 n10 S10 e10=>?_);have S710:=S8.trans .cu;have t10:ah K H10 (us7++[v8]) ((ys++[0]).map N):=JD (ah.same S710 _ _ t7) (i8.by .cu);have SC:=S7.trans S710;have hn10:H6 l10=none:=gH (S7.trans (S8.trans S9)) n10
     have hnl:H l10=none:=by
       have ne:l10≠p:=bA.ne hn10 P6;cases e:H l10 with
       | none=>rfl
       | some o=>rw[EB l10 o ne e]at hn10;cases hn10
     clear S7 S8 S9 S10 S710 t7 i8 n7 n9 n10 e7 e9;o_head ow (.of e10) (λi σ H'=>∃o,σ = [some .ay,some x1,some .cB,some (.ref l1),some (.ref l10),o]/\H'=H10 /\ ∀j,j<i->f_ ((ys++[0]).getD j 0)) ⟨_,rfl,rfl,λj hj=>by lia⟩ (λi σ H' _ h=>by obtain⟨_,_,rfl,_⟩:=h;exact .of e10) ?_ ?_
     . rintro i x σ H' hx hz;obtain⟨o,rfl,rfl,hj⟩:=hz
       obtain⟨hi,ix⟩:=cO t10 hx;k_few
       . exact q l1 H' us1 xs1 n1 (EB.trans SC.exc) (KB.trans SC.keep) ((P6.same SC).le ()) (SC _ _ eB) (ah.same SC _ _ tB) a1 b1 ph1
       . exact q l1 H' us1 xs1 n1 (EB.trans SC.exc) (KB.trans SC.keep) ((P6.same SC).le ()) (SC _ _ eB) (ah.same SC _ _ tB) a1 b1 ph1
       . exact q l1 H' us1 xs1 n1 (EB.trans SC.exc) (KB.trans SC.keep) ((P6.same SC).le ()) (SC _ _ eB) (ah.same SC _ _ tB) a1 b1 ph1
       . rename_i z1 z2 z3
         refine⟨_,rfl,rfl,λj hj'=>?_⟩;rcases wJ j i with y | y
         . exact hj j y
         . have:j=i:=by lia
           subst this;exact zBk z1 z2 z3
     . rintro σ H' hz;obtain⟨o,rfl,rfl,hj⟩:=hz
       k_few;have hyl:(ys++[0]).length=n:=by simp[hsl];lia
       refine q l10 H' _ (ys++[0]) hnl (EB.trans SC.exc) (KB.trans SC.keep) ((P6.same SC).le ()) e10 t10 () () (λy hy=>?_);obtain⟨j,hj',e⟩:=vA hy;have:=hj j .aw;rw[wb,we hj']at this;rw[<- e];exact this
theorem UE{l:wf}{k:Int}{xs:.x}(h:aF K H l xs)(P:bA H p k)(hx:∀x y z,xs≠[.int x,.bl y,.int z])(E:Exc p H H'):aF K H' l xs:=by
 obtain⟨a,b,n,e,_⟩:=P;rcases h with(h | ⟨o,h⟩) | h
 ·exact .inl (.inl (E.at (λz=>by subst z;rw[h]at e;exact hx _ _ _ (by injection e with e;injection e)) h))
 ·exact .inl (.inr ⟨o,E.at (λz=>by subst z;rw[h]at e;cases e) h⟩)
 ·exact .inr h
theorem zAZ : ∀x y z,ns.map V.int≠[.int x,.bl y,.int z]:=λx y z e=>by
 have:=congrArg (λl=>l[1]?) e;simp at this
theorem zFh{k:Int}{v:V}(h:Is K H v (LN xs))(P:bA H p k)(E:Exc p H H'):Is K H' v (LN xs):=by
 obtain⟨l,us,rfl,hs,t⟩:=bY.mp h;have KK:=P.keep E;refine bY.mpr ⟨l,us,rfl,UE hs P (λx y z e=>?_) E,ah.keep KK _ _ (fh xs) t⟩;subst e;cases xs with
 | nil=>cases t.length
 | cons x xs =>
  obtain⟨v,r,e,i,_⟩:=cP.mp t;cases e;obtain⟨c,_,e,_⟩:=cA.mp (show Is K H _ (.tuple _)from i);cases e
inductive zkn(K:wa)(u v s:V)(H:Hp)(Q:VK)(E:XK):Prop|v{J:Nat}{k:Int}{w:.am}(e0:u=.ref U)(e2:s=.ref Z)(hp:bA H U k)(hk:k<=900000)(hne:Z≠U)(ir:Is K H v (R S W))(e:H Z=some (.lst Y))(t:ah K H Y (bL D G I w))(ok:aK S W)(n1:1<=J)(n4:J<=4)(T:dU 4000 J D G I w)(bC:D.length<=20)(c:S=1->∀L,L<=D.length->Cm 100 (cY D I L))(q:∀l us' O ps' h' ys' w',Exc U H O->aW H O->bA O U (k+10)->O l=some (.lst us')->l≠U->ah K O us' (bL ps' h' ys' w')->dU 20000 J ps' h' ys' w'->Q .az O)
theorem Pl(T:.o):pc P w base T.Ds 8 zkn:=by
 exists T.Ds,["_law_pen_here","_law_rule","_law_paper_here","_law_at","_law_hour","_law_phases","_law_rounds","_law_sizes","_law_places","_law_later","_law_word_here","_law_time_here"],"c3",(ak (ay 3 jp (ao (dN T) hr (ae .C (ae (cT K T.h0t .cR) ag))))
     (ak (fQ (fN fK (cB ck .au .ak .J) fW (fE ar)) (gZ (n:=2) rfl (dg (cC (i:=4) jp rfl .s) (dg (cC (i:=5) jp rfl .s) gQ))))
     (ak (ay 6 jp (az cv ar (ao (dN T) hr (ae .C (ae (cB ck (cZ (ae ar .z)) .aE .J) ag)))))
     (ak (fQ (ao (Fs T) hr (q1 5)) (gZ (n:=2) rfl (dg (cC (i:=7) jp rfl .s) (dg (cC (i:=8) jp rfl .s) gQ))))
     (ak (ay 9 jp (ao (YD T) hr (ae .cI (ae (ao (Bk T) hr (by exact(@ae _ _ _ _ _ .X (@ae _ _ _ _ _ (pv 7) (@ae _ _ _ _ _ (pv 8) (@ae _ _ _ _ _ (pv 6) ag bM) bM) bM) bM))) ag))))
     (ak (ay 10 jp (ao (zoc T) hr (q2 1 9)))
     (ak (aY (dB tY (pv 10) gD .cG) (av (ay 10 jp (cB ck (cZ (ae fA (ae fA (ae fA ag)))) .aE .J))) bE)
     (ak (ay 11 jp (ao (h_ T) hr (ae .cL (ae (ao (zoI T) hr (by exact(@ae _ _ _ _ _ .X (@ae _ _ _ _ _ (pv 7) (@ae _ _ _ _ _ (pv 8) (@ae _ _ _ _ _ (pv 6) ag bM) bM) bM) bM))) ag))))
     (av (aA (az cv (fN fK .au fW (fE .ak)) (cZ (ae (aU (by exact(@ae _ _ _ _ _ .cL (@ae _ _ _ _ _ .cI (@ae _ _ _ _ _ (pv 6) (@ae _ _ _ _ _ ar ag rL) bM) bM) bM))) (ae (aU (q3 11 9 10)) ag))))))))))))))
 obtain@⟨p,lp,ra,rb,us,ps,hl,yl,n,k,wd,rfl,rfl,hp,hk,hne,ir,e0,t0,ok,n1,n4,TP,bC,c1,q⟩:=h;have hul:=t0.length;rw[rW]at hul;have imm:=jt ps hl yl wd;o_head eP (.of e0) ?_;k_few;rename_i r H1 r0 r1 E1 K1 P1;obtain⟨j,rfl⟩:∃j:Nat,r=(j:Int):=⟨r.toNat,by lia⟩;have hj:j<=ps.length:=by lia
 have e1:=E1.at hne e0;have t1:=ah.keep K1 _ _ imm t0;have ir1:=ir.gy K1;have il:Is K H1 .bU (.list (bL ps hl yl wd)):=bY.mpr ⟨lp,us,rfl,.of e1,t1⟩;obtain⟨d,ds,ej⟩:=zu1 (ps:=ps) (h:=hl) (ys:=yl) (w:=wd) hj;obtain⟨bh,cx,lx⟩:=TP.at hj;refine gf (j:=j) il ej (λv1 i1=>?_);o_head yS i1 (by simp[HT.bK]) .aK;rw[show(2:Int)=((2:Nat):Int)from rfl,yY]at i2;have i2:Is K H2 v2 (.tuple [N (fe ps hl j),TN (cY ps yl j)]):=i2;o_head mY i2 rfl (λus2 t2=>?_);obtain⟨vh,q1,rfl,ih,t2⟩:=cP.mp t2;obtain⟨vx,q2,rfl,ix,t2⟩:=cP.mp t2;rw[fO.mp t2];wtm_at "ga";rename_i la Ha na Sa ea rb' Hb b0 b1 Eb Kb Pb z hz rc Hc c0 c2 Ec Kc Pc;have K2:=Sa.keep.trans (Kb.trans Kc);have KK:=K1.trans (S2.keep.trans K2);have EE:=E1.trans (S2.exc.trans (Sa.exc.trans (Eb.trans Ec)));have ec:=Ec.at hne (Eb.at hne (Sa _ _ (S2 _ _ e1)));have tc:=ah.keep KK _ _ imm t0;have irc:=ir.gy KK;have ihc:=ih.dw K2 (ee _);have ixc:=ix.dw K2 (d6 _);clear il i1 i2 t2 ea na Sa Eb Kb Pb Ec Kc K2 E1 K1 P1 t1 ir1 S2 ih ix e1 hp;obtain⟨r,hr⟩:∃r':Nat,1+rc=(r':Int):=⟨(1+rc).toNat,by lia⟩;have c6:r<=30:=by lia
 have r1':1<=r:=by lia
 rw[hr];have cone:=λe=>c1 e j hj
 generalize cY ps yl j=xs at *;generalize fe ps hl j=hh at *;clear c0 c2 hr hz ej;have x8:xs.length<=8:=by lia
 have bx:∀i,af 80000 .an:=λi=>(cx.get i).mono ⋯
 have sz:=oU (show 1<=xs.length by lia) x8;have hvl:=jn xs;have hvp:=lu (show 1<=xs.length by lia)
 have hn:(aG xs).length=(aH xs).length+1:=by
   unfold aG aH;rw[wn,VW];lia
 have cp:Cm 4000 .aT:=kn cx;have bp:∀i,af 50000 ((aH xs).getD i 0):=λi=>(cp.get i).mono ⋯
 have sm:=sz.pos;have wc:=Kh ok sz hn cp r;have ct:af 10000 (fV ra rb .aq .aT r):=(wc.eH .bH).mono ()
 have cl:Cm 10000 ((wr xs.length).map λw=>(aX ra rb .aq r .aT++[0]).getD (aM xs w) 0):=(wc.mono ()).hJ λy hy=>by
   obtain⟨i,_,rfl⟩:=wW.mp hy;rcases wJ (aM xs i) (aX ra rb .aq r .aT++[0]).length with z | z
   . rcases vG.mp (getD_mem (d:=0) z)with y | y
     . exact .inl (wH _ y)
     . exact .inr (wZ.mp y)
   . rw[wb,wQ z];exact .inr rfl
 clear wc;refine Sr.v (.inr ixc) () x8 bx .as;refine mY (show Is K H3 v3 (.tuple [LZ .aq,LN .aT])from i3) rfl (λus3 t3=>?_);obtain⟨vz,q1,rfl,iz,t3⟩:=cP.mp t3;obtain⟨vp,q2,rfl,ip,t3⟩:=cP.mp t3;rw[fO.mp t3];obtain⟨p1,rfl,hz⟩:=Iw iz;clear t3 iz i3;o_head Rb.v rfl rfl (irc.by S3) hz ip hn () (kz ok sz ()) bp (λl9 H9 us9 n9 S9 e9 t9=>?_);rw[wE]at t9;o_head Rl.v (ixc.by (S3.trans S9)) (cw e9 t9) x8 (by rw[cu,<- hn,oA]) bx .cH;have T10:=S3.trans .cu;have hl10:((wr xs.length).map λw=>(aX ra rb .aq r .aT++[0]).getD (aM xs w) 0).length=n:=by rw[wn,vv];exact lx
 generalize ((wr xs.length).map λw=>(aX ra rb .aq r .aT++[0]).getD (aM xs w) 0)=ly at *;o_head znY.v (irc.by T10) i10 ok () () cl ⋯ (λH11 S11=>?_);have T11:=T10.trans S11;have wis:=Kg (a:=ra) (b:=rb) (xs:=ly);rw[<- zrL]at wis;generalize pN ra rb ly=o at *;wtm_at "gt";wtm_at "tl";wtm_at "sq"
 have main:∀(w':.am)(H12:Hp),gT w'->Exc p H11 H12->aW H11 H12->bA H12 p (k+10)->tl_ {nx:=λ_ H'=>Q V.bX H',rt:=Q} [some .ay,some x1,some .bU,some (.int (j:Int)),some vh,some vx,some (.int (r:Int)),some (.ref p1),some vp,some v10,some (.str (wB w')),none] H12:=by
   intro w' H12 iw E12 K12 P12;wtm_at "tl";k_few;have hz12:aF K H12 p1 _:=UE ((S9.trans (S10.trans S11)).seq hz) (Pc.same T11) zAZ E12;have ip12:=zFh (ip.by (S9.trans (S10.trans S11))) (Pc.same T11) E12;have T12:aW Hc H12:=T11.keep.trans K12;have ih12:=ihc.dw T12 (ee _);have ix12:=ixc.dw T12 (d6 _);have iy12:=i10.dw (S11.keep.trans K12) (d6 _);have e12:=E12.at hne (T11 _ _ ec);have t12:=ah.keep T12 _ _ imm tc;refine zot.v rfl rfl (irc.gy T12) hz12 ip12 hn () (kz ok sz ()) bp (cp.mono ⋯) (λe=>kn (cone e)) (λv13 H13 S13 i13=>?_);rw[wE]at i13;have ih13:=ih12.by S13;k_few;rename_i v14 H14 S14 i14;have T14:=S13.trans S14;refine iE (bY.mpr ⟨lp,us,rfl,.of (T14 _ _ e12),ah.same T14 _ _ t12⟩) (λl15 H15 us15 n15 S15 e15 t15=>?_);rw[yY,Jy hj]at t15;have T15:=T14.trans S15;o_head cW (ds:=[N hh,TN xs,.int (r:Int),.int 0]) ∅ (.cons (ih12.by T15) (.cons (ix12.by T15) (.cons .bp (.cons .bp .nil)))) (λv16 H16 S16 i16=>?_);have T16:=T15.trans S16;o_head cW (ds:=[N (hh+fV ra rb .aq .aT r),TN ly,.str (wB w')]) ∅ (.cons (i14.by (S15.trans S16)) (.cons (iy12.by T16) (.cons .aY .nil))) (λv17 H17 S17 i17=>?_);o_head c9 ∅ (λl18 H18 n18 S18 e18=>?_);have hu15:=t15.length;rw[wn,Wf]at hu15;refine gv ((S16.trans (S17.trans S18)) _ _ e15) e18 (by rw[W7];simp;lia) (λl19 H19 n19 S19 e19=>?_);have TT:=T16.trans (S17.trans (S18.trans S19))
   have P18:=P12.same (T16.trans (S17.trans S18));refine q l19 (us15++[v16,v17]) H19 (ps.take j++[⟨hh,xs,r,0⟩]) (hh+fV ra rb .aq .aT r) ly w' (EE.trans (T11.exc.trans (E12.trans TT.exc))) (KK.trans (T11.keep.trans (K12.trans TT.keep))) (P12.same TT) e19 (bA.ne n19 P18) ?_ ⟨λe he=>?_,hl10,cl.mono ⋯,(bh.add ct).mono ⋯,iw,by rw[wM,Wf];simp;lia⟩
   . have e:bL (ps.take j++[⟨hh,xs,r,0⟩]) (hh+fV ra rb .aq .aT r) ly w'=(ps.take j).map aV.d++[.tuple [N hh,TN xs,.int (r:Int),.int 0],.tuple [N (hh+fV ra rb .aq .aT r),TN ly,.str (wB w')]]:=by
       unfold bL;rw[wU,Wr]
       rfl
     rw[e];exact(ah.same (S16.trans (S17.trans (S18.trans S19))) _ _ t15).append (.cons (i16.by (S17.trans (S18.trans S19))) (.cons (i17.by (S18.trans S19)) .nil))
   . rcases vG.mp he with z | z
     . exact(TP.rows _ (qD z)).mono ⋯
     . rw[wZ.mp z]
       exact⟨lx,cx.mono ⋯,bh.mono ⋯,c6,show(0:Nat)<=40 from by decide⟩
 rcases wis with rfl | ⟨w',rfl,iw⟩
 . wtm_at "gt"
   . wtm_at "ga"
     rename_i c5 Ha na Sa ea r5 Hr b0 b1 Er Kr Pr;have P11:=Pc.same T11;have ic:Is K Hr (.ref c5) (.list [.str (wB "one"),.str (wB "rests"),.str (wB "drawn")]):=bY.mpr ⟨c5,_,rfl,.of (Er.at (bA.ne na P11) ea),.cons .aY (.cons .aY (.cons .aY .nil))⟩;have E5:Exc p H11 Hr:=Sa.exc.trans Er;have K5:aW H11 Hr:=Sa.keep.trans Kr;have P5:=Pr.le (show k+1+1+1+1<=k+10 by lia);have h3:r5=((0:Nat):Int)\/r5=((1:Nat):Int)\/r5=((2:Nat):Int):=by lia
     rcases h3 with rfl | rfl | rfl
     . refine gf (j:=0) ic rfl (λx hx=>?_)
       rw[cN.mp hx];wtm_at "gt";exact main _ Hr .aI E5 K5 P5
     . refine gf (j:=1) ic rfl (λx hx=>?_)
       rw[cN.mp hx];wtm_at "gt";exact main _ Hr (.inr .aI) E5 K5 P5
     . refine gf (j:=2) ic rfl (λx hx=>?_)
       rw[cN.mp hx];wtm_at "gt";exact main _ Hr (.inr (.inr rfl)) E5 K5 P5
   . rename_i z
     exact absurd rfl z
 . wtm_at "gt"
   . rename_i z
     cases z
   . exact main w' H11 iw (λ_ _ _ h=>h) (au.refl H11).keep ((Pc.same T11).le ())
theorem zrC{a b:Rat}{xs:.a}(B:dy a b xs):∀{es:.aD}{i n:Nat},gk a b xs i es n->dJ a b xs i (es.map λe=>⟨aE a b xs e.1,ai a b xs e.1,e.2.1,e.2.2⟩) (aE a b xs n) (ai a b xs n)
 | [],i,n,h=>by
  have h:i=n:=h;subst h;exact⟨rfl,rfl⟩
 | e::es,i,n,h=>by
  obtain⟨h1,h2,h3⟩:=h;subst h1;exact⟨rfl,rfl,(h2.pI B).1,zrC B h3⟩
theorem zDB{a:Rat}(B:dy a b xs)(c47:gO b.den 47 xs)(h4:xs.length<=4){es:.aD}{w:.am}(P:ml a b xs es n w):dU 4000 xs.length (es.map λe=>⟨aE a b xs e.1,ai a b xs e.1,e.2.1,e.2.2⟩) (aE a b xs n) (ai a b xs n) w/\gR a b xs (es.map λe=>⟨aE a b xs e.1,ai a b xs e.1,e.2.1,e.2.2⟩) (aE a b xs n) (ai a b xs n) w:=by
 have bC:=P.bC;have cmi:=λi (hi:i<=n)=>Uv B h4 P c47 hi
 have cn:=cmi n (wu n);refine⟨⟨λe he=>?_,by rw[bS],cn.2.mono ⋯,cn.1.mono ⋯,?_,by rw[wn];lia⟩,zrC B P.walk,?_⟩
 ·obtain⟨e',he',rfl⟩:=wW.mp he
  obtain⟨j,hj,rfl⟩:=vA he';obtain⟨q1,ro,_⟩:=P.walk.at j hj;have hi:=P.walk.idx j ();rw[<- q1]at hi;obtain⟨_,c6,eK⟩:=ro.pI B;have c:=cmi _ hi;exact⟨by rw[bS],c.2.mono ⋯,c.1.mono ⋯,c6,eK⟩
 ·rcases Fc (a:=a) (b:=b) (xs:=ai a b xs n)with e | ⟨w',e,i⟩
  ·rw[P.word]at e;cases e
  ·rw[P.word]at e;cases e;exact i
 ·unfold iC
  rw[if_pos (B.hp.zero B.ok.a0 B.ok.b0 B.h1 P.n1)];exact P.word
def CD(K:wa):Sp:=λvs H Q _=>∃x0,vs=[x0] /\ ∃(a:wf)(ns:.p),x0=.ref a/\ki K H a .aC/\ns.length<=63 /\ ∀H',Q .cJ H'
theorem zFa(T:.o){f:wf}{fd:wG}(D:Dn K mg "law" (top 114) ["_law_script"] f fd):aI P w K mg base aP 15 f fd ["_law_script"] (CD K):=by
 exists D,["_law_script","_law_rule","_law_phases","_law_swarm","_law_told","_law_pen_here","_law_some","_law_k","_law_due","_law_other"],"b1",(ak (ay 1 jp (ao (zml T) hr (ae (ao (Ga T) hr (ae .C .z)) ag)))
     (ak (ay 2 jp (fM K T.h0i (ae (ao (ztT T) hr (ae (ao (Ga T) hr (ae .C .z)) (ae .X .z))) ag)))
     (ak (ay 3 jp (ao (RD T) hr (q2 1 2)))
     (ak (ay 4 jp (ao (zsB T) hr (q1 3)))
     (ak (aY (dB tY .cL gD .cG) .bI bE)
     (ak (ay 5 jp (ao (Ga T) hr (ae .C .z)))
     (ak (ay 6 jp (cZ (ae .cL (ae (ao (zwl T) hr (q3 5 1 4)) (ae (ao (Ui T) hr (q2 5 4)) ag)))))
     (ak (ay 6 jp (az cv (pv 6) (cZ (ae (ao (Ui T) hr (ae .cI (ae (qi 6) ag))) (ae (ao (Pl T) hr (q3 5 1 4)) (ae (ao (Pl T) hr (q3 5 1 4)) ag))))))
     (ak (fi vj rfl (gI rfl T.h0j (ae (cT K T.h0t (q1 6)) ag)) (cC (i:=7) jp rfl .s) (ak (ay 8 jp (ao (zu2 T) hr (ae .X (ae .au (ae (cB ck (pv 6) (pv 7) .J) ag)))))
     (av (aY (PW.pt (fI (PW.pt (mB (dB lF (pv 7) ar .cG) (lY (c7 (cF (pv 8)))))) (g6 (c7 (cF (ao (BS T) hr (ae .ak (ae (cB ck (pv 6) (pv 7) .J) (q1 8))))))))) .bI bE))))
     (ak (ay 9 jp (ao (RD T) hr (ae .X (ae (az cv (cZ (ae .aA ag)) (gu .R rfl T.h0m fS (ae (fN fK .au (fE ar) fW) ag))) ag))))
     (ak (aY (PW.pt (mB (iD K hu (pv 9) .ak) (lY (c7 (cF (ao (BS T) hr (ae (pv 9) (ae (qi 6) (ae d8 ag))))))))) .bI bE)
     (av (aA (e_ (ao (BS T) hr (ae .ak (ae (qi 6) (ae d8 ag)))) (e_ (ao (BS T) hr (ae .ak (ae (qi 6) (ae d8 ag)))) (gL (ji K hu .ak (aU (q2 1 2)))))))))))))))))))
 obtain⟨a',ns0,rfl,hs,hl,q⟩:=h;o_head FZ hs hl ⋯ ⋯ (λp1 H1 hp1 S1 P1=>?_);o_head ZD.v rfl P1 ⋯ (λv2 H2 ra rb E2 K2 P2 i2 ok=>?_);have KA:aW H H2:=S1.keep.trans K2;o_head FZ (KA.He hs) hl ⋯ ⋯ (λp3 H3 hp3 S3 P3=>?_);o_head zme.v rfl rfl (i2.by S3) ok P3 ⋯ ⋯ ⋯ (λl4 H4 us4 xs n4 E4 K4 P4 e4 t4 a4 b4 ph4=>?_);have i4:=i2.gy (S3.keep.trans K4);have KB:=KA.trans (S3.keep.trans K4);o_head iI (cw e4 t4) (λvx H5 S5 ix=>?_);have i5:=i4.by S5;have KC:=KB.trans S5.keep;have h4:xs.length<=4:=by lia
 obtain⟨bg,c47⟩:=dy.of ok a4 () ph4;clear i2 i4 S1 S3 P1 P2 P3 P4 E2 K2 E4 K4 e4 t4 n4 hp1 hp3 KA KB S5;o_head znU.v i5 ok (.inr ix) a4 () ph4 (λvw H6 S6 iw=>?_);o_head PF.v iw bg (λF H7 S7=>?_) (λl0 H7 es n w us0 P n0 S7 e7 t7=>?_)
 . k_few
   all_goals first
     | exact q _
     | (rename_i z;exact absurd rfl z)
 have T7:=S6.trans S7;have i7:=i5.by T7;have ix7:=ix.by T7;have iw7:=iw.by S7;have KD:=KC.trans T7.keep;obtain⟨T0,L0⟩:=zDB bg c47 h4 P;have few0:=P.bC;have t7':ah K H7 us0 (bL (es.map λe=>⟨aE ra rb xs e.1,ai ra rb xs e.1,e.2.1,e.2.2⟩) (aE ra rb xs n) (ai ra rb xs n) w):=by rw[<- RO];exact t7
 clear i5 ix iw S6 S7 T7 KC;k_few
 . rename_i z
   cases z
 refine FZ (KD.He hs) hl ⋯ ⋯ (λp8 H8 hp8 S8 P8=>?_);have ne0:l0≠p8:=λz=>by rw[z,hp8]at e7;cases e7
 have e08:=S8 _ _ e7;o_head zqW.v rfl rfl P8 ⋯ ne0 (i7.by S8) e08 (ah.same S8 _ _ t7) bg c47 h4 P (λl1 us1 H9 ps1 h1 y1 E9 K9 P9 e9 ne1 t9 T1 f1 L1=>?_);have i9:=(i7.by S8).gy K9;have few1:=T1.bC;have e09:=E9.at ne0 e08;have t09:=ah.keep K9 _ _ (jt ..) (ah.same S8 _ _ t7');have KE:=KD.trans (S8.keep.trans K9);have ix9:=ix7.dw (S8.keep.trans K9) (d6 _);have iw9:=iw7.dw (S8.keep.trans K9) (AX _ _ _);clear E9 K9 P8 e08 S8 t7 t7' e7 hp8 KD i7 ix7 iw7;o_head zoJ.v rfl rfl (P9.le (show(0:Int)+100<=100 by decide)) ⋯ ne0 e09 t09 a4 h4 T0 (by rw[wn];exact P.e1) (by rw[wn];lia) ⋯ (λl2 us2 HA ps2 h2 y2 w2 EA KA PA eA ne2 tA T2=>?_);have eA0:=EA.at ne0 e09;have tA0:=ah.keep KA _ _ (jt ..) t09;have eA1:=EA.at ne1 e9;have tA1:=ah.keep KA _ _ (jt ..) t9;have iA:=i9.gy KA;have ixA:=ix9.dw KA (d6 _);have iwA:=iw9.dw KA (AX _ _ _);clear e09 t09 e9 t9 i9 ix9 iw9 EA P9;o_head c9 ∅ (λlf HB nB SB eB=>?_);have PB:=PA.same SB;have nfp:lf≠p8:=bA.ne nB PA;o_head zoJ.v rfl rfl PB () ne1 (SB _ _ eA1) (ah.same SB _ _ tA1) a4 h4 T1 f1.1 f1.2 ⋯ (λl3 us3 HC ps3 h3 y3 w3 EC KC PC eC ne3 tC T3=>?_);have KBC:=SB.keep.trans KC;have EBC:Exc p8 HA HC:=SB.exc.trans EC
 have c100:ra=1->∀j,j<=(es.map λe=>(⟨aE ra rb xs e.1,ai ra rb xs e.1,e.2.1,e.2.2⟩:aV)).length->Cm 100 (cY (es.map λe=>⟨aE ra rb xs e.1,ai ra rb xs e.1,e.2.1,e.2.2⟩) (ai ra rb xs n) j):=λe j hj=>by
   rcases wJ j (es.map λe=>(⟨aE ra rb xs e.1,ai ra rb xs e.1,e.2.1,e.2.2⟩:aV)).length with z | z
   . rw[nP z,W2]
     exact D_ bg c47 e
   . have y:j=(es.map λe=>(⟨aE ra rb xs e.1,ai ra rb xs e.1,e.2.1,e.2.2⟩:aV)).length:=by lia
     rw[y,pY];exact D_ bg c47 e
 o_head zkn.v rfl rfl PC () ne0 (iA.gy KBC) (EBC.at ne0 eA0) (ah.keep KBC _ _ (jt ..) tA0) ok a4 h4 T0 (by rw[wn];lia) c100 (λl4 us4 HD ps4 h4' y4 w4 ED KD PD eD ne4 tD T4=>?_);have KBD:=KBC.trans KD;have EBD:=EBC.trans ED;o_head zkn.v rfl rfl PD () ne0 (iA.gy KBD) (EBD.at ne0 eA0) (ah.keep KBD _ _ (jt ..) tA0) ok a4 h4 T0 (by rw[wn];lia) c100 (λl5 us5 HE ps5 h5 y5 w5 EE KE' PE' eE ne5 tE T5=>?_);have KBE:=KBD.trans KE';have EBE:=EBD.trans EE;o_head c9 ∅ (λlg HF nF SF eF=>?_);o_head gv (SF _ _ ((EC.trans (ED.trans EE)).at nfp eB)) eF (by rw[W7];simp) (λlh HG nG SG eG=>?_);have S2:=SF.trans SG;have eG:HG lh=some (.lst [.ref l0,.ref l1,.ref l2,.ref l3,.ref l4,.ref l5]):=eG;have KG:=KBE.trans S2.keep;have iG:=iA.gy KG;have ixG:=ixA.dw KG (d6 _);have iwG:=iwA.dw KG (AX _ _ _)
 have pap:∀k:Nat,k<6->∃l us ps h ys w,L2.jA [V.ref l0,.ref l1,.ref l2,.ref l3,.ref l4,.ref l5] (k:Int)=some .az/\HG l=some (.lst us)/\ah K HG us (bL ps h ys w)/\dU 20000 xs.length ps h ys w/\(k<2->gR ra rb xs ps h ys w):=λk hk=>by
   match k,hk with
   | 0,_=>exact⟨_,_,_,_,_,_,rfl,S2 _ _ (EBE.at ne0 eA0),ah.keep KG _ _ (jt ..) tA0,T0.mono ⋯,λ_=>L0⟩
   | 1,_=>exact⟨_,_,_,_,_,_,rfl,S2 _ _ (EBE.at ne1 eA1),ah.keep KG _ _ (jt ..) tA1,T1.mono ⋯,λ_=>L1⟩
   | 2,_=>exact⟨_,_,_,_,_,_,rfl,S2 _ _ (EBE.at ne2 eA),ah.keep KG _ _ (jt ..) tA,T2.mono ⋯,λz=>absurd z ⋯⟩
   | 3,_=>exact⟨_,_,_,_,_,_,rfl,S2 _ _ ((ED.trans EE).at ne3 eC),ah.keep (KD.trans (KE'.trans S2.keep)) _ _ (jt ..) tC,T3.mono ⋯,λz=>absurd z ⋯⟩
   | 4,_=>exact⟨_,_,_,_,_,_,rfl,S2 _ _ (EE.at ne4 eD),ah.keep (KE'.trans S2.keep) _ _ (jt ..) tD,T4,λz=>absurd z ⋯⟩
   | 5,_=>exact⟨_,_,_,_,_,_,rfl,S2 _ _ eE,ah.same S2 _ _ tE,T5,λz=>absurd z ⋯⟩
 have KQ:=KE.trans (KA.trans KG);clear eA0 tA0 eA tA eC tC eD tD eE tE eF eB EC ED EE EBC EBD EBE KBC KBD KBE KC KD KE' PA PB PC PD PE' SB SF SG nB nF nG T3 T4 T5 T2 c100 KA KE iA ixA iwA;o_head eP (.of eG) ?_;o_head jO (n:=6) ⋯ ⋯ (λj σ H'=>∃o7 o8,σ = [some (.ref a'),some v2,some vx,some vw,some (.ref l0),some (.ref p8),some (.ref lh),o7,o8,none]/\au HG H') ⟨_,_,rfl,au.refl _⟩ ?_ ?_
 . rintro j σ HH hj hz;obtain⟨o7,o8,rfl,SH⟩:=hz
   have hj:j<6:=by simpa using hj
   obtain⟨l,us,ps,h,ys,w',hat,el,tl,TT,LL⟩:=pap j hj;have il:Is K HH .az (.list (bL ps h ys w')):=bY.mpr ⟨l,us,rfl,.of (SH _ _ el),ah.same SH _ _ tl⟩;o_head jf (.of (SH _ _ eG)) hat ?_;o_head ZL.v (iG.by SH) (ixG.by SH) il bg c47 h4 TT (λLk HI SI=>?_) (λNk HI SI=>?_)
   . have SHI:=SH.trans SI
     k_few
     all_goals
       refine jf (.of (SHI _ _ eG)) hat ?_;o_head Y6.v rfl (d:=true) (iwG.by SHI) (il.by SI) ok a4 h4 bg.hp TT ⟨λ_=>Lk,λ_=>rfl⟩ (λHJ SJ=>?_);k_few;exact⟨_,_,rfl,SHI.trans SJ⟩
   . have SHI:=SH.trans SI
     k_few
     . exact absurd (LL ()) Nk
     . refine jf (.of (SHI _ _ eG)) hat ?_
       o_head Y6.v rfl (d:=false) (iwG.by SHI) (il.by SI) ok a4 h4 bg.hp TT ⟨λz=>absurd z ⋯,λz=>absurd z Nk⟩ (λHJ SJ=>?_);k_few;exact⟨_,_,rfl,SHI.trans SJ⟩
 . rintro σ HH hz;obtain⟨o7,o8,rfl,SH⟩:=hz
   obtain⟨la1,ua1,qs,qh,qy,qw,hat1,el1,tl1,TT1,LL1⟩:=pap 1 ⋯;obtain⟨la0,ua0,qs0,qh0,qy0,qw0,hat0,el0,tl0,TT0,LL0⟩:=pap 0 ⋯;cases (show some (V.ref l1)=some (.ref la1)from hat1);cases (show some (V.ref l0)=some (.ref la0)from hat0);have LL1:=LL1 ⋯;have LL0:=LL0 ⋯;have ixH:=ixG.by SH;o_head dj (r:=wC 1 7) .bQ .bQ (λv9 HI SI i9=>?_);o_head c9 ∅ (λla HJ nJ SJ eJ=>?_);o_head yS (show Is K HJ vx (.tuple .bg)from ixH.by (SI.trans SJ)) (by rw[wn,HT.sJ,show(1:Int)=((1:Nat):Int)from rfl,HT.pF];rintro ⟨h1,h2⟩;lia) (λvs HK SK iK=>?_);rw[Gv]at iK;o_head mj iK (λlb HL ub nL SL eL tL=>?_);have hub:=tL.length;rw[V3,wn]at hub;o_head gv ((SK.trans SL) _ _ eJ) eL (by rw[W7];simp;lia) (λlc HM nM SM eM=>?_)
   have hz:ah K HM ([v9]++ub) ((wC 1 7::xs.tail).map N):=by
     rw[vi,List.map_tail];exact .cons (i9.by (SJ.trans (SK.trans (SL.trans SM)))) (ah.same SM _ _ tL)
   have TM:=SH.trans (SI.trans (SJ.trans (SK.trans (SL.trans SM))));have zl:(wC 1 7::xs.tail).length=xs.length:=by rw[Wi,V3];lia
   have zp:∀x∈wC 1 7::xs.tail,f_ x:=λx hx=>by
     rcases wO.mp hx with e | e
     . rw[e];exact Hn ⋯ ⋯ ⋯
     . exact ph4 x (List.mem_of_mem_tail e)
   have iLN:=cw eM hz;generalize wC 1 7::xs.tail=zs at *;o_head znU.v (iG.by TM) ok (.inl iLN) () () zp (λvo HN SN io=>?_);have TNN:=TM.trans SN;have il1:Is K HN (.ref l1) (.list (bL qs qh qy qw)):=bY.mpr ⟨l1,ua1,rfl,.of (TNN _ _ el1),ah.same TNN _ _ tl1⟩;have il0:Is K HN (.ref l0) (.list (bL qs0 qh0 qy0 qw0)):=bY.mpr ⟨l0,ua0,rfl,.of (TNN _ _ el0),ah.same TNN _ _ tl0⟩;have iwN:=iwG.by TNN;have iGN:=iG.by TNN;have fZ:=ixG.by TNN;have eN:=TNN _ _ eG;wtm_at "gt";wtm_at "tl";wtm_at "sq"
   have main:∀HO,au HN HO->tl_ {nx:=λ_ H'=>Q V.bX H',rt:=Q} [some (.ref a'),some v2,some vx,some vw,some (.ref l0),some (.ref p8),some (.ref lh),o7,o8,some vo] HO:=by
     intro HO SO;wtm_at "tl";o_head Y6.v rfl (d:=true) (iwN.by SO) (il1.by SO) ok a4 h4 bg.hp TT1 ⟨λ_=>LL1,λ_=>rfl⟩ (λHP SP=>?_);have SOP:=SO.trans SP;o_head Y6.v rfl (d:=true) (iwN.by SOP) (il0.by SOP) ok a4 h4 bg.hp TT0 ⟨λ_=>LL0,λ_=>rfl⟩ (λHR SR=>?_);have SOR:=SOP.trans SR;o_head cW (ds:=[R ra rb,TN xs]) ∅ (.cons (iGN.by SOR) (.cons (fZ.by SOR) .nil)) (λv17 H17 S17 i17=>?_);refine J6 (iwN.by (SOR.trans S17)) (show Is K H17 v17 (bG ra rb xs)from i17) (zGS _ _ _) ⋯ (zG4 _ _ _) ?_;exact q _
   wtm_at "gt";refine zFJ io iwN ?_;rw[decide_eq_true (rfl:ra=ra),decide_eq_true (rfl:rb=rb),W3,W3]
   by_cases hzx:zs=xs
   . rw[decide_eq_true hzx]
     wtm_at "gt";exact main HN .ar
   . rw[decide_eq_false hzx]
     have no:¬ gR ra rb zs qs qh qy qw:=λL=>by
       have f1:=dJ.first (j:=0) (Vh _) L.1;have f2:=dJ.first (j:=0) (Vh _) LL1.1;exact hzx (f1.2.symm.trans f2.2)
     wtm_at "gt";refine Y6.v rfl (d:=false) io il1 ok () () ⟨λx hx=>(zp x hx).nn,λx hx=>(zp x hx).lt⟩ (by rw[zl];exact TT1) ⟨λz=>absurd z ⋯,λz=>absurd z no⟩ (λHO SO=>?_);wtm_at "gt";exact main HO SO
end
variable{us:.Y}
theorem TH(h:us.length=1):∃a,us=[a]:=by
 cases us with
 | nil=>cases h
 | cons a t=>exact⟨a,by rw[Qa.mp (QF h)]⟩
theorem PM(h:us.length=2):∃a0 a1,us=[a0,a1]:=by
 cases us with
 | nil=>cases h
 | cons a0 t =>
  obtain⟨a1,e⟩:=TH (QF h);exact⟨a0,a1,by rw[e]⟩
theorem Ts(h:us.length=3):∃a0 a1 a2,us=[a0,a1,a2]:=by
 cases us with
 | nil=>cases h
 | cons a0 t =>
  obtain⟨a1,a2,e⟩:=PM (QF h);exact⟨a0,a1,a2,by rw[e]⟩
theorem Uo(h:us.length=4):∃a0 a1 a2 a3,us=[a0,a1,a2,a3]:=by
 cases us with
 | nil=>cases h
 | cons a0 t =>
  obtain⟨a1,a2,a3,e⟩:=Ts (QF h);exact⟨a0,a1,a2,a3,by rw[e]⟩
theorem zGr(h:us.length=5):∃a0 a1 a2 a3 a4,us=[a0,a1,a2,a3,a4]:=by
 cases us with
 | nil=>cases h
 | cons a0 t =>
  obtain⟨a1,a2,a3,a4,e⟩:=Uo (QF h);exact⟨a0,a1,a2,a3,a4,by rw[e]⟩
inductive aN(K:wa)(n:Str)(st:vc)(f:wf):Prop
 | mk {od an:.cD} {sl:.bx} {oc kV dc pm cd ct:wo} (a:vE K wV n=some (some (.ref f))) (l:K.lookup f=some ⟨oc,od,.func (VY n n (rk st) (nQ st) (aJ st) .none kV dc pm an cd ct),sl⟩) (c:QL K cd n=true) (k:qW K (.ref f)=true):aN K n st f
theorem cr{K:wa}{h:wS}{mg:.M}{n:Str}{j:Nat}{f:wf}{ps:.U}(X:K.In h)(GN:h.Ns wV mg)(A:aN K n (top j) f)
  (b:∀(kV doc pm:wo)(an:.cD)(cdv ct:wo)(us:.Y),us.length=ps.length->bindArgs (VY n n (rk (top j)) (nQ (top j)) (aJ (top j)) .none kV doc pm an cdv ct) ⟨us,[]⟩=pure (ps.zip us):=by wtm_at "bz"):am K mg j n ps:=by
 obtain⟨a,l,c,k⟩:=A;have e:ac K j n=f:=by unfold ac;rw[a]
 have e2:∀d,(∃oc od osl,K.lookup f=some ⟨oc,od,.func d,osl⟩)->al K j n=d:=λd⟨_,_,_,l⟩=>by unfold al;rw[e,l]
 have F:=zBr (st:=top j) l c k;show Dn K mg n (top j) ps (ac K j n) (al K j n);rw[e,e2 _ ⟨_,_,_,l⟩];exact⟨F,WA X GN a,F.binds b⟩
set_option maxHeartbeats 8000000 in
theorem all_mk{l:xu}{w:wX}{K:wa}{h:wS}{mg:.M}{fa:wf}(tr:l.prog.given.tree=none)(X:K.In h)(G:h.Ns wV mg)(hfa:mg "law"=some (.ref fa))
  {f89:wf}(D:pX K mg)
  {e0:wf}
  {e1:wf}
  {g0:wf} {gn0:Nat} {gd0:.cD} {gs0:.bx} {tk0_0 tk0_1:Tok}
  {g1:wf} {gn1:Nat} {gd1:.cD} {gs1:.bx} {tk1_0 tk1_1:Tok}
  {g2:wf} {gn2:Nat} {gd2:.cD} {gs2:.bx} {tk2_0 tk2_1:Tok}
  {tk3:Tok}
  {tk4:Tok}
  {tk5:Tok}
  {tk6:Tok}
  {tk7:Tok}
  {tk8:Tok}
  {g9:wf} {gn9:Nat} {gd9:.cD} {gs9:.bx} {tk9_0 tk9_1 tk9_2:Tok}
  (a89:aN K "law" (top 114) f89)
  (h0g:vE K wV "NoStand"=some (some (.ref e0)))
  (h0h:vE K wV "TooLong"=some (some (.ref e1)))
  (h0e:V9 K e0 yV "ValueError.__new__"=true)
  (h0b:qz K (.ref e0) (.ref e1)=some false)
  (h0f:V9 K e1 yV "ValueError.__new__"=true)
  (h0a:qz K (.ref e1) (.ref e1)=some true)
  (q0:vE K wV "NOUGHT"=some (some (.ref g0)))
  (r0:K.lookup g0=some ⟨.type "tuple",gd0,.seq #[.int 0 tk0_0,.int 1 tk0_1] gn0,gs0⟩)
  (q1:vE K wV "ONE"=some (some (.ref g1)))
  (r1:K.lookup g1=some ⟨.type "tuple",gd1,.seq #[.int 1 tk1_0,.int 1 tk1_1] gn1,gs1⟩)
  (q2:vE K wV "GREATEST_FACTOR"=some (some (.ref g2)))
  (r2:K.lookup g2=some ⟨.type "tuple",gd2,.seq #[.int 4 tk2_0,.int 1 tk2_1] gn2,gs2⟩)
  (q3:vE K wV "FACTOR_BOTTOM"=some (some (.int 8 tk3)))
  (q4:vE K wV "SHIFT_BOTTOM"=some (some (.int 12 tk4)))
  (q5:vE K wV "MOST_WORMS"=some (some (.int 8 tk5)))
  (q6:vE K wV "PHASE_BOTTOM"=some (some (.int 60 tk6)))
  (q7:vE K wV "MOST_FREE"=some (some (.int 30 tk7)))
  (q8:vE K wV "MOST_GLOWS"=some (some (.int 40 tk8)))
  (q9:vE K wV "WORDS"=some (some (.ref g9)))
  (r9:K.lookup g9=some ⟨.type "tuple",gd9,.seq #[.str "one" tk9_0,.str "rests" tk9_1,.str "drawn" tk9_2] gn9,gs9⟩)
  : ∃fd:wG,(∀(s:wq)(v:wo),BindsTo s fd ⟨[v],[]⟩ [("_law_script",v)]) /\ ∀base:wS,K.In base->base.Ns wV mg->aI l.prog w K mg base aP 15 fa fd ["_law_script"] (CD K):=by
 obtain⟨aL,lL,cL,kL⟩:=a89;cases hfa.symm.trans (WA X G aL);have FL:=zBr (st:=top 114) lL cL kL;have D89:Dn K mg _ _ ["_law_script"] _ _:=⟨FL,WA X G aL,FL.binds (by wtm_at "bz")⟩
 have T:Txt l.prog K mg ⟨e0,e1,g0,g1,g2,g9⟩:=⟨D,
  tr,
  WA X G h0g,
  WA X G h0h,
  h0e,
  h0b,
  h0f,
  h0a,
  WA X G q0,
  λH=>.inr ⟨_,_,_,r0,rfl,rfl,by simp;decide,(.cons ⟨_,rfl⟩ (.cons ⟨_,rfl⟩ .nil))⟩,
  WA X G q1,
  λH=>.inr ⟨_,_,_,r1,rfl,rfl,by simp;decide,(.cons ⟨_,rfl⟩ (.cons ⟨_,rfl⟩ .nil))⟩,
  WA X G q2,
  λH=>.inr ⟨_,_,_,r2,rfl,rfl,by simp;decide,(.cons ⟨_,rfl⟩ (.cons ⟨_,rfl⟩ .nil))⟩,
  ⟨_,WA X G q3⟩,
  ⟨_,WA X G q4⟩,
  ⟨_,WA X G q5⟩,
  ⟨_,WA X G q6⟩,
  ⟨_,WA X G q7⟩,
  ⟨_,WA X G q8⟩,
  WA X G q9,
  λH=>.inr ⟨_,_,_,r9,rfl,rfl,by simp;decide,(.cons ⟨_,rfl⟩ (.cons ⟨_,rfl⟩ (.cons ⟨_,rfl⟩ .nil)))⟩⟩
 exact⟨_,λs v=>.of_eq rfl,λbase _ _=>zFa T D89⟩
theorem walk{l:xu}{q:wT}{loose:.U}{XP:(Str->Option wo)->wS->Prop}{YP:wX->wS->Prop}{d:DefRec}{K:Params->wa}(hn:l.most=some 63)(himp:importsNone q=true)(hdf:d.params.defaults=[])
  (hY:∀(w:wX)(h:wS),YP w h->(K w.params).In h)
  (F:∀(w:wX)(mg:.M)(fa:wf)(h:wS),(K w.params).In h->h.Ns wV mg->mg d.name=some (.ref fa) ->
   ∃fd:wG,(∀(s:wq)(u:wo),BindsTo s fd ⟨[u],[]⟩ [("_law_script",u)]) /\ ∀base:wS,(K w.params).In base->base.Ns wV mg->aI l.prog w (K w.params) mg base aP 15 fa fd ["_law_script"] (CD (K w.params))) :
  uY q loose XP YP l.row.toRowW d [] (λf vs=>uA f vs) :=
 L2.aav (n:=63) (k:=15) (x:="_law_script") (CX:=λ_=>aP) (sp:=λw=>CD (K w.params)) hn ⋯ himp hdf ⟨rfl,by decide,by decide,rfl,λ_ _ h=>nomatch h⟩ hY F (λ_ H a ns hl hO hS=>⟨.ref a,rfl,a,ns,rfl,zE8 hO hS,hl,λ_=>rfl⟩) λ_ _ _ _ _ z=>z
end G
local macro_rules | `(tactic| wtm_at "fk")=>`(tactic| (refine' G.aN.mk ?a ?l ?c ?k; (case a=>k_is); (case l=>k_is); (case c=>k_is); (case k=>k_is)))
open PySem PySem.W PyProof.Rows
set_option maxRecDepth 100000 in
set_option maxHeartbeats 0 in
theorem PySem.Challenge.cw_glowflock_k32_papers_looked_through_holds : PySem.Challenge.rw_glowflock_k32_papers_looked_through.Holds := by
 w_on; refine GH.head ?_
 k_fill
 refine G.walk (l:=PySem.Challenge.rw_glowflock_k32_papers_looked_through) rfl .bQ rfl (fun w h Y=>PySem.W.kIn_of Y) ?F
 case F =>
   intro w mg fa h KX GG hmg;refine' G.all_mk rfl KX GG hmg ?D ?a89 ?h0g ?h0h ?h0e ?h0b ?h0f ?h0a ?q0 ?r0 ?q1 ?r1 ?q2 ?r2 ?q3 ?q4 ?q5 ?q6 ?q7 ?q8 ?q9 ?r9
   (case D=>open G in constructor<;>first|exact vN KX GG (by k_is)|(refine' cr KX GG ?A;(case A=>wtm_at "fk")))
   (case a89=>wtm_at "fk")
   (case h0g|h0h=>k_is)
   (case h0e=>k_exc)
   (case h0b=>kts_exm)
   (case h0f=>k_exc)
   (case h0a=>kts_exm)
   (case q0|r0|q1|r1|q2|r2|q3|q4|q5|q6|q7|q8|q9|r9=>k_is)
#print axioms PySem.Challenge.cw_glowflock_k32_papers_looked_through_holds
