import PyProof.Rows.All
import Wide.All
import OpenK.AllK
import Wide.FinOn
import Lean
import PyProof.EqAt
import PyProof.EqKinds
import PyProof.TupleCall
import PyProof.P3In
import PyProof.ReprRoads
import PyProof.MaxThree
import PyProof.Rows.SetFrom
import PyProof.SetRoads
import PyProof.Rows.TupDisplay
import PySem.Challenge.RW_glowflock_k65_whole_within_told_rounds
set_option compiler.extract_closed false
set_option Elab.async false
set_option linter.all false
set_option maxRecDepth 100000
namespace GH
open PySem PySem.W PyProof.Rows
noncomputable def zp7 (p : Program) (w : World) (m : Nat) (an : Option Value) (N : Nat) (s0 : Shared) : Option Shared :=
 Option.bind (Fast.tw14082659384304107361 Fast.tw14364793385576792824 p w m an N s0 (topStub p)) fun s1=>match staticsOk (Fast.tw5923862056798008813 p.main.body) s0.heap s1.heap && namesBound p s1.heap && gensDone s1 && laidKept s0.heap s1.heap with | true=>some s1 | false=>none
noncomputable def zgA (w : World) (os : OsState) : Shared:=⟨boot_heap w.params,#[],boot_drawn,boot_toks,os⟩
theorem zm1 {p q : Program} {loose : List Str} {Xt : Shared -> Bool} {A : Type} {Yf : Shared -> A} {Ya : World -> A} {N : Nat} (e : opening p = plainProg p.main.scope.names) (hN : Nat.ble 600 N = true) (f : ∀ s,fenceModules? p s = some s) {m : Nat} {an : Option Value}
   (size : ∀ w : World,((boot_heap w.params).isNs mainGlobals,(boot_heap w.params).objs.size,(boot_heap w.params).nsMap mainGlobals "__annotations__") = (true,m,an))
   (h : ∀ w : World,(fun os=>(zp7 p w m an N (zgA w os)).map (fun s=>(Fast.tw4187177175401517315 q loose (Fast.tw5923862056798008813 p.main.body) Xt true s,Yf s))) = fun _=>some (openGood q loose,Ya w)) : LeftO p q loose Xt Yf Ya N:=fun w=>by
 obtain ⟨⟨h',gs,d,k,os⟩,e',e2⟩:=Option.map_eq_some_iff.mp (boot_open e hN f (w:=w))
 obtain ⟨rfl,rfl,rfl,rfl⟩ : h' = boot_heap w.params /\ gs = #[] /\ d = boot_drawn /\ k = boot_toks:=by simpa using e2
 obtain ⟨z1,z2,z3⟩ : _ /\ _ /\ _:=by simpa only [Prod.mk.injEq] using size w
 have r:=congrFun (h w) os
 unfold openEnds
 rw [e']
 show Option.map _ (topFrom treeTable p w N _) = _
 rw [<- r]
 unfold topFrom zp7 zgA
 rw [<- Fast.te14082659384304107361,<- Fast.te14364793385576792824,<- Fast.te5923862056798008813,<- Fast.te4187177175401517315]
 dsimp only
 rw [z1,z2,z3]
 rfl
noncomputable def zjq (p : Program) (w : World) (m : Nat) (an : Option Value) (N : Nat) (s0 : Shared) : Option Shared:=Fast.tw14082659384304107361 Fast.tw14364793385576792824 p w m an N s0 (topStub p)
noncomputable def zsb (p : Program) (w : World) (m : Nat) (an : Option Value) (N : Nat) (os : OsState) : Option Bool:=(zjq p w m an N (zgA w os)).map fun s1=>staticsOk (Fast.tw5923862056798008813 p.main.body) (zgA w os).heap s1.heap && namesBound p s1.heap && gensDone s1 && laidKept (zgA w os).heap s1.heap
theorem left_three {p q : Program} {loose : List Str} {Xt : Shared -> Bool} {A : Type} {Yf : Shared -> A} {Ya : World -> A} {N : Nat} (e : opening p = plainProg p.main.scope.names) (hN : Nat.ble 600 N = true) (f : ∀ s,fenceModules? p s = some s) {m : Nat} {an : Option Value}
   (size : ∀ w : World,((boot_heap w.params).isNs mainGlobals,(boot_heap w.params).objs.size,(boot_heap w.params).nsMap mainGlobals "__annotations__") = (true,m,an))
   (hA : ∀ w : World,(fun os=>zsb p w m an N os) = fun _=>some true)
   (hB0 : ∀ w : World,(fun os=>(zjq p w m an N (zgA w os)).map (fun s=>((Fast.tw4187177175401517315 q loose (Fast.tw5923862056798008813 p.main.body) Xt true s).1,(Fast.tw4187177175401517315 q loose (Fast.tw5923862056798008813 p.main.body) Xt true s).2.1))) = fun _=>some (expectedOf q,bltViewBooted))
   (hB1 : ∀ w : World,(fun os=>(zjq p w m an N (zgA w os)).map (fun s=>((Fast.tw4187177175401517315 q loose (Fast.tw5923862056798008813 p.main.body) Xt true s).2.2.1,(Fast.tw4187177175401517315 q loose (Fast.tw5923862056798008813 p.main.body) Xt true s).2.2.2.1))) = fun _=>some (true,true))
   (hB2 : ∀ w : World,(fun os=>(zjq p w m an N (zgA w os)).map (fun s=>(Fast.tw4187177175401517315 q loose (Fast.tw5923862056798008813 p.main.body) Xt true s).2.2.2.2)) = fun _=>some (pinGoodD (drecsOf q),plainGoodE q (looseW q loose),plainGoodD q loose,wideGood q,clsGoodW q loose))
   (hC : ∀ w : World,(fun os=>(zjq p w m an N (zgA w os)).map (fun s=>Yf s)) = fun _=>some (Ya w)) : LeftO p q loose Xt Yf Ya N:=by
 refine zm1 e hN f size fun w=>?_
 funext os
 have h1:=congrFun (hA w) os
 unfold zsb at h1
 obtain ⟨s1,e1,e2⟩:=Option.map_eq_some_iff.mp h1
 have g0:=congrFun (hB0 w) os
 have g1:=congrFun (hB1 w) os
 have g2:=congrFun (hB2 w) os
 have k:=congrFun (hC w) os
 rw [e1] at g0 g1 g2 k
 have g0:=Option.some.inj g0
 have g1:=Option.some.inj g1
 have g2:=Option.some.inj g2
 have a0:=congrArg Prod.fst g0
 have b0:=congrArg Prod.snd g0
 have a1:=congrArg Prod.fst g1
 have b1:=congrArg Prod.snd g1
 have g : Fast.tw4187177175401517315 q loose (Fast.tw5923862056798008813 p.main.body) Xt true s1 = openGood q loose:=Prod.ext a0 (Prod.ext b0 (Prod.ext a1 (Prod.ext b1 g2)))
 have k:=Option.some.inj k
 have ez : zp7 p w m an N (zgA w os) = some s1:=by
   unfold zp7
   unfold zjq at e1
   rw [e1]
   show (match _ with | true=>some s1 | false=>none) = some s1
   rw [e2]
 rw [ez]
 exact congrArg some (Prod.ext g k)
def qv : Program:=view PySem.Challenge.pw_glowflock_k65_whole_within_told_rounds [1,2,3,4,5,6,7,8,9,10,12,13,14,15,16,17,18,19,21,22,23,25,26,27,28,29,30,32,33,34,35,36,37,38,40,41,42,43,44,46,47,48,49,50,51,52,53,54,55,56,57,58,59,60,61,62,63,64]
theorem said : PySem.Challenge.rw_glowflock_k65_whole_within_told_rounds.wellSaid = true:=by kernel_rfl
theorem size (w : World) : ((boot_heap w.params).isNs mainGlobals,(boot_heap w.params).objs.size,(boot_heap w.params).nsMap mainGlobals "__annotations__") = (true,11,some (.ref 6)):=by kernel_rfl
theorem ranA (w : World) : (fun os=>zsb PySem.Challenge.rw_glowflock_k65_whole_within_told_rounds.row.prog w 11 (some (.ref 6)) 7284 os) = fun _=>some true:=by kernel_rfl
theorem ranB0 (w : World) : (fun os=>(zjq PySem.Challenge.rw_glowflock_k65_whole_within_told_rounds.row.prog w 11 (some (.ref 6)) 7284 (zgA w os)).map (fun s=>((Fast.tw4187177175401517315 qv [] (Fast.tw5923862056798008813 PySem.Challenge.rw_glowflock_k65_whole_within_told_rounds.row.prog.main.body) (fun s=>xlAt GH.qv [] s && recOk (RowW.records (OpenRow.toRowW (OpenLaw.row PySem.Challenge.rw_glowflock_k65_whole_within_told_rounds))) s) true s).1,(Fast.tw4187177175401517315 qv [] (Fast.tw5923862056798008813 PySem.Challenge.rw_glowflock_k65_whole_within_told_rounds.row.prog.main.body) (fun s=>xlAt GH.qv [] s && recOk (RowW.records (OpenRow.toRowW (OpenLaw.row PySem.Challenge.rw_glowflock_k65_whole_within_told_rounds))) s) true s).2.1))) = fun _=>some (expectedOf qv,bltViewBooted):=by kernel_rfl
theorem ranB1 (w : World) : (fun os=>(zjq PySem.Challenge.rw_glowflock_k65_whole_within_told_rounds.row.prog w 11 (some (.ref 6)) 7284 (zgA w os)).map (fun s=>((Fast.tw4187177175401517315 qv [] (Fast.tw5923862056798008813 PySem.Challenge.rw_glowflock_k65_whole_within_told_rounds.row.prog.main.body) (fun s=>xlAt GH.qv [] s && recOk (RowW.records (OpenRow.toRowW (OpenLaw.row PySem.Challenge.rw_glowflock_k65_whole_within_told_rounds))) s) true s).2.2.1,(Fast.tw4187177175401517315 qv [] (Fast.tw5923862056798008813 PySem.Challenge.rw_glowflock_k65_whole_within_told_rounds.row.prog.main.body) (fun s=>xlAt GH.qv [] s && recOk (RowW.records (OpenRow.toRowW (OpenLaw.row PySem.Challenge.rw_glowflock_k65_whole_within_told_rounds))) s) true s).2.2.2.1))) = fun _=>some (true,true):=by kernel_rfl
theorem ranB2 (w : World) : (fun os=>(zjq PySem.Challenge.rw_glowflock_k65_whole_within_told_rounds.row.prog w 11 (some (.ref 6)) 7284 (zgA w os)).map (fun s=>(Fast.tw4187177175401517315 qv [] (Fast.tw5923862056798008813 PySem.Challenge.rw_glowflock_k65_whole_within_told_rounds.row.prog.main.body) (fun s=>xlAt GH.qv [] s && recOk (RowW.records (OpenRow.toRowW (OpenLaw.row PySem.Challenge.rw_glowflock_k65_whole_within_told_rounds))) s) true s).2.2.2.2)) = fun _=>some (pinGoodD (drecsOf qv),plainGoodE qv (looseW qv []),plainGoodD qv [],wideGood qv,clsGoodW qv []):=by kernel_rfl
local macro_rules | `(tactic| o_head $H)=>`(tactic| (refine holds_open (q:=GH.qv) (loose:=[]) (Xt:=fun s=>xlAt GH.qv [] s && recOk (RowW.records (OpenRow.toRowW (OpenLaw.row PySem.Challenge.rw_glowflock_k65_whole_within_told_rounds))) s) (XP:=XL GH.qv []) (Yf:=Hook.obs $H) (Ya:=Hook.val $H) (YP:=Hook.says $H) (N:=7284) ?hl (Hook.of $H) (Hook.keeps $H) (fun s e=>xl_of s (Bool.and_eq_true_iff.mp e).1) XL.keeps (by rfl) (by rfl) (by rfl) (fun s e=>recFacts_of (Bool.and_eq_true_iff.mp e).2) (by rfl) (by first | assumption | decide +kernel) (by decide +kernel) ⟨rfl,rfl,rfl,rfl,rfl,by decide +kernel⟩ ?hw ?hc; (case hl=>refine GH.left_three (by kernel_rfl) rfl (fun s=>by kernel_rfl) GH.size GH.ranA GH.ranB0 GH.ranB1 GH.ranB2 ?_; intro w; kernel_rfl)))
local macro_rules | `(tactic| o_law)=>`(tactic| refine holds_law GH.said fun said=>?_)
set_option maxHeartbeats 0
open_top head for PySem.Challenge.rw_glowflock_k65_whole_within_told_rounds
end GH
set_option maxHeartbeats 200000
set_option Elab.async false
set_option linter.all false
set_option maxRecDepth 100000
namespace L2
open PySem PySem.Spec PyProof.Rows
abbrev Key:=Sum Int Str
def zq4 : Key -> Value -> Bool
 | .inl k,v=>Value.isInt k v
 | .inr x,v=>Value.isStrOf x v
def ztd (w : World) : Key -> Int
 | .inl k=>hashInt k
 | .inr x=>hashStr w x
theorem zbB : ∀ {k : Key} {v : Value},zq4 k v = true -> (∃ i t,k = Sum.inl i /\ v = Value.int i t) \/ (∃ x t,k = Sum.inr x /\ v = Value.str x t)
 | .inl i,v,h=>by
   obtain ⟨t,e⟩:=Value.isInt_shape (k:=i) (v:=v) h
   exact .inl ⟨i,t,rfl,e⟩
 | .inr x,v,h=>by
   obtain ⟨t,e⟩:=Value.isStrOf_shape (x:=x) (v:=v) h
   exact .inr ⟨x,t,rfl,e⟩
theorem zr4 (a b : Int) : decide ((Sum.inl a : Key) = Sum.inl b) = (a == b):=by
 by_cases e : a = b
 . subst e; simp
 . have h : ¬ (Sum.inl a : Key) = Sum.inl b:=fun q=>e (Sum.inl.inj q)
   rw [decide_eq_false h]
   exact (beq_eq_false_iff_ne.mpr e).symm
theorem zr3 (a b : Str) : decide ((Sum.inr a : Key) = Sum.inr b) = decide (a = b):=by
 by_cases e : a = b
 . subst e; simp
 . have h : ¬ (Sum.inr a : Key) = Sum.inr b:=fun q=>e (Sum.inr.inj q)
   rw [decide_eq_false h,decide_eq_false e]
theorem zrU (a : Int) (b : Str) : decide ((Sum.inl a : Key) = Sum.inr b) = false:=decide_eq_false (fun q=>nomatch q)
theorem zrY (a : Str) (b : Int) : decide ((Sum.inr a : Key) = Sum.inl b) = false:=decide_eq_false (fun q=>nomatch q)
def zmj (prog : Program) (w : World) : PySem.KeyKind prog w Key where
 is:=zq4
 hash:=ztd w
 inj:=fun v a b ha hb=>by
   rcases zbB ha with ⟨i,t,rfl,rfl⟩ | ⟨x,t,rfl,rfl⟩
   . rcases zbB hb with ⟨j,u,rfl,e⟩ | ⟨y,u,rfl,e⟩
     . injection e with e1 _; rw [e1]
     . exact nomatch e
   . rcases zbB hb with ⟨j,u,rfl,e⟩ | ⟨y,u,rfl,e⟩
     . exact nomatch e
     . injection e with e1 _; rw [e1]
 byValue:=fun k v h=>by
   rcases zbB h with ⟨i,t,rfl,rfl⟩ | ⟨x,t,rfl,rfl⟩ <;> rfl
 pyHash:=fun hv h=>by
   rcases zbB hv with ⟨i,t,rfl,rfl⟩ | ⟨x,t,rfl,rfl⟩
   . exact wpAny_pyHash_int h
   . exact wpAny_pyHash_str h
 eqBool:=fun hu hv h=>by
   rcases zbB hu with ⟨i,t,rfl,rfl⟩ | ⟨x,t,rfl,rfl⟩
   . rcases zbB hv with ⟨j,u,rfl,rfl⟩ | ⟨y,u,rfl,rfl⟩
     . rw [zr4] at h; exact wpAny_eqBool_int h
     . rw [zrU] at h; exact SeqAt.EqAt.int_str i t y u _ _ _ _ h
   . rcases zbB hv with ⟨j,u,rfl,rfl⟩ | ⟨y,u,rfl,rfl⟩
     . rw [zrY] at h; exact SeqAt.EqAt.str_int x t j u _ _ _ _ h
     . rw [zr3] at h; exact wpAny_eqBool_str h
 «strs»:=fun k x t v h=>by
   rcases zbB h with ⟨i,u,rfl,e⟩ | ⟨y,u,rfl,e⟩
   . exact nomatch e
   . injection e with e1 _
     subst e1
     cases v <;> rfl
end L2
namespace L2
open PySem PySem.Spec PyProof.Rows
inductive V where
 | non | bl (b : Bool) | int (i : Int) | str (x : Str) | byt (b : Array UInt8) | flt (b : UInt64) | ref (a : Addr) | ty (n : String)
 deriving DecidableEq
def zbf : V -> Value -> Prop
 | .non,u=>u = Value.none
 | .bl b,u=>u = Value.bool b
 | .int i,u=>∃ t,u = Value.int i t
 | .str x,u=>∃ t,u = Value.str x t
 | .byt b,u=>∃ t,u = Value.bytes b t
 | .flt b,u=>∃ t,u = Value.float b t
 | .ref a,u=>u = Value.ref a
 | .ty n,u=>u = Value.type n
abbrev zaZ : List V -> List Value -> Prop:=Paired zbf
theorem zaZ.length {xs : List V} {us : List Value} (r : zaZ xs us) : xs.length = us.length:=Paired.length r
theorem zaZ.get : ∀ {xs : List V} {us : List Value} {i : Nat} {x : V},zaZ xs us -> xs[i]? = some x -> ∃ u,us[i]? = some u /\ zbf x u
 | _,_,_,_,.nil,e=>by simp at e
 | _,_,0,_,.cons r _,e=>by simp at e; subst e; exact ⟨_,rfl,r⟩
 | _,_,i + 1,x,.cons _ t,e=>by
   obtain ⟨u,h1,h2⟩:=zaZ.get (i:=i) (x:=x) t (by simpa using e)
   exact ⟨u,by simpa using h1,h2⟩
theorem zaZ.set {x : V} {u : Value} (r : zbf x u) : ∀ {xs : List V} {us : List Value} (i : Nat),zaZ xs us -> zaZ (xs.set i x) (us.set i u)
 | _,_,_,.nil=>.nil
 | _,_,0,.cons _ t=>.cons r t
 | _,_,i + 1,.cons q t=>.cons q (zaZ.set r i t)
theorem zaZ.append : ∀ {xs ys : List V} {us ws : List Value},zaZ xs us -> zaZ ys ws -> zaZ (xs ++ ys) (us ++ ws)
 | _,_,_,_,.nil,s=>s
 | _,_,_,_,.cons r t,s=>.cons r (zaZ.append t s)
theorem zaZ.take : ∀ {xs : List V} {us : List Value} (n : Nat),zaZ xs us -> zaZ (xs.take n) (us.take n)
 | _,_,0,_=>.nil
 | _,_,_ + 1,.nil=>.nil
 | _,_,n + 1,.cons r t=>.cons r (zaZ.take n t)
theorem zaZ.drop : ∀ {xs : List V} {us : List Value} (n : Nat),zaZ xs us -> zaZ (xs.drop n) (us.drop n)
 | _,_,0,r=>r
 | _,_,_ + 1,.nil=>.nil
 | _,_,n + 1,.cons _ t=>zaZ.drop n t
def zsM : Option V -> Option Value -> Prop
 | some v,some u=>zbf v u
 | none,none=>True
 | _,_=>False
def KV {κ : Type} : List (κ × V) -> List (κ × Value) -> Prop:=Paired fun (p : κ × V) (q : κ × Value)=>p.1 = q.1 /\ zbf p.2 q.2
def kV : Key -> V
 | .inl i=>.int i
 | .inr x=>.str x
inductive HO where
 /-- a list -/
 | lst (xs : List V)
 /-- a tuple (never changes) -/
 | tup (xs : List V)
 /-- a dict whose keys are ints and texts; one whose keys are tuples of ints and texts (the empty one is both) -/
 | dK (kvs : List (Key × V)) | dT (kvs : List (List Key × V))
 /-- a set of ints: its members,its size -/
 | set (S : Int -> Bool) (n : Nat)
 /-- an instance of the class at C,its dict at dx,its attributes -/
 | ins (C dx : Addr) (fs : List (Str × V))
 /-- the dict of the instance at x -/
 | own (x : Addr)
 /-- the dict of an exception -/
 | xd (fs : List (Str × V))
 /-- a bound method,f of x -/
 | met (f x : Addr)
 /-- a range object lo,lo + 1,.. below hi -/
 | rng (lo hi : Int)
 /-- a thing that is known to the object (the script; a dict while a loop walks it): read,never written while it is so -/
 | frz (o : Obj) (u : HO)
 /-- a code object's table -/
 | tbl (ps : Array Value)
 /-- any other thing,by what is true of its one object (a def of one's own: SetO a S n:=HO.ext fun h=>..) -/
 | ext (φ : Heap -> Prop)
abbrev Hp:=Addr -> Option HO
def upd (H : Hp) (a : Addr) (o : HO) : Hp:=fun b=>if b = a then some o else H b
theorem zaV {H : Hp} {a : Addr} {o : HO} : upd H a o a = some o:=by unfold upd; rw [if_pos rfl]
theorem zbX {H : Hp} {a b : Addr} {o : HO} (h : b ≠ a) : upd H a o b = H b:=by unfold upd; rw [if_neg h]
theorem zqJ {H : Hp} {a b : Addr} {o u : HO} (h : H a = some o) (h' : H b = some u) (d : o ≠ u) : a ≠ b:=by
 intro e; subst e; rw [h] at h'; exact d (Option.some.inj h')
theorem zba {H : Hp} {a b : Addr} {o : HO} (h : H a = some o) (h' : H b = none) : a ≠ b:=by
 intro e; subst e; rw [h] at h'; cases h'
section
variable (P : Program) (w : World)
def zcJ (H : Hp) (h : Heap) (a : Addr) : HO -> Prop
 | .lst xs=>xs.length <= sizeLine /\ ∃ (its : List Value) (n : Nat),zaZ xs its /\ h.get? a = some { cls:=.type "list",data:=.seq its.toArray n }
 | .tup xs=>xs.length <= sizeLine /\ ∃ its : List Value,zaZ xs its /\ IsTup h a its.toArray
 | .dK kvs=>kvs.length <= sizeLine /\ (a == sysModules) = false /\ ∃ vs,KV kvs vs /\ h.DictOf (zmj P w) a vs
 | .dT kvs=>kvs.length <= sizeLine /\ (a == sysModules) = false /\ ∃ xs : List (List Key × Addr × Value),
     Paired (fun (p : List Key × V) (q : List Key × Addr × Value)=>p.1 = q.1 /\ H q.2.1 = some (.tup (p.1.map kV)) /\ zbf p.2 q.2.2) kvs xs /\
     ∃ o es ep,h.get? a = some o /\ o.ExactDict /\ o.data = .dict es ep /\ es.toList = xs.map (entryOfKey (tupleKind (zmj P w))) /\ (xs.map (·.1)).Nodup
 | .set S n=>h.SetOf (intKind P w) a S n
 | .ins C dx fs=>H dx = some (.own a) /\ fs.length <= 1000 /\ dx ≠ a /\ h.get? a = some (PySem.W.instObj C dx) /\
     ∃ mA,h.Ns1 dx mA /\ (∀ f,zsM (fs.lookup f) (mA f)) /\ PySem.Within mA (fs.map (·.1))
 | .own _=>∃ o,h.get? a = some o
 | .xd fs=>∃ mA,h.Ns1 a mA /\ ∀ f,zsM (fs.lookup f) (mA f)
 | .rng lo hi=>∃ t u v,h.get? a = some { cls:=.type "range",data:=.fields #[.int lo t,.int hi u,.int 1 v] }
 | .frz o u=>h.get? a = some o /\ zcJ H h a u
 | .tbl ps=>h.get? a = some { cls:=.none,data:=.fields ps }
 | .met f x=>h.get? a = some (PySem.W.methodObj (.ref f) (.ref x))
 | .ext φ=>φ h /\ (∃ o,h.get? a = some o) /\ ∀ h1 h2 : Heap,φ h1 -> (∀ o,h1.get? a = some o -> h2.get? a = some o) -> φ h2
def HOk (H : Hp) (h : Heap) : Prop:=∀ a o,H a = some o -> zcJ P w H h a o
end
section
variable {P : Program} {w : World} {H H' : Hp} {h h' : Heap} {a : Addr} {o : HO}
theorem zcJ.lt (x : zcJ P w H h a o) : a < h.objs.size:=by
 cases o with
 | lst xs=>obtain ⟨_,_,_,_,e⟩:=x; exact Heap.lt_size e
 | tup xs=>obtain ⟨_,_,_,p⟩:=x; exact p.lt
 | dK kvs=>obtain ⟨_,_,_,_,o,_,_,e,_⟩:=x; exact Heap.lt_size e
 | dT kvs=>obtain ⟨_,_,_,_,o,_,_,e,_⟩:=x; exact Heap.lt_size e
 | set S n=>obtain ⟨o,_,_,_,e,_⟩:=x; exact Heap.lt_size e
 | ins C dx fs=>obtain ⟨_,_,_,e,_⟩:=x; exact Heap.lt_size e
 | own y=>obtain ⟨_,e⟩:=x; exact Heap.lt_size e
 | xd fs=>obtain ⟨_,⟨_,_,_,e,_⟩,_⟩:=x; exact Heap.lt_size e
 | rng lo hi=>obtain ⟨_,_,_,e⟩:=x; exact Heap.lt_size e
 | frz ob u=>obtain ⟨e,_⟩:=x; exact Heap.lt_size e
 | tbl ps=>exact Heap.lt_size (show h.get? a = some _ from x)
 | met f y=>exact Heap.lt_size (show h.get? a = some _ from x)
 | ext φ=>obtain ⟨_,⟨_,e⟩,_⟩:=x; exact Heap.lt_size e
theorem Paired.mapP {α β : Type} {F G : α -> β -> Prop} : ∀ {l₁ : List α} {l₂ : List β},Paired F l₁ l₂ -> (∀ a b,F a b -> G a b) -> Paired G l₁ l₂
 | _,_,.nil,_=>.nil
 | _,_,.cons r t,f=>.cons (f _ _ r) (Paired.mapP t f)
theorem zcJ.stay (x : zcJ P w H h a o) (k : ∀ b u,(b = a \/ H b = some (.own a)) -> h.get? b = some u -> h'.get? b = some u)
   (ho : ∀ b,H b = some (.own a) -> H' b = some (.own a)) (ht : ∀ b xs,H b = some (.tup xs) -> H' b = some (.tup xs)) : zcJ P w H' h' a o:=by
 induction o with
 | lst xs=>obtain ⟨z,its,n,r,e⟩:=x; exact ⟨z,its,n,r,k _ _ (.inl rfl) e⟩
 | tup xs=>obtain ⟨z,its,r,ob,e,c⟩:=x; exact ⟨z,its,r,ob,k _ _ (.inl rfl) e,c⟩
 | dK kvs=>obtain ⟨z,y,vs,r,ob,es,ep,e,c⟩:=x; exact ⟨z,y,vs,r,ob,es,ep,k _ _ (.inl rfl) e,c⟩
 | dT kvs =>
   obtain ⟨z,y,xs,r,ob,es,ep,e,c⟩:=x
   exact ⟨z,y,xs,Paired.mapP r fun p q z=>⟨z.1,ht _ _ z.2.1,z.2.2⟩,ob,es,ep,k _ _ (.inl rfl) e,c⟩
 | set S n=>obtain ⟨ob,es,ep,t,e,c⟩:=x; exact ⟨ob,es,ep,t,k _ _ (.inl rfl) e,c⟩
 | ins C dx fs =>
   obtain ⟨d,z,ne,e,mA,⟨od,es,ep,e2,c⟩,r⟩:=x
   exact ⟨ho _ d,z,ne,k _ _ (.inl rfl) e,mA,⟨od,es,ep,k _ _ (.inr d) e2,c⟩,r⟩
 | own y=>obtain ⟨ob,e⟩:=x; exact ⟨ob,k _ _ (.inl rfl) e⟩
 | xd fs=>obtain ⟨mA,⟨od,es,ep,e,c⟩,r⟩:=x; exact ⟨mA,⟨od,es,ep,k _ _ (.inl rfl) e,c⟩,r⟩
 | rng lo hi=>obtain ⟨t,u,v,e⟩:=x; exact ⟨t,u,v,k _ _ (.inl rfl) e⟩
 | frz ob u ih=>obtain ⟨e,q⟩:=x; exact ⟨k _ _ (.inl rfl) e,ih q⟩
 | tbl ps =>
   have e : h.get? a = some { cls:=.none,data:=.fields ps }:=x
   show h'.get? a = some { cls:=.none,data:=.fields ps }
   exact k a _ (.inl rfl) e
 | met f y =>
   have e : h.get? a = some (PySem.W.methodObj (.ref f) (.ref y)):=x
   show h'.get? a = some (PySem.W.methodObj (.ref f) (.ref y))
   exact k a _ (.inl rfl) e
 | ext φ=>obtain ⟨p,⟨o,e⟩,st⟩:=x; exact ⟨st _ _ p fun o q=>k _ _ (.inl rfl) q,⟨o,k _ _ (.inl rfl) e⟩,st⟩
theorem HOk.lt (x : HOk P w H h) (e : H a = some o) : a < h.objs.size:=(x a o e).lt
theorem HOk.fresh (x : HOk P w H h) (e : h.objs.size <= a) : H a = none:=by
 cases q : H a with
 | none=>rfl
 | some u=>exact absurd (Nat.lt_of_lt_of_le (x.lt q) e) (Nat.lt_irrefl _)
theorem HOk.kept (x : HOk P w H h) (k : ∀ b u,h.get? b = some u -> h'.get? b = some u) : HOk P w H h':=fun a o e =>
 (x a o e).stay (fun b u _ q=>k b u q) (fun _ q=>q) fun _ _ q=>q
theorem HOk.laid (x : HOk P w H h) (k : ∀ b u,h.get? b = some u -> h'.get? b = some u) (hp : h.objs.size <= a) (new : zcJ P w (upd H a o) h' a o) : HOk P w (upd H a o) h':=fun b u e=>by
 have hn:=x.fresh hp
 by_cases hb : b = a
 . subst hb; rw [zaV] at e; cases e; exact new
 . rw [zbX hb] at e
   exact (x b u e).stay (fun c v _ q=>k c v q) (fun c q=>by rw [zbX (zba q hn)]; exact q) fun c xs q=>by rw [zbX (zba q hn)]; exact q
end
def Rd (H : Hp) (a : Addr) (u : HO) : Prop:=H a = some u \/ ∃ o,H a = some (.frz o u)
theorem Rd.ok {P : Program} {w : World} {H : Hp} {h : Heap} {a : Addr} {u : HO} (r : Rd H a u) (x : HOk P w H h) : zcJ P w H h a u:=by
 rcases r with r | ⟨o,r⟩
 . exact x a u r
 . obtain ⟨_,q⟩:=x a _ r
   exact q
def Mut : Option HO -> Prop
 | some (.lst _)=>True
 | some (.dK _)=>True
 | some (.dT _)=>True
 | some (.set _ _)=>True
 | some (.ins _ _ _)=>True
 | some (.ext _)=>True
 | _=>False
section
variable {P : Program} {w : World} {H : Hp} {h h' : Heap} {x e : Addr} {o' : HO}
theorem HOk.write (ok : HOk P w H h) (mu : Mut (H x)) (he : e = x \/ H e = some (.own x)) (k : ∀ b u,b ≠ e -> h.get? b = some u -> h'.get? b = some u) (heo : ∃ u,h'.get? e = some u)
   (new : zcJ P w (upd H x o') h' x o') : HOk P w (upd H x o') h':=fun b u q=>by
 have nown : ∀ c y,H c = some (.own y) -> c ≠ x:=fun c y r z=>by subst z; rw [r] at mu; exact mu
 have ntup : ∀ c xs,H c = some (.tup xs) -> c ≠ x:=fun c xs r z=>by subst z; rw [r] at mu; exact mu
 by_cases hb : b = x
 . subst hb; rw [zaV] at q; cases q; exact new
 . rw [zbX hb] at q
   by_cases hbe : b = e
   . have q' : H b = some (.own x):=by
       rcases he with z | z
       . exact absurd (hbe.trans z) hb
       . rw [hbe]; exact z
     rw [q] at q'; cases q'
     obtain ⟨v,hv⟩:=heo
     exact ⟨v,by rw [hbe]; exact hv⟩
   . refine (ok b u q).stay (fun c v hc r=>k c v ?_ r) (fun c r=>by rw [zbX (nown c b r)]; exact r) fun c xs r=>by rw [zbX (ntup c xs r)]; exact r
     rcases hc with rfl | hc
     . exact hbe
     . rintro rfl
       rcases he with z | z
       . exact nown c b hc z
       . rw [hc] at z; cases z; exact hb rfl
end
structure Un (fs ex : List Addr) (H H' : Hp) (h h' : Heap) : Prop where
 keep : ∀ b o,h.get? b = some o -> H b = none -> b ∉ fs -> b ∉ ex -> h'.get? b = some o
 slot : ∀ b o,h.get? b = some o -> H b = none -> b ∈ fs -> b ∉ ex -> ∃ sl,h'.get? b = some { o with slots:=sl }
 free : ∀ b o,h.get? b = some o -> H b = none -> b ∉ ex -> H' b = none
 there : ∀ b o,h.get? b = some o -> b ∉ ex -> ∃ o',h'.get? b = some o'
 tups : ∀ b xs,H b = some (.tup xs) -> H' b = some (.tup xs)
 frzs : ∀ b o u,H b = some (.frz o u) -> H' b = some (.frz o u)
 tbls : ∀ b ps,H b = some (.tbl ps) -> ∃ more,H' b = some (.tbl (ps ++ more))
section
variable {fs fs' ex ex' : List Addr} {H H1 H2 : Hp} {h h1 h2 h' : Heap} {a x e : Addr} {o : HO}
theorem Un.any (u : Un fs ex H H1 h h1) {b : Addr} {ob : Obj} (q : h.get? b = some ob) (n : H b = none) (hx : b ∉ ex) : ∃ sl,h1.get? b = some { ob with slots:=sl }:=by
 by_cases hb : b ∈ fs
 . exact u.slot b ob q n hb hx
 . exact ⟨ob.slots,u.keep b ob q n hb hx⟩
theorem Un.kept (k : ∀ b u,h.get? b = some u -> h'.get? b = some u) : Un fs ex H H h h' :=
 ⟨fun b ob q _ _ _=>k b ob q,fun b ob q _ _ _=>⟨ob.slots,k b ob q⟩,fun _ _ _ n _=>n,fun b ob q _=>⟨ob,k b ob q⟩,fun _ _ q=>q,fun _ _ _ q=>q,fun _ ps q=>⟨#[],by rw [q]; simp⟩⟩
theorem Un.refl : Un fs ex H H h h:=Un.kept fun _ _ q=>q
theorem Un.laid (k : ∀ b u,h.get? b = some u -> h'.get? b = some u) (hp : h.objs.size <= a) (hn : H a = none) : Un fs ex H (upd H a o) h h' where
 keep:=fun b u q _ _ _=>k b u q
 slot:=fun b u q _ _ _=>⟨u.slots,k b u q⟩
 free:=fun b u q n _=>by rw [zbX (Nat.ne_of_lt (Nat.lt_of_lt_of_le (Heap.lt_size q) hp))]; exact n
 there:=fun b u q _=>⟨u,k b u q⟩
 tups:=fun b xs q=>by rw [zbX (zba q hn)]; exact q
 frzs:=fun b u xs q=>by rw [zbX (zba q hn)]; exact q
 tbls:=fun b ps q=>⟨#[],by rw [zbX (zba q hn),q]; simp⟩
theorem Un.write (mu : Mut (H x)) (he : e = x \/ H e = some (.own x)) (k : ∀ b u,b ≠ e -> h.get? b = some u -> h'.get? b = some u) (heo : ∃ u,h'.get? e = some u) : Un fs ex H (upd H x o) h h':=by
 have hx : ∀ b,H b = none -> b ≠ x:=fun b n z=>by subst z; rw [n] at mu; exact mu
 have hb : ∀ b,H b = none -> b ≠ e:=fun b n z=>by
   subst z
   rcases he with r | r
   . exact hx b n r
   . rw [n] at r; cases r
 have hm : ∀ b u,H b = some u -> ¬ Mut (some u) -> b ≠ x:=fun b u q nm z=>by subst z; rw [q] at mu; exact nm mu
 refine ⟨fun b u q n _ _=>k b u (hb b n) q,fun b u q n _ _=>⟨u.slots,k b u (hb b n) q⟩,fun b u q n _=>by rw [zbX (hx b n)]; exact n,fun b u q _=>?_,
   fun b xs q=>by rw [zbX (hm b _ q fun z=>z)]; exact q,fun b u xs q=>by rw [zbX (hm b _ q fun z=>z)]; exact q,fun b ps q=>⟨#[],by rw [zbX (hm b _ q fun z=>z),q]; simp⟩⟩
 by_cases hbe : b = e
 . subst hbe; exact heo
 . exact ⟨u,k b u hbe q⟩
end
def trk (h : Heap) (H : Hp) : List Addr:=(List.range h.objs.size).filter fun a=>(H a).isSome
def zjn (h : Heap) (H : Hp) : Heap:=PySem.W.hideAll h (trk h H)
theorem zns (h : Heap) (H : Hp) : (zjn h H).objs.size = h.objs.size:=PySem.W.hideAll_size _ _
theorem znH {h : Heap} {H : Hp} {b : Addr} {o : Obj} (e : h.get? b = some o) (n : H b = none) : (zjn h H).get? b = some o :=
 PySem.W.hideAll_get _ e fun hm=>by
   have q : (H b).isSome = true:=(List.mem_filter.mp hm).2
   rw [n] at q; simp at q
theorem zpM {h : Heap} {H : Hp} {b : Addr} {o : Obj} (e : (zjn h H).get? b = some o) : h.get? b = some o /\ H b = none:=by
 have e' : h.get? b = some o:=PySem.W.of_hideAll (trk h H) e
 refine ⟨e',?_⟩
 cases q : H b with
 | none=>rfl
 | some x =>
   have hm : b ∈ trk h H:=List.mem_filter.mpr ⟨List.mem_range.mpr (Heap.lt_size e'),by simp [q]⟩
   have z : (zjn h H).get? b = none:=PySem.W.hideAll_none (trk h H) hm
   rw [z] at e; cases e
def zqq (g h : Heap) (L : Addr) : List (Addr × Obj):=(List.range h.objs.size).filterMap fun a=>if a = L \/ (g.get? a).isSome = true then none else (h.get? a).map fun o=>(a,o)
def zgV (g h : Heap) (L d : Addr) : List (Addr × Obj):=(zqq g h L).filter fun p=>decide (p.1 ≠ d)
end L2
namespace L2
open PySem PySem.Spec PyProof.Rows
structure Mod (K : PySem.W.Frag) (mg : Str -> Option Value) (base : Heap) : Prop where
 kin : K.In base
 glob : base.Ns mainGlobals mg
 blt : ∃ mb,base.Ns builtinsNs mb /\ ∀ x : Str,x ≠ "__name__" -> mb x = bootBuiltins x
 nolimit : base.NoLimit
structure Cx where
 prog : Program
 w : World
 K : PySem.W.Frag
 mg : Str -> Option Value
 base : Heap
 A : Around
 N : List Str
 s₀ : Shared
 H₀ : Hp
 env : Env
 outer : List Env
 stack : List Env
 ex : List Addr
 fn : Str -> Bool
 calm : Bool
 pn : List (Addr × Obj)
 xe : Value -> Shared -> Prop
def frs (l : List Env) : List Addr:=l.filterMap (·.frame)
abbrev Cx.fs (X : Cx) : List Addr:=frs X.outer
def Vis (sc : Scope) (x : Str) : Prop:=sc.names.lookup x = some .local \/ sc.names.lookup x = some .cell \/ sc.names.lookup x = some .free
def Loc (sc : Scope) (x : Str) : Prop:=sc.names.lookup x = some .local \/ sc.names.lookup x = some .cell
def zs2 (env : Env) (h : Heap) (m : Str -> Option Value) (x : Str) (u : Value) : Prop :=
 (env.kindOf x = some .local /\ m x = some u) \/ ((env.kindOf x = some .cell \/ env.kindOf x = some .free) /\ ∃ c,env.cells.lookup x = some c /\ h.IsCell c (some u))
structure Cx.Ok (X : Cx) : Prop where
 mod : Mod X.K X.mg X.base
 kind : X.env.scope.kind = .function
 glob : X.env.globals = mainGlobals
 blt : X.env.builtins = builtinsNs
 above : X.s₀.heap.objs.size <= X.env.locals
 inj : ∀ x y c,X.env.cells.lookup x = some c -> X.env.cells.lookup y = some c -> x = y
 has : ∀ x,(X.env.kindOf x = some .cell \/ X.env.kindOf x = some .free) -> ∃ c,X.env.cells.lookup x = some c
 cab : ∀ x c,X.fn x = true -> X.env.cells.lookup x = some c -> X.s₀.heap.objs.size <= c
 hd : X.calm = true -> X.A.handled = none
 frames : X.A.frames = some X.stack
 stk : X.stack = X.outer \/ (X.stack = X.env :: X.outer /\ X.env.frame = some X.env.locals)
 exf : ∀ b ∈ X.ex,b ≠ X.env.locals /\ ∀ x c,X.env.cells.lookup x = some c -> c ≠ b
 bs : ∀ b o,X.base.get? b = some o -> X.s₀.heap.get? b = some o /\ X.H₀ b = none
 bsz : X.base.objs.size <= X.s₀.heap.objs.size
 noex : ∀ b o,X.base.get? b = some o -> b ∉ X.ex
 exfs : ∀ b ∈ X.ex,b ∉ X.fs
 funs : X.s₀.heap.FunFrames X.base X.outer
 frf : ∀ b ∈ X.fs,X.H₀ b = none
structure Inv (X : Cx) (pins : List (Addr × Obj)) (σ : List (Option V)) (H : Hp) (s : Shared) : Prop where
 ok : X.Ok
 os : s.os = X.s₀.os
 bare : AllBare s.gens
 base : Un X.fs X.ex X.H₀ H X.s₀.heap s.heap
 loc : ∃ m,s.heap.Ns X.env.locals m /\ ∀ (i : Nat) (x : Str) (v : V),X.N[i]? = some x -> σ[i]? = some (some v) -> Vis X.env.scope x -> ∃ u,zbf v u /\ zs2 X.env s.heap m x u
 cell : ∀ x c,X.env.cells.lookup x = some c -> ∃ v,s.heap.IsCell c v
 free : H X.env.locals = none
 freeC : ∀ x c,X.env.cells.lookup x = some c -> H c = none
 pin : ∀ p ∈ X.pn ++ pins,s.heap.get? p.1 = some p.2 /\ H p.1 = none /\ p.1 ≠ X.env.locals /\ p.1 ∉ X.fs /\ ∀ v,p.2.data ≠ .cell v
 hok : HOk X.prog X.w H s.heap
 len : σ.length = X.N.length
section
variable {X : Cx} {pins : List (Addr × Obj)} {σ : List (Option V)} {H H' : Hp} {s : Shared} {h' : Heap}
theorem Cx.Ok.nofr (ok : X.Ok) {b : Addr} {o : Obj} (e : X.base.get? b = some o) : b ∉ X.fs:=fun hb=>by
 have:=(ok.funs.mem hb).1
 rw [e] at this; cases this
theorem Inv.bs (I : Inv X pins σ H s) : ∀ b o,X.base.get? b = some o -> s.heap.get? b = some o /\ H b = none:=fun b o e =>
 ⟨I.base.keep b o (I.ok.bs b o e).1 (I.ok.bs b o e).2 (I.ok.nofr e) (I.ok.noex b o e),I.base.free b o (I.ok.bs b o e).1 (I.ok.bs b o e).2 (I.ok.noex b o e)⟩
theorem Inv.bk (I : Inv X pins σ H s) : ∀ b o,X.base.get? b = some o -> s.heap.get? b = some o:=fun b o e=>(I.bs b o e).1
theorem Inv.mod (I : Inv X pins σ H s) : Mod X.K X.mg X.base:=I.ok.mod
theorem Inv.kIn (I : Inv X pins σ H s) : X.K.In s.heap:=I.ok.mod.kin.keeps I.bk
theorem Inv.lt (I : Inv X pins σ H s) : X.env.locals < s.heap.objs.size:=let ⟨_,hn,_⟩:=I.loc; hn.lt
theorem Inv.sz (I : Inv X pins σ H s) : X.s₀.heap.objs.size <= s.heap.objs.size:=Nat.le_trans I.ok.above (Nat.le_of_lt I.lt)
theorem Inv.nofs (I : Inv X pins σ H s) {a : Addr} (h : s.heap.objs.size <= a) : a ∉ X.fs:=fun hb=>by
 obtain ⟨_,o,ho,_⟩:=I.ok.funs.mem hb
 exact absurd (Nat.lt_of_lt_of_le (Heap.lt_size ho) (Nat.le_trans I.sz h)) (Nat.lt_irrefl _)
theorem Inv.cne (I : Inv X pins σ H s) : ∀ x c,X.env.cells.lookup x = some c -> c ≠ X.env.locals:=fun x c e z=>by
 obtain ⟨v,o,ho,hd⟩:=I.cell x c e
 obtain ⟨m,⟨o',es,ep,ho',hd',_⟩,_⟩:=I.loc
 rw [z,ho'] at ho; cases ho; rw [hd'] at hd; cases hd
theorem Inv.funs (I : Inv X pins σ H s) : s.heap.FunFrames X.base X.outer:=by
 have all : ∀ (l : List Env),(∀ b ∈ frs l,b ∈ X.fs) -> X.s₀.heap.FunFrames X.base l -> s.heap.FunFrames X.base l:=by
   intro l
   induction l with
   | nil=>intro _ _; trivial
   | cons env r ih =>
     intro hs hl
     obtain ⟨hk,⟨L,o,hf,hn,ho,hd⟩,hr⟩:=hl
     have hL : L ∈ X.fs:=hs L (by unfold frs; rw [List.filterMap_cons,hf]; exact List.mem_cons_self)
     obtain ⟨sl,e⟩:=I.base.slot L o ho (I.ok.frf L hL) hL fun z=>I.ok.exfs L z hL
     exact ⟨hk,⟨L,_,hf,hn,e,hd⟩,ih (fun b hb=>hs b (by unfold frs; rw [List.filterMap_cons,hf]; exact List.mem_cons_of_mem _ hb)) hr⟩
 exact all X.outer (fun _ hb=>hb) I.ok.funs
theorem Inv.stack (I : Inv X pins σ H s) : s.heap.FunFrames X.base X.stack:=by
 rcases I.ok.stk with e | ⟨e,hf⟩
 . rw [e]; exact I.funs
 . rw [e]
   obtain ⟨m,hn,_⟩:=I.loc
   refine .cons (by rw [I.ok.kind]; decide) hf hn ?_ I.funs
   exact Heap.get?_none_of_le (Nat.le_trans I.ok.bsz I.ok.above)
theorem Inv.stkSub (I : Inv X pins σ H s) : ∀ b ∈ frs X.stack,b ∈ X.env.locals :: X.fs:=fun b hb=>by
 rcases I.ok.stk with e | ⟨e,hf⟩
 . rw [e] at hb; exact List.mem_cons_of_mem _ hb
 . rw [e] at hb
   unfold frs at hb
   rw [List.filterMap_cons,hf] at hb
   exact hb
theorem Inv.stkFree (I : Inv X pins σ H s) : ∀ b ∈ frs X.stack,H b = none:=fun b hb=>by
 rcases List.mem_cons.mp (I.stkSub b hb) with e | hb
 . rw [e]; exact I.free
 . obtain ⟨_,o,ho,_⟩:=I.ok.funs.mem hb
   exact I.base.free b o ho (I.ok.frf b hb) fun z=>I.ok.exfs b z hb
theorem Inv.step {g' : Array GenState} {t' : Nat} {d' : Drawn} {ch : List Addr} (I : Inv X pins σ H s)
   (hch : ∀ b ∈ ch,(b ∈ X.ex \/ X.s₀.heap.objs.size <= b) /\ b ≠ X.env.locals /\ (∀ x c,X.env.cells.lookup x = some c -> c ≠ b) /\ ∀ p ∈ X.pn ++ pins,p.1 ≠ b)
   (keep : ∀ b o,b ≠ X.env.locals -> b ∉ X.fs -> b ∉ ch -> s.heap.get? b = some o -> H b = none -> h'.get? b = some o)
   (slot : ∀ b o,b ≠ X.env.locals -> b ∈ X.fs -> b ∉ ch -> s.heap.get? b = some o -> H b = none -> ∃ sl,h'.get? b = some { o with slots:=sl }) (free : ∀ b o,b ∉ ch -> s.heap.get? b = some o -> H b = none -> H' b = none)
   (there : ∀ b o,b ∉ ch -> s.heap.get? b = some o -> ∃ o',h'.get? b = some o')
   (tups : ∀ b xs,H b = some (.tup xs) -> H' b = some (.tup xs)) (frzs : ∀ b o u,H b = some (.frz o u) -> H' b = some (.frz o u)) (tbls : ∀ b ps,H b = some (.tbl ps) -> ∃ more,H' b = some (.tbl (ps ++ more)))
   (ns : ∀ m,s.heap.Ns X.env.locals m -> h'.Ns X.env.locals m) (hok : HOk X.prog X.w H' h') (hg : AllBare g') :
   Inv X pins σ H' { s with heap:=h',gens:=g',drawn:=d',toks:=t' }:=by
 have neL : ∀ b o,X.s₀.heap.get? b = some o -> b ≠ X.env.locals:=fun b o e=>Nat.ne_of_lt (Nat.lt_of_lt_of_le (Heap.lt_size e) I.ok.above)
 have neC : ∀ b o,X.s₀.heap.get? b = some o -> b ∉ X.ex -> b ∉ ch:=fun b o e hx hb=>by
   rcases (hch b hb).1 with z | z
   . exact hx z
   . exact absurd (Nat.lt_of_lt_of_le (Heap.lt_size e) z) (Nat.lt_irrefl _)
 have cellK : ∀ x c,X.env.cells.lookup x = some c -> ∀ v,s.heap.IsCell c v -> h'.IsCell c v:=fun x c e v ⟨o,ho,hd⟩=>by
   have nch : c ∉ ch:=fun z=>(hch c z).2.2.1 x c e rfl
   by_cases hc : c ∈ X.fs
   . obtain ⟨sl,q⟩:=slot c o (I.cne x c e) hc nch ho (I.freeC x c e)
     exact ⟨_,q,hd⟩
   . exact ⟨o,keep c o (I.cne x c e) hc nch ho (I.freeC x c e),hd⟩
 refine ⟨I.ok,I.os,hg,⟨fun b o e n hb hx=>?_,fun b o e n hb hx=>?_,fun b o e n hx=>?_,fun b o e hx=>?_,fun b xs e=>tups b xs (I.base.tups b xs e),fun b o xs e=>frzs b o xs (I.base.frzs b o xs e),fun b ps e=>?_⟩,?_,fun x c e=>?_,?_,fun x c e=>?_,fun p hp=>?_,hok,I.len⟩
 . exact keep b o (neL b o e) hb (neC b o e hx) (I.base.keep b o e n hb hx) (I.base.free b o e n hx)
 . obtain ⟨sl,e1⟩:=I.base.slot b o e n hb hx
   obtain ⟨sl',e2⟩:=slot b _ (neL b o e) hb (neC b o e hx) e1 (I.base.free b o e n hx)
   exact ⟨sl',e2⟩
 . obtain ⟨o',e1⟩:=I.base.there b o e hx
   exact free b o' (neC b o e hx) e1 (I.base.free b o e n hx)
 . obtain ⟨o',e1⟩:=I.base.there b o e hx
   exact there b o' (neC b o e hx) e1
 . obtain ⟨m1,e1⟩:=I.base.tbls b ps e
   obtain ⟨m2,e2⟩:=tbls b _ e1
   exact ⟨m1 ++ m2,by rw [e2,Array.append_assoc]⟩
 . obtain ⟨m,hn,hl⟩:=I.loc
   refine ⟨m,ns m hn,fun i x v e1 e2 e3=>?_⟩
   obtain ⟨u,r,l⟩:=hl i x v e1 e2 e3
   refine ⟨u,r,?_⟩
   rcases l with l | ⟨k,c,e,z⟩
   . exact .inl l
   . exact .inr ⟨k,c,e,cellK x c e _ z⟩
 . obtain ⟨v,z⟩:=I.cell x c e
   exact ⟨v,cellK x c e v z⟩
 . obtain ⟨m,⟨o,_,_,ho,_⟩,_⟩:=I.loc
   exact free _ o (fun z=>(hch _ z).2.1 rfl) ho I.free
 . obtain ⟨v,o,ho,hd⟩:=I.cell x c e
   exact free c o (fun z=>(hch c z).2.2.1 x c e rfl) ho (I.freeC x c e)
 . obtain ⟨e,n,ne,nf,d⟩:=I.pin p hp
   have nch : p.1 ∉ ch:=fun z=>(hch p.1 z).2.2.2 p hp rfl
   exact ⟨keep p.1 p.2 ne nf nch e n,free p.1 p.2 nch e n,ne,nf,d⟩
theorem Inv.un {t' : Nat} (I : Inv X pins σ H s) (u : Un X.fs [] H H' s.heap h') (hok : HOk X.prog X.w H' h') : Inv X pins σ H' { s with heap:=h',toks:=t' }:=by
 obtain ⟨m,⟨o,es,ep,ho,r⟩,_⟩:=id I.loc
 obtain ⟨sl,hL⟩:=u.any ho I.free (by simp)
 exact I.step (g':=s.gens) (d':=s.drawn) (ch:=[]) (fun _ z=>nomatch z) (fun b o _ hb _ e n=>u.keep b o e n hb (by simp)) (fun b o _ hb _ e n=>u.slot b o e n hb (by simp)) (fun b o _ e n=>u.free b o e n (by simp)) (fun b o _ e=>u.there b o e (by simp)) u.tups u.frzs u.tbls (fun m' hm=>by
   obtain ⟨o',es',ep',ho',r'⟩:=hm
   rw [ho] at ho'; cases ho'
   exact ⟨_,es',ep',hL,r'⟩) hok I.bare
theorem Inv.call {g' : Array GenState} {t' : Nat} {d' : Drawn} {ch : List Addr} (I : Inv X pins σ H s) (u : Un (frs X.stack) ch H H' s.heap h') (hok : HOk X.prog X.w H' h') (hg : AllBare g')
   (hch : ∀ b ∈ ch,(b ∈ X.ex \/ X.s₀.heap.objs.size <= b) /\ b ≠ X.env.locals /\ (∀ x c,X.env.cells.lookup x = some c -> c ≠ b) /\ ∀ p ∈ X.pn ++ pins,p.1 ≠ b) :
   Inv X pins σ H' { s with heap:=h',gens:=g',drawn:=d',toks:=t' }:=by
 obtain ⟨m,⟨o,es,ep,ho,r⟩,_⟩:=id I.loc
 obtain ⟨sl,hL⟩:=u.any ho I.free fun z=>(hch _ z).2.1 rfl
 exact I.step (ch:=ch) hch (fun b o hL hb hc e n=>u.keep b o e n (fun z=>(List.mem_cons.mp (I.stkSub b z)).elim hL hb) hc) (fun b o _ _ hc e n=>u.any e n hc) (fun b o hc e n=>u.free b o e n hc) (fun b o hc e=>u.there b o e hc) u.tups u.frzs u.tbls (fun m' hm=>by
   obtain ⟨o',es',ep',ho',r'⟩:=hm
   rw [ho] at ho'; cases ho'
   exact ⟨_,es',ep',hL,r'⟩) hok hg
theorem Inv.turned {t' : Nat} {it : Addr} (I : Inv X pins σ H s) (k : ∀ b o,b ≠ it -> s.heap.get? b = some o -> h'.get? b = some o) (hn : H it = none) (hL : it ≠ X.env.locals)
   (h1 : it ∈ X.ex \/ X.s₀.heap.objs.size <= it) (h2 : ∀ x c,X.env.cells.lookup x = some c -> c ≠ it) (h3 : ∀ p ∈ X.pn ++ pins,p.1 ≠ it) : Inv X pins σ H { s with heap:=h',toks:=t' }:=by
 have nit : ∀ b u,H b = some u -> b ≠ it:=fun b u e z=>by rw [z,hn] at e; cases e
 refine I.step (g':=s.gens) (d':=s.drawn) (ch:=[it]) (fun b hb=>?_) (fun b o _ _ hc e _=>k b o (fun z=>hc (by simp [z])) e) (fun b o _ _ hc e _=>⟨o.slots,k b o (fun z=>hc (by simp [z])) e⟩) (fun _ _ _ _ n=>n)
   (fun b o hc e=>⟨o,k b o (fun z=>hc (by simp [z])) e⟩) (fun _ _ e=>e) (fun _ _ _ e=>e) (fun b ps e=>⟨#[],by rw [e]; simp⟩) (fun m hm=>?_) (fun b u e=>?_) I.bare
 . have e : b = it:=by simpa using hb
   subst e
   exact ⟨h1,hL,h2,h3⟩
 . obtain ⟨o,es,ep,ho,r⟩:=hm
   exact ⟨o,es,ep,k _ o (Ne.symm hL) ho,r⟩
 . refine (I.hok b u e).stay (fun c v hc q=>k c v ?_ q) (fun _ q=>q) fun _ _ q=>q
   rcases hc with z | z
   . rw [z]; exact nit b u e
   . exact nit c _ z
theorem Inv.tok (I : Inv X pins σ H s) (t : Nat) : Inv X pins σ H { s with toks:=t }:=I.un (h':=s.heap) (t':=t) Un.refl I.hok
theorem Inv.kept {t' : Nat} (I : Inv X pins σ H s) (k : ∀ b u,s.heap.get? b = some u -> h'.get? b = some u) : Inv X pins σ H { s with heap:=h',toks:=t' }:=I.un (Un.kept k) (I.hok.kept k)
theorem Inv.laid {a : Addr} {o : HO} {t' : Nat} (I : Inv X pins σ H s) (k : ∀ b u,s.heap.get? b = some u -> h'.get? b = some u) (hp : s.heap.objs.size <= a) (new : zcJ X.prog X.w (upd H a o) h' a o) :
   Inv X pins σ (upd H a o) { s with heap:=h',toks:=t' }:=I.un (Un.laid k hp (I.hok.fresh hp)) (I.hok.laid k hp new)
theorem Inv.write {x e : Addr} {o : HO} {t' : Nat} (I : Inv X pins σ H s) (mu : Mut (H x)) (he : e = x \/ H e = some (.own x)) (k : ∀ b u,b ≠ e -> s.heap.get? b = some u -> h'.get? b = some u) (heo : ∃ u,h'.get? e = some u)
   (new : zcJ X.prog X.w (upd H x o) h' x o) : Inv X pins σ (upd H x o) { s with heap:=h',toks:=t' }:=I.un (Un.write mu he k heo) (I.hok.write mu he k heo new)
theorem Inv.pins_of {pins' : List (Addr × Obj)} (I : Inv X pins σ H s) (h : ∀ p ∈ pins',s.heap.get? p.1 = some p.2 /\ H p.1 = none /\ p.1 ≠ X.env.locals /\ p.1 ∉ X.fs /\ ∀ v,p.2.data ≠ .cell v) : Inv X pins' σ H s :=
 ⟨I.ok,I.os,I.bare,I.base,I.loc,I.cell,I.free,I.freeC,fun p hp=>(List.mem_append.mp hp).elim (fun z=>I.pin p (List.mem_append_left _ z)) (h p),I.hok,I.len⟩
theorem zh0 {N : List Str} (hN : N.Nodup) {i j : Nat} {x : Str} (a : N[i]? = some x) (b : N[j]? = some x) : i = j:=by
 obtain ⟨h1,e1⟩:=List.getElem?_eq_some_iff.mp a
 obtain ⟨h2,e2⟩:=List.getElem?_eq_some_iff.mp b
 exact (List.getElem_inj hN).mp (e1.trans e2.symm)
theorem zgx {M : Model} {A : Around} {E : Value -> Shared -> Prop} {i : Nat} {x : Str} {v : V} {u : Value} {Q : Unit -> Shared -> Prop} (I : Inv X pins σ H s) (hN : X.N.Nodup) (hi : X.N[i]? = some x) (hx : Loc X.env.scope x) (r : zbf v u)
   (h : ∀ s',Inv X pins (σ.set i (some v)) H s' -> (∃ a,Heap.SameBut a s.heap s'.heap /\ (a = X.env.locals \/ X.env.cells.lookup x = some a)) -> Q () s') (hf : X.fn x = true \/ X.env.scope.names.lookup x = some .local:=by first | exact .inl rfl | exact .inr rfl | assumption) : wpAny M A (storeName X.env x u) Q E s:=by
 obtain ⟨m,hn,hl⟩:=id I.loc
 have hcls : (X.env.scope.kind == .class || (X.env.scope.kind == .module && X.env.locals != X.env.globals)) = false:=by rw [I.ok.kind]; rfl
 have hiσ : i < σ.length:=by rw [I.len]; exact (List.getElem?_eq_some_iff.mp hi).1
 have cne:=I.cne
 have tracked : ∀ {a : Addr} {h' : Heap},(∃ o,s.heap.get? a = some o /\ H a = none) -> Heap.SameBut a s.heap h' -> HOk X.prog X.w H h':=fun {a h'} ha hs b ob e=>by
   obtain ⟨_,_,hfree⟩:=ha
   refine (I.hok b ob e).stay (fun c w' hc q=>(hs.2 c ?_).trans q) (fun _ q=>q) fun _ _ q=>q
   rintro rfl
   rcases hc with rfl | hc
   . rw [hfree] at e; cases e
   . rw [hfree] at hc; cases hc
 rcases hx with hk | hk
 . refine wpAny_storeName_local hk hn (fun h' hn' hs=>?_) hcls
   obtain ⟨oL,_,_,hoL,_⟩:=id hn
   refine h _ ⟨I.ok,I.os,I.bare,⟨fun b o e n hb hx=>?_,fun b o e n hb hx=>?_,I.base.free,fun b o e hx=>?_,I.base.tups,I.base.frzs,I.base.tbls⟩,⟨_,hn',fun j y v' e1 e2 e3=>?_⟩,fun y c e=>?_,I.free,I.freeC,fun p hp=>?_,tracked ⟨oL,hoL,I.free⟩ hs,by simpa using I.len⟩ ⟨_,hs,.inl rfl⟩
   . exact (hs.2 b (Nat.ne_of_lt (Nat.lt_of_lt_of_le (Heap.lt_size e) I.ok.above))).trans (I.base.keep b o e n hb hx)
   . obtain ⟨sl,e1⟩:=I.base.slot b o e n hb hx
     exact ⟨sl,(hs.2 b (Nat.ne_of_lt (Nat.lt_of_lt_of_le (Heap.lt_size e) I.ok.above))).trans e1⟩
   . obtain ⟨o',e1⟩:=I.base.there b o e hx
     exact ⟨o',(hs.2 b (Nat.ne_of_lt (Nat.lt_of_lt_of_le (Heap.lt_size e) I.ok.above))).trans e1⟩
   . by_cases hj : j = i
     . subst hj
       rw [hi] at e1; cases e1
       rw [List.getElem?_set_self hiσ] at e2
       cases e2
       exact ⟨u,r,.inl ⟨hk,by simp⟩⟩
     . rw [List.getElem?_set_ne (Ne.symm hj)] at e2
       obtain ⟨u',r',q⟩:=hl j y v' e1 e2 e3
       refine ⟨u',r',?_⟩
       rcases q with ⟨k,e⟩ | ⟨k,c,e,z⟩
       . refine .inl ⟨k,?_⟩
         have : y ≠ x:=fun e=>hj (zh0 hN e1 (e ▸ hi))
         simp [this,e]
       . exact .inr ⟨k,c,e,z.sameBut hs (cne y c e)⟩
   . obtain ⟨w',z⟩:=I.cell y c e
     exact ⟨w',z.sameBut hs (cne y c e)⟩
   . obtain ⟨e,n,ne,nf,d⟩:=I.pin p hp
     exact ⟨(hs.2 p.1 ne).trans e,n,ne,nf,d⟩
 . have hfn : X.fn x = true:=by
     rcases hf with z | z
     . exact z
     . rw [z] at hk; cases hk
   obtain ⟨c,hc⟩:=I.ok.has x (.inl hk)
   obtain ⟨w',z⟩:=I.cell x c hc
   refine wpAny_storeName_cell I.ok.kind hk hc z (fun h' hc' hs=>?_)
   obtain ⟨oc,hoc,hocd⟩:=id z
   refine h { s with heap:=h' } ⟨I.ok,I.os,I.bare,⟨fun b o e n hb hx=>?_,fun b o e n hb hx=>?_,I.base.free,fun b o e hx=>?_,I.base.tups,I.base.frzs,I.base.tbls⟩,⟨m,hn.sameBut hs (Ne.symm (cne x c hc)),fun j y v' e1 e2 e3=>?_⟩,fun y c' e=>?_,I.free,I.freeC,fun p hp=>?_,tracked ⟨oc,hoc,I.freeC x c hc⟩ hs,by simpa using I.len⟩ ⟨c,hs,.inr hc⟩
   . exact (hs.2 b (Nat.ne_of_lt (Nat.lt_of_lt_of_le (Heap.lt_size e) (I.ok.cab x c hfn hc)))).trans (I.base.keep b o e n hb hx)
   . obtain ⟨sl,e1⟩:=I.base.slot b o e n hb hx
     exact ⟨sl,(hs.2 b (Nat.ne_of_lt (Nat.lt_of_lt_of_le (Heap.lt_size e) (I.ok.cab x c hfn hc)))).trans e1⟩
   . obtain ⟨o',e1⟩:=I.base.there b o e hx
     exact ⟨o',(hs.2 b (Nat.ne_of_lt (Nat.lt_of_lt_of_le (Heap.lt_size e) (I.ok.cab x c hfn hc)))).trans e1⟩
   . by_cases hj : j = i
     . subst hj
       rw [hi] at e1; cases e1
       rw [List.getElem?_set_self hiσ] at e2
       cases e2
       exact ⟨u,r,.inr ⟨.inl hk,c,hc,hc'⟩⟩
     . rw [List.getElem?_set_ne (Ne.symm hj)] at e2
       obtain ⟨u',r',q⟩:=hl j y v' e1 e2 e3
       refine ⟨u',r',?_⟩
       rcases q with q | ⟨k,c',e,z'⟩
       . exact .inl q
       . refine .inr ⟨k,c',e,z'.sameBut hs ?_⟩
         rintro rfl
         exact hj (zh0 hN e1 (I.ok.inj _ _ _ e hc ▸ hi))
   . by_cases hcc : c' = c
     . subst hcc; exact ⟨_,hc'⟩
     . obtain ⟨w2,z2⟩:=I.cell y c' e
       exact ⟨w2,z2.sameBut hs hcc⟩
   . obtain ⟨e,n,ne,nf,d⟩:=I.pin p hp
     refine ⟨(hs.2 p.1 ?_).trans e,n,ne,nf,d⟩
     intro q
     rw [q,hoc] at e
     have q' : oc = p.2:=Option.some.inj e
     exact d w' (by rw [<- q']; exact hocd)
theorem zeL {M : Model} {A : Around} {E : Value -> Shared -> Prop} {i : Nat} {x : Str} {v : V} {u : Value} {Q : Unit -> Shared -> Prop} (I : Inv X pins σ H s) (hN : X.N.Nodup) (hi : X.N[i]? = some x) (hx : Loc X.env.scope x) (r : zbf v u)
   (h : ∀ s',Inv X pins (σ.set i (some v)) H s' -> Q () s') (hf : X.fn x = true \/ X.env.scope.names.lookup x = some .local:=by first | exact .inl rfl | exact .inr rfl | assumption) : wpAny M A (storeName X.env x u) Q E s :=
 zgx I hN hi hx r (fun s' I' _=>h s' I') hf
theorem Inv.call' {s' : Shared} {ch : List Addr} (I : Inv X pins σ H s) (ho : s'.os = s.os) (u : Un (frs X.stack) ch H H' s.heap s'.heap) (hok : HOk X.prog X.w H' s'.heap) (hg : AllBare s'.gens)
   (hch : ∀ b ∈ ch,(b ∈ X.ex \/ X.s₀.heap.objs.size <= b) /\ b ≠ X.env.locals /\ (∀ x c,X.env.cells.lookup x = some c -> c ≠ b) /\ ∀ p ∈ X.pn ++ pins,p.1 ≠ b) : Inv X pins σ H' s':=by
 obtain ⟨h',g',d',t',o'⟩:=s'
 have e : o' = s.os:=ho
 subst e
 exact I.call (g':=g') (t':=t') (d':=d') u hok hg hch
end
abbrev XK:=Value -> Option Addr -> Hp -> Prop
abbrev St:=List (Option V)
abbrev VK:=V -> Hp -> Prop
abbrev TE:=St -> Hp -> VK -> Prop
abbrev TT:=St -> Hp -> (Bool -> Hp -> Prop) -> Prop
abbrev TA:=St -> Hp -> (List V -> Hp -> Prop) -> Prop
structure zcE where
 nx : St -> Hp -> Prop
 rt : VK
 bk : St -> Hp -> Prop:=fun _ _=>False
 ct : St -> Hp -> Prop:=fun _ _=>False
abbrev TS:=zcE -> St -> Hp -> Prop
def EP (X : Cx) (pins : List (Addr × Obj)) (σ : St) (Q : VK) (u : Value) (s' : Shared) : Prop:=∃ v H',Inv X pins σ H' s' /\ zbf v u /\ Q v H'
def TP (X : Cx) (pins : List (Addr × Obj)) (σ : St) (Q : Bool -> Hp -> Prop) (b : Bool) (s' : Shared) : Prop:=∃ H',Inv X pins σ H' s' /\ Q b H'
def AP (X : Cx) (pins : List (Addr × Obj)) (σ : St) (Q : List V -> Hp -> Prop) (us : List Value) (s' : Shared) : Prop:=∃ vs H',Inv X pins σ H' s' /\ zaZ vs us /\ Q vs H'
def SP (X : Cx) (pins : List (Addr × Obj)) (D : zcE) (f : Flow) (s' : Shared) : Prop :=
 match f with
 | .next=>∃ σ' H',Inv X pins σ' H' s' /\ D.nx σ' H'
 | .brk=>∃ σ' H',Inv X pins σ' H' s' /\ D.bk σ' H'
 | .cont=>∃ σ' H',Inv X pins σ' H' s' /\ D.ct σ' H'
 | .ret u=>∃ v σ' H',Inv X pins σ' H' s' /\ zbf v u /\ D.rt v H'
def PE (X : Cx) (e : Expr) (t : TE) : Prop :=
 ∀ (pins : List (Addr × Obj)) (s : Shared) (σ : St) (H : Hp) (Q : VK),Inv X pins σ H s -> t σ H Q -> wpAny (model X.prog X.w) X.A (eval e X.env) (EP X pins σ Q) X.xe s
def PT (X : Cx) (e : Expr) (t : TT) : Prop :=
 ∀ (pins : List (Addr × Obj)) (s : Shared) (σ : St) (H : Hp) (Q : Bool -> Hp -> Prop),Inv X pins σ H s -> t σ H Q -> wpAny (model X.prog X.w) X.A (isTrue e X.env (eval e X.env)) (TP X pins σ Q) X.xe s
def PW (X : Cx) (e : Expr) (t : TT) : Prop :=
 ∀ (whole : Sem Value) (pins : List (Addr × Obj)) (s : Shared) (σ : St) (H : Hp) (Q : Bool -> Hp -> Prop),Inv X pins σ H s -> t σ H Q -> wpAny (model X.prog X.w) X.A (isTrue e X.env whole) (TP X pins σ Q) X.xe s
theorem PW.pt {X : Cx} {e : Expr} {t : TT} (h : PW X e t) : PT X e t:=h _
def PA (X : Cx) (es : List Expr) (t : TA) : Prop :=
 ∀ (pos : Pos) (pins : List (Addr × Obj)) (s : Shared) (σ : St) (H : Hp) (Q : List V -> Hp -> Prop),Inv X pins σ H s -> t σ H Q -> wpAny (model X.prog X.w) X.A (spliced (backTo pos (starEach es X.env))) (AP X pins σ Q) X.xe s
def PS (X : Cx) (st : Stmt) (t : TS) : Prop :=
 ∀ (pins : List (Addr × Obj)) (s : Shared) (σ : St) (H : Hp) (D : zcE),Inv X pins σ H s -> t D σ H -> wpAny (model X.prog X.w) X.A (exec st X.env) (SP X pins D) X.xe s
def PSs (X : Cx) (st : List Stmt) (t : TS) : Prop :=
 ∀ (pins : List (Addr × Obj)) (s : Shared) (σ : St) (H : Hp) (D : zcE),Inv X pins σ H s -> t D σ H -> wpAny (model X.prog X.w) X.A (execs st X.env) (SP X pins D) X.xe s
theorem thn {α : Type} {t : Sem α} {Q Q' : α -> Shared -> Prop} {M : Model} {A : Around} {E : Value -> Shared -> Prop} {s : Shared} (h : wpAny M A t Q E s) (hQ : ∀ a s,Q a s -> Q' a s) : wpAny M A t Q' E s:=wpAny_mono h hQ fun _ _ x=>x
end L2
namespace L2
open PySem PySem.Spec PyProof.Rows
section
variable {X : Cx}
def zi8 (i : Nat) : TE:=fun σ H Q=>∃ v,σ[i]? = some (some v) /\ Q v H
def tC (v : V) : TE:=fun _ H Q=>Q v H
theorem zrQ {i : Nat} {x : Str} {pos : Pos} (hN : X.N[i]? = some x) (hv : Vis X.env.scope x) (hd : (x == ("__debug__" : Str)) = false:=by decide) (hcd : (x == ("__classdict__" : Str)) = false:=by decide) : PE X (.Name x pos) (zi8 i):=by
 intro pins s σ H Q I h
 obtain ⟨v,e,h⟩:=h
 obtain ⟨m,hn,hl⟩:=I.loc
 obtain ⟨u,r,l⟩:=hl i x v hN e hv
 have fin : EP X pins σ Q u s:=⟨v,H,I,r,h⟩
 rcases l with ⟨hk,hm⟩ | ⟨hk,c,hc,hcell⟩
 . exact wpAny_Name (wpAny_loadName_local I.ok.kind hk hn hm fin) hd
 . rcases hk with hk | hk
   . exact wpAny_Name (wpAny_loadName_cell I.ok.kind hk hc hcell fin) hd
   . exact wpAny_Name (wpAny_loadName_free I.ok.kind hk hc hcell fin hcd) hd
theorem zac {i j pos} : PE X (.Constant (.int i) j pos) (tC (.int i)):=fun _ _ _ H _ I h=>wpAny_Constant_int ⟨.int i,H,I.tok _,⟨_,rfl⟩,h⟩
theorem zeQ {b j pos} : PE X (.Constant (.bool b) j pos) (tC (.bl b)):=fun _ _ _ H _ I h=>Constant_bool ⟨.bl b,H,I,rfl,h⟩
theorem zdY {j pos} : PE X (.Constant .none j pos) (tC .non):=fun _ _ _ H _ I h=>Constant_none ⟨.non,H,I,rfl,h⟩
theorem zbD {x j pos} : PE X (.Constant (.str x) j pos) (tC (.str x)):=fun _ _ _ H _ I h=>Calls.Constant_str ⟨.str x,H,I.tok _,⟨_,rfl⟩,h⟩
def Gl (X : Cx) (x : Str) : Prop:=X.env.kindOf x = some .globalImplicit
theorem ze1 {E : Value -> Shared -> Prop} {pins : List (Addr × Obj)} {s : Shared} {σ : St} {H : Hp} {x : Str} {u : Value} {pos : Pos} {Q : Value -> Shared -> Prop} (I : Inv X pins σ H s) (hg : Gl X x) (hm : X.mg x = some u) (h : Q u s)
   (hd : (x == ("__debug__" : Str)) = false:=by decide) : wpAny (model X.prog X.w) X.A (eval (.Name x pos) X.env) Q E s :=
 Calls.Name_function_global I.ok.kind hg (Calls.loadGlobal_global (by rw [I.ok.glob]; exact I.mod.glob.keeps I.bk) hm h) hd
theorem zex {E : Value -> Shared -> Prop} {pins : List (Addr × Obj)} {s : Shared} {σ : St} {H : Hp} {x : Str} {u : Value} {pos : Pos} {Q : Value -> Shared -> Prop} (I : Inv X pins σ H s) (hg : Gl X x) (hm : X.mg x = none) (hv : bootBuiltins x = some u) (h : Q u s)
   (hn : x ≠ "__name__":=by decide) (hd : (x == ("__debug__" : Str)) = false:=by decide) : wpAny (model X.prog X.w) X.A (eval (.Name x pos) X.env) Q E s:=by
 obtain ⟨mb,h1,h2⟩:=I.mod.blt
 exact Calls.Name_function_global I.ok.kind hg (Calls.loadGlobal_builtin (by rw [I.ok.glob]; exact I.mod.glob.keeps I.bk) hm (by rw [I.ok.blt]; exact h1.keeps I.bk) ((h2 x hn).trans hv) h) hd
theorem zaM {x : Str} {v : V} {u : Value} {pos : Pos} (hg : Gl X x) (hm : X.mg x = some u) (r : zbf v u) (hd : (x == ("__debug__" : Str)) = false:=by decide) : PE X (.Name x pos) (tC v) :=
 fun _ _ _ H _ I h=>ze1 I hg hm ⟨v,H,I,r,h⟩ hd
theorem zjf {x : Str} {v : V} {u : Value} {pos : Pos} (hg : Gl X x) (hm : X.mg x = none) (hv : bootBuiltins x = some u) (r : zbf v u) (hn : x ≠ "__name__":=by decide) (hd : (x == ("__debug__" : Str)) = false:=by decide) : PE X (.Name x pos) (tC v) :=
 fun _ _ _ H _ I h=>zex I hg hm hv ⟨v,H,I,r,h⟩ hn hd
def t2I (ta tb : TE) (k : Int -> Int -> Hp -> Prop) : St -> Hp -> Prop:=fun σ H=>ta σ H fun x H1=>tb σ H1 fun y H2=>∃ i j,x = .int i /\ y = .int j /\ k i j H2
variable {a b : Expr} {ta tb : TE} {pos : Pos}
def zni (p : Int -> Int -> Bool) (ta tb : TE) : TE:=fun σ H Q=>t2I ta tb (fun i j H2=>Q (.bl (p i j)) H2) σ H
abbrev tLt : TE -> TE -> TE:=zni fun i j=>decide (i < j)
abbrev tLe : TE -> TE -> TE:=zni fun i j=>decide (i <= j)
abbrev tGt : TE -> TE -> TE:=zni fun i j=>decide (j < i)
abbrev tGe : TE -> TE -> TE:=zni fun i j=>decide (j <= i)
abbrev zth : TE -> TE -> TE:=zni fun i j=>decide (i = j)
abbrev zti : TE -> TE -> TE:=zni fun i j=>!decide (i = j)
def tB (t : TE) : TT:=fun σ H Q=>t σ H fun x H1=>∃ c,x = .bl c /\ Q c H1
theorem zb3 {e : Expr} {t : TE} (h : PE X e t) (he : ∀ whole,isTrue e X.env whole = (do let v <- whole; standAt e.pos; holding [v] (truthy v)):=by intro _; rfl) : PT X e (tB t):=by
 intro pins s σ H Q I hw
 refine isTrue_plain (thn (h pins s σ H _ I hw) fun v s1 ⟨x,H1,I1,r1,q1⟩=>?_) (he _)
 obtain ⟨d,rfl,q⟩:=q1
 cases r1
 exact wpAny_truthy_bool ⟨H1,I1,q⟩
variable {tA tB' : TT} {zgV : List Expr}
def zsZ (t u : TT) : TT:=fun σ H Q=>t σ H fun c H1=>if c = true then u σ H1 Q else Q false H1
def tOr (t u : TT) : TT:=fun σ H Q=>t σ H fun c H1=>if c = true then Q true H1 else u σ H1 Q
def zsk (t : TT) : TT:=fun σ H Q=>t σ H fun c H1=>Q (!c) H1
theorem zhf (ha : PT X a tA) : PW X (.BoolOp .And [a] pos) tA:=by
 intro wh pins s σ H Q I h
 refine isTrue_and (thn (ha pins s σ H Q I h) fun c s1 e=>?_)
 cases c with
 | true=>exact isTrue_and_nil e
 | false=>exact e
theorem zjD (ha : PT X a tA) : PW X (.BoolOp .Or [a] pos) tA:=by
 intro wh pins s σ H Q I h
 refine isTrue_or (thn (ha pins s σ H Q I h) fun c s1 e=>?_)
 cases c with
 | false=>exact isTrue_or_nil e
 | true=>exact e
theorem zhP (ha : PT X a tA) (hb : PW X (.BoolOp .And (b :: zgV) pos) tB') : PW X (.BoolOp .And (a :: b :: zgV) pos) (zsZ tA tB'):=by
 intro wh pins s σ H Q I h
 refine isTrue_and (thn (ha pins s σ H _ I h) fun c s1 ⟨H1,I1,q1⟩=>?_)
 cases c with
 | true=>exact hb wh pins s1 σ H1 Q I1 q1
 | false=>exact ⟨H1,I1,q1⟩
theorem zkM (ha : PT X a tA) (hb : PW X (.BoolOp .Or (b :: zgV) pos) tB') : PW X (.BoolOp .Or (a :: b :: zgV) pos) (tOr tA tB'):=by
 intro wh pins s σ H Q I h
 refine isTrue_or (thn (ha pins s σ H _ I h) fun c s1 ⟨H1,I1,q1⟩=>?_)
 cases c with
 | true=>exact ⟨H1,I1,q1⟩
 | false=>exact hb wh pins s1 σ H1 Q I1 q1
theorem zdz (ha : PT X a tA) : PT X (.UnaryOp .Not a pos) (zsk tA):=by
 intro pins s σ H Q I h
 exact isTrue_not (ha pins s σ H (fun c H1=>Q (!c) H1) I h)
def zq7 (ta tb : TE) : TE:=fun σ H Q=>ta σ H fun x H1=>∃ c,x = .bl c /\ if c = true then tb σ H1 Q else Q (.bl false) H1
def zsm (ta tb : TE) : TE:=fun σ H Q=>ta σ H fun x H1=>∃ c,x = .bl c /\ if c = true then Q (.bl true) H1 else tb σ H1 Q
def zqS (ta : TE) : TE:=fun σ H Q=>ta σ H fun x H1=>∃ c,x = .bl c /\ Q (.bl (!c)) H1
theorem znM {op} {t : TE} (h : PE X a t) : PE X (.BoolOp op [a] pos) t:=fun pins s σ H Q I hw=>BoolOp_one (h pins s σ H Q I hw)
theorem zoh (ha : PE X a ta) (hb : PE X (.BoolOp .And (b :: zgV) pos) tb) : PE X (.BoolOp .And (a :: b :: zgV) pos) (zq7 ta tb):=by
 intro pins s σ H Q I h
 refine BoolOp_and (thn (ha pins s σ H _ I h) fun v s1 ⟨x,H1,I1,r1,q1⟩=>?_)
 obtain ⟨c,rfl,q1⟩:=q1
 cases r1
 refine wpAny_truthy_bool ?_
 cases c with
 | true=>exact hb pins s1 σ H1 Q I1 q1
 | false=>exact ⟨.bl false,H1,I1,rfl,q1⟩
theorem zsz (ha : PE X a ta) (hb : PE X (.BoolOp .Or (b :: zgV) pos) tb) : PE X (.BoolOp .Or (a :: b :: zgV) pos) (zsm ta tb):=by
 intro pins s σ H Q I h
 refine BoolOp_or (thn (ha pins s σ H _ I h) fun v s1 ⟨x,H1,I1,r1,q1⟩=>?_)
 obtain ⟨c,rfl,q1⟩:=q1
 cases r1
 refine wpAny_truthy_bool ?_
 cases c with
 | false=>exact hb pins s1 σ H1 Q I1 q1
 | true=>exact ⟨.bl true,H1,I1,rfl,q1⟩
theorem zoc (ha : PE X a ta) : PE X (.UnaryOp .Not a pos) (zqS ta):=by
 intro pins s σ H Q I h
 refine UnaryOp_ (thn (ha pins s σ H _ I h) fun v s1 ⟨x,H1,I1,r1,q1⟩=>?_)
 obtain ⟨c,rfl,q1⟩:=q1
 cases r1
 exact not_of (wpAny_truthy_bool ⟨.bl (!c),H1,I1,rfl,q1⟩)
def tIf (t : TT) (ta tb : TE) : TE:=fun σ H Q=>t σ H fun c H1=>if c = true then ta σ H1 Q else tb σ H1 Q
theorem zf9 {c : Expr} (hc : PT X c tA) (ha : PE X a ta) (hb : PE X b tb) : PE X (.IfExp c a b pos) (tIf tA ta tb):=by
 intro pins s σ H Q I h
 refine wpAny_IfExp (thn (hc pins s σ H _ I h) fun d s1 ⟨H1,I1,q1⟩=>?_)
 cases d with
 | true=>exact ha pins s1 σ H1 Q I1 q1
 | false=>exact hb pins s1 σ H1 Q I1 q1
end
end L2
namespace L2
open PySem PySem.Spec PyProof.Rows
def SqL (K : PySem.W.Frag) (H : Hp) (a : Addr) (xs : List V) : Prop :=
 Rd H a (.lst xs) \/
   ∃ (o : Obj) (its : Array Value) (n : Nat),K.lookup a = some o /\ o.cls = .type "list" /\ o.dict = none /\ o.data = .seq its n /\ its.size <= sizeLine /\ zaZ xs its.toList
def SqT (K : PySem.W.Frag) (H : Hp) (a : Addr) (xs : List V) : Prop :=
 Rd H a (.tup xs) \/
   ∃ (o : Obj) (its : Array Value) (n : Nat),K.lookup a = some o /\ o.cls = .type "tuple" /\ o.data = .seq its n /\ its.size <= sizeLine /\ zaZ xs its.toList
def zs4 : Value -> Option V
 | .none=>some .non
 | .bool b=>some (.bl b)
 | .int i _=>some (.int i)
 | .str x _=>some (.str x)
 | .bytes b _=>some (.byt b)
 | .float b _=>some (.flt b)
 | .ref a=>some (.ref a)
 | .type n=>some (.ty n)
 | _=>none
theorem zbf.abs {x : V} {u : Value} (r : zbf x u) : zs4 u = some x:=by
 cases x with
 | non=>cases r; rfl
 | bl _=>cases r; rfl
 | int _=>obtain ⟨t,rfl⟩:=r; rfl
 | str _=>obtain ⟨t,rfl⟩:=r; rfl
 | byt _=>obtain ⟨t,rfl⟩:=r; rfl
 | flt _=>obtain ⟨t,rfl⟩:=r; rfl
 | ref _=>cases r; rfl
 | ty _=>cases r; rfl
theorem zbf.inj {x y : V} {u : Value} (r : zbf x u) (q : zbf y u) : x = y:=Option.some.inj (r.abs.symm.trans q.abs)
theorem zaZ.inj : ∀ {xs ys : List V} {us : List Value},zaZ xs us -> zaZ ys us -> xs = ys
 | _,_,_,.nil,.nil=>rfl
 | _,_,_,.cons r t,.cons r' t'=>by rw [r.inj r',zaZ.inj t t']
section
variable {X : Cx} {pins : List (Addr × Obj)} {σ : St} {H : Hp} {s : Shared} {a : Addr} {xs ys : List V}
theorem SqL.of {K : PySem.W.Frag} (h : H a = some (.lst xs)) : SqL K H a xs:=.inl (.inl h)
theorem SqT.of {K : PySem.W.Frag} (h : H a = some (.tup xs)) : SqT K H a xs:=.inl (.inl h)
theorem Inv.list (I : Inv X pins σ H s) (h : SqL X.K H a xs) : ∃ its : List Value,zaZ xs its /\ PlainL s.heap a its.toArray /\ xs.length <= sizeLine:=by
 rcases h with h | ⟨o,its,n,hk,hc,hd,hs,hz,r⟩
 . obtain ⟨z,its,n,r,e⟩:=h.ok I.hok
   exact ⟨its,r,⟨_,n,e,rfl,rfl,rfl⟩,z⟩
 . refine ⟨its.toList,r,⟨o,n,I.kIn a o hk,hc,hd,by simpa using hs⟩,?_⟩
   have e:=r.length
   simp only [Array.length_toList] at e
   omega
theorem Inv.tuple (I : Inv X pins σ H s) (h : SqT X.K H a xs) : ∃ its : List Value,zaZ xs its /\ IsTup s.heap a its.toArray /\ xs.length <= sizeLine:=by
 rcases h with h | ⟨o,its,n,hk,hc,hs,hz,r⟩
 . obtain ⟨z,its,r,p⟩:=h.ok I.hok
   exact ⟨its,r,p,z⟩
 . refine ⟨its.toList,r,⟨o,I.kIn a o hk,hc,n,by simpa using hs⟩,?_⟩
   have e:=r.length
   simp only [Array.length_toList] at e
   omega
theorem Inv.list_inj (I : Inv X pins σ H s) (h : SqL X.K H a xs) (h' : SqL X.K H a ys) : xs = ys:=by
 obtain ⟨its,r,⟨o,n,e,_,_,d⟩,_⟩:=I.list h
 obtain ⟨its',r',⟨o',n',e',_,_,d'⟩,_⟩:=I.list h'
 rw [e] at e'; cases e'
 rw [d] at d'
 injection d' with d1 _
 have : its = its':=by simpa using congrArg Array.toList d1
 subst this
 exact r.inj r'
theorem Inv.tuple_inj (I : Inv X pins σ H s) (h : SqT X.K H a xs) (h' : SqT X.K H a ys) : xs = ys:=by
 obtain ⟨its,r,⟨o,e,_,n,d⟩,_⟩:=I.tuple h
 obtain ⟨its',r',⟨o',e',_,n',d'⟩,_⟩:=I.tuple h'
 rw [e] at e'; cases e'
 rw [d] at d'
 injection d' with d1 _
 have : its = its':=by simpa using congrArg Array.toList d1
 subst this
 exact r.inj r'
end
abbrev Cx.wish (X : Cx) (E : Value -> Shared -> Prop) : Cx:={ X with xe:=E }
abbrev Cx.nox (X : Cx) : Cx:=X.wish fun _ _=>False
theorem Cx.Ok.wish {X : Cx} (ok : X.Ok) (E : Value -> Shared -> Prop) : (X.wish E).Ok :=
 ⟨ok.mod,ok.kind,ok.glob,ok.blt,ok.above,ok.inj,ok.has,ok.cab,ok.hd,ok.frames,ok.stk,ok.exf,ok.bs,ok.bsz,ok.noex,ok.exfs,ok.funs,ok.frf⟩
theorem Cx.Ok.unwish {X : Cx} {E : Value -> Shared -> Prop} (ok : (X.wish E).Ok) : X.Ok :=
 ⟨ok.mod,ok.kind,ok.glob,ok.blt,ok.above,ok.inj,ok.has,ok.cab,ok.hd,ok.frames,ok.stk,ok.exf,ok.bs,ok.bsz,ok.noex,ok.exfs,ok.funs,ok.frf⟩
section
variable {X : Cx} {pins : List (Addr × Obj)} {σ : St} {H : Hp} {s : Shared} {E : Value -> Shared -> Prop}
theorem Inv.wish (I : Inv X pins σ H s) (E : Value -> Shared -> Prop) : Inv (X.wish E) pins σ H s:=⟨I.ok.wish E,I.os,I.bare,I.base,I.loc,I.cell,I.free,I.freeC,I.pin,I.hok,I.len⟩
theorem Inv.unwish (I : Inv (X.wish E) pins σ H s) : Inv X pins σ H s:=⟨I.ok.unwish,I.os,I.bare,I.base,I.loc,I.cell,I.free,I.freeC,I.pin,I.hok,I.len⟩
theorem SP.unwish {D : zcE} {f : Flow} {s' : Shared} (h : SP (X.wish E) pins D f s') : SP X pins D f s':=by
 cases f with
 | next=>obtain ⟨σ',H',I,q⟩:=h; exact ⟨σ',H',I.unwish,q⟩
 | brk=>obtain ⟨σ',H',I,q⟩:=h; exact ⟨σ',H',I.unwish,q⟩
 | cont=>obtain ⟨σ',H',I,q⟩:=h; exact ⟨σ',H',I.unwish,q⟩
 | ret u=>obtain ⟨v,σ',H',I,r,q⟩:=h; exact ⟨v,σ',H',I.unwish,r,q⟩
theorem PSs.nox {st : List Stmt} {t : TS} (h : PSs X.nox st t) : PSs X st t:=fun pins s σ H D I hw =>
 wpAny_mono (h pins s σ H D (I.wish _) hw) (fun _ _ q=>q.unwish) fun _ _ z=>False.elim z
end
section
variable {X : Cx} {st : Stmt} {zgV : List Stmt} {t u : TS} {e : Expr} {te : TE} {pos : Pos}
def zqN : TS:=fun D σ H=>D.nx σ H
def zrF (t u : TS) : TS:=fun D σ H=>t { D with nx:=u D } σ H
theorem zaF : PSs X [] zqN:=fun _ _ σ H _ I h=>wpAny_execs_nil ⟨σ,H,I,h⟩
theorem zad (h1 : PS X st t) (h2 : PSs X zgV u) : PSs X (st :: zgV) (zrF t u):=by
 intro pins s σ H D I h
 refine wpAny_execs_cons (thn (h1 pins s σ H { D with nx:=u D } I h) fun f s1 q=>?_)
 cases f with
 | next =>
   obtain ⟨σ',H',I',q⟩:=q
   exact h2 pins s1 σ' H' D I' q
 | ret v=>exact q
 | brk=>exact q
 | cont=>exact q
theorem zag (h1 : PS X st t) : PSs X [st] t:=by
 intro pins s σ H D I h
 refine wpAny_execs_cons (thn (h1 pins s σ H D I h) fun f s1 q=>?_)
 cases f with
 | next=>exact wpAny_execs_nil q
 | ret v=>exact q
 | brk=>exact q
 | cont=>exact q
theorem Inv.quiet {pins : List (Addr × Obj)} {σ : St} {H : Hp} {s : Shared} (I : Inv X pins σ H s) : interactive X.env = false:=by simp [interactive,I.ok.kind]
def zqO (te : TE) : TS:=fun D σ H=>te σ H fun _ H1=>D.nx σ H1
theorem zev (he : PE X e te) (hs : swapsWith e none pos.line X.env = pure false:=by rfl) : PS X (.Expr e pos) (zqO te):=by
 intro pins s σ H D I h
 exact wpAny_Expr_any (thn (he pins s σ H _ I h) fun v s1 ⟨x,H1,I1,r1,q1⟩=>⟨σ,H1,I1,q1⟩) I.quiet hs
def zs0 (te : TE) : TS:=fun D σ H=>te σ H D.rt
theorem zan (he : PE X e te) : PS X (.Return (some e) pos) (zs0 te):=by
 intro pins s σ H D I h
 exact wpAny_Return_some (thn (he pins s σ H _ I h) fun v s1 ⟨x,H1,I1,r1,q1⟩=>⟨x,σ,H1,I1,r1,q1⟩)
def zsq (c : TT) (t u : TS) : TS:=fun D σ H=>c σ H fun b H1=>if b = true then t D σ H1 else u D σ H1
theorem za4 {c : Expr} {a b : List Stmt} {tc : TT} (hc : PT X c tc) (ha : PSs X a t) (hb : PSs X b u) : PS X (.If c a b pos) (zsq tc t u):=by
 intro pins s σ H D I h
 refine wpAny_If (thn (hc pins s σ H _ I h) fun d s1 ⟨H1,I1,q1⟩=>?_)
 cases d with
 | true=>exact ha pins s1 σ H1 D I1 q1
 | false=>exact hb pins s1 σ H1 D I1 q1
def zrW : TS:=fun _ _ _=>False
theorem zog : PS X st zrW:=fun _ _ _ _ _ _ h=>h.elim
end
abbrev TG:=V -> St -> Hp -> (St -> Hp -> Prop) -> Prop
abbrev TGs:=List V -> St -> Hp -> (St -> Hp -> Prop) -> Prop
def PG (X : Cx) (target : Expr) (t : TG) : Prop :=
 ∀ (pins : List (Addr × Obj)) (s : Shared) (σ : St) (H : Hp) (v : V) (u : Value) (Q : St -> Hp -> Prop),Inv X pins σ H s -> zbf v u -> t v σ H Q ->
   wpAny (model X.prog X.w) X.A (assign target X.env u) (fun _ s'=>∃ σ' H',Inv X pins σ' H' s' /\ Q σ' H') X.xe s
def PGs (X : Cx) (ts : List Expr) (t : TGs) : Prop :=
 ∀ (pins : List (Addr × Obj)) (s : Shared) (σ : St) (H : Hp) (vs : List V) (us : List Value) (Q : St -> Hp -> Prop),Inv X pins σ H s -> zaZ vs us -> t vs σ H Q ->
   wpAny (model X.prog X.w) X.A (assignInOrder ((assignEach ts X.env).map (·.2)) us) (fun _ s'=>∃ σ' H',Inv X pins σ' H' s' /\ Q σ' H') X.xe s
abbrev zpw:=V -> V -> V -> Hp -> (Hp -> Prop) -> Prop
def zsC (X : Cx) (t : zpw) : Prop :=
 ∀ (pins : List (Addr × Obj)) (s : Shared) (σ : St) (H : Hp) (o i v : V) (ov iv u : Value) (Q : Hp -> Prop),Inv X pins σ H s -> zbf o ov -> zbf i iv -> zbf v u -> t o i v H Q ->
   wpAny (model X.prog X.w) X.A (setItem ov iv u) (fun _ s'=>∃ H',Inv X pins σ H' s' /\ Q H') X.xe s
abbrev TIp:=V -> V -> Hp -> VK -> Prop
section
variable {X : Cx} {pos : Pos}
def zeH (i : Nat) : TG:=fun v σ H Q=>Q (σ.set i (some v)) H
theorem zaA {i : Nat} {x : Str} (hN : X.N.Nodup) (hi : X.N[i]? = some x) (hx : Loc X.env.scope x) (hf : X.fn x = true \/ X.env.scope.names.lookup x = some .local:=by first | exact .inl rfl | exact .inr rfl | assumption) : PG X (.Name x pos) (zeH i):=by
 intro pins s σ H v u Q I r h
 exact wpAny_assign_Name (zeL I hN hi hx r (fun s' I'=>⟨_,H,I',h⟩) hf)
def zre : TGs:=fun vs σ H Q=>vs = [] /\ Q σ H
def zmb (t : TG) (u : TGs) : TGs:=fun vs σ H Q=>∃ v r,vs = v :: r /\ t v σ H fun σ' H'=>u r σ' H' Q
theorem zdm : PGs X [] zre:=by
 intro pins s σ H vs us Q I r h
 obtain ⟨e,h⟩:=h
 subst e
 cases r
 exact assignInOrder_nil ⟨σ,H,I,h⟩
theorem za7 {e : Expr} {es : List Expr} {t : TG} {u : TGs} (h1 : PG X e t) (h2 : PGs X es u)
   (hs : (assignEach (e :: es) X.env).map (·.2) = assign e X.env :: (assignEach es X.env).map (·.2):=by rfl) : PGs X (e :: es) (zmb t u):=by
 intro pins s σ H vs us Q I r h
 obtain ⟨v,vr,e1,h⟩:=h
 subst e1
 cases r with
 | cons r rr =>
   rw [hs]
   refine assignInOrder_cons (thn (h1 pins s σ H _ _ _ I r h) fun _ s1 ⟨σ1,H1,I1,q1⟩=>?_)
   exact h2 pins s1 σ1 H1 _ _ Q I1 rr q1
def zij (K : PySem.W.Frag) (n : Nat) (t : TGs) : TG:=fun v σ H Q=>∃ a xs,v = .ref a /\ SqT K H a xs /\ xs.length = n /\ t xs σ H Q
theorem zeS {es : List Expr} {k : Nat} {t : TGs} {n : Nat} (hc : X.calm = true) (h : PGs X es t)
   (hn : (assignEach es X.env).length = n:=by rfl) (hst : (assignEach es X.env).findIdx? (·.1) = none:=by rfl) : PG X (.Tuple es k pos) (zij X.K n t):=by
 intro pins s σ H v u Q I r hw
 obtain ⟨a,xs,e1,hq,hl,hw⟩:=hw
 subst e1
 cases r
 obtain ⟨its,rv,ht,hz⟩:=I.tuple hq
 refine assign_Tuple_tuple (I.ok.hd hc) ht (by simp [hn,<- hl,rv.length]) hst fun h' hx=>?_
 have I1 : Inv X pins σ H { s with heap:=h' }:=I.kept (t':=s.toks) fun b o e=>hx b o (Nat.ne_of_lt (Heap.lt_size e)) e
 exact h pins _ σ H xs _ Q I1 (by simpa using rv) hw
def zsO (to ti : TE) (t : zpw) : TG:=fun v σ H Q=>to σ H fun o H1=>ti σ H1 fun i H2=>t o i v H2 fun H3=>Q σ H3
theorem zhj {o i : Expr} {to ti : TE} {t : zpw} (ho : PE X o to) (hi : PE X i ti) (hs : zsC X t)
   (ha : ∀ v,assign (.Subscript o i pos) X.env v = (do
     let ov <- holding [v] (eval o X.env)
     let iv <- holding [v,ov] (eval i X.env)
     standAt pos
     holding [v,ov,iv] (setItem ov iv v)
     release [v,ov,iv] []):=by intro _; rfl) : PG X (.Subscript o i pos) (zsO to ti t):=by
 intro pins s σ H v u Q I r h
 rw [ha]
 refine wpAny_bind (wpAny_holding (thn (ho pins s σ H _ I h) fun ov s1 ⟨x,H1,I1,r1,q1⟩=>?_))
 refine wpAny_bind (wpAny_holding (thn (hi pins s1 σ H1 _ I1 q1) fun iv s2 ⟨y,H2,I2,r2,q2⟩=>?_))
 refine wpAny_bind (wpAny_standAt (wpAny_bind (wpAny_holding (thn (hs pins s2 σ H2 x y v ov iv u _ I2 r1 r2 r q2) fun _ s3 ⟨H3,I3,q3⟩=>?_))))
 exact wpAny_release ⟨σ,H3,I3,q3⟩
def zkZ (te : TE) (g : TG) : TS:=fun D σ H=>te σ H fun x H1=>g x σ H1 D.nx
theorem zfy {tg e : Expr} {te : TE} {g : TG} (he : PE X e te) (hg : PG X tg g) (hs : swapsWithSole [tg] e pos.line X.env = pure false:=by rfl) (hw : swappedStores [tg] e X.env = pure none:=by rfl)
   (h1 : (assignEach [tg] X.env).map (·.2) = [assign tg X.env]:=by rfl) : PS X (.Assign [tg] e pos) (zkZ te g):=by
 intro pins s σ H D I h
 refine wpAny_Assign_stores (thn (he pins s σ H _ I h) fun v s1 ⟨x,H1,I1,r1,q1⟩=>?_) hs hw
 rw [h1]
 exact thn (hg pins s1 σ H1 x v _ I1 r1 q1) fun _ s2 q=>q
theorem zak {i : Nat} {x : Str} {e : Expr} {te : TE} {pos' : Pos} (hN : X.N.Nodup) (hi : X.N[i]? = some x) (hx : Loc X.env.scope x) (he : PE X e te) (hs : swapsWith e (some (.Name x pos')) pos.line X.env = pure false:=by rfl) (hf : X.fn x = true \/ X.env.scope.names.lookup x = some .local:=by first | exact .inl rfl | exact .inr rfl | assumption) :
   PS X (.Assign [.Name x pos'] e pos) (zkZ te (zeH i)):=by
 intro pins s σ H D I h
 refine wpAny_Assign_Name (thn (he pins s σ H _ I h) fun v s1 ⟨y,H1,I1,r1,q1⟩=>?_) hs
 exact zeL I1 hN hi hx r1 (fun s2 I2=>⟨_,H1,I2,q1⟩) hf
def zsr (i j : Nat) (ta : TA) : TS:=fun D σ H=>ta σ H fun vs H1=>∃ v w,vs = [v,w] /\ D.nx ((σ.set i (some v)).set j (some w)) H1
theorem zrL {i j : Nat} {x y : Str} {a b : Expr} {ta : TA} {px py pt : Pos} {kt k2 pt2} (hc : X.calm = true) (hN : X.N.Nodup) (hi : X.N[i]? = some x) (hj : X.N[j]? = some y) (hij : i ≠ j)
   (hx : X.env.scope.names.lookup x = some .local) (hy : X.env.scope.names.lookup y = some .local) (ha : PA X [a,b] ta)
   (hw : swappedStores [.Tuple [.Name x px,.Name y py] kt pt] (.Tuple [a,b] k2 pt2) X.env = pure (some [x,y]))
   (hs : swapsWithSole [.Tuple [.Name x px,.Name y py] kt pt] (.Tuple [a,b] k2 pt2) pos.line X.env = pure false:=by rfl) :
   PS X (.Assign [.Tuple [.Name x px,.Name y py] kt pt] (.Tuple [a,b] k2 pt2) pos) (zsr i j ta):=by
 intro pins s σ H D I h
 rw [exec_Assign_arm]
 refine wpAny_bind (wpAny_standAt ?_)
 rw [hs]
 refine wpAny_bind (wpAny_pure ?_)
 rw [if_neg (by decide)]
 refine wpAny_bind (Tuple_ (thn (ha _ pins s σ H _ I h) fun us s1 ⟨vs,H1,I1,r1,q1⟩=>?_))
 obtain ⟨v,w,e1,q1⟩:=q1
 subst e1
 obtain ⟨u1,u2,rfl,rv,rw'⟩ : ∃ u1 u2,us = [u1,u2] /\ zbf v u1 /\ zbf w u2:=by
   cases r1 with
   | cons p q =>
     cases q with
     | cons p' q' =>
       cases q'
       exact ⟨_,_,rfl,p,p'⟩
 refine wpAny_newObj_type ?_ (by show 2 <= sizeLine; decide)
 have I2 : Inv X pins σ H1 { s1 with heap:=s1.heap.push { cls:=.type "tuple",data:=.seq [u1,u2].toArray } }:=I1.kept (t':=s1.toks) fun b o e=>Heap.get?_push_of_some _ e
 rw [hw]
 refine wpAny_bind (wpAny_pure ?_)
 show wpAny (model X.prog X.w) X.A (do rule "assign.swapped-stores"; let items <- unpackItems (.ref s1.heap.objs.size) 2 none; assignInOrder [fun v=>bindName X.env y v,fun v=>bindName X.env x v] items.reverse; pure Flow.next) _ _ _
 refine wpAny_bind (wpAny_rule (wpAny_bind (unpackItems_tuple (items:=#[u1,u2]) (I.ok.hd hc) (IsTup.new s1.heap _) fun h' hx'=>?_)))
 have I3:=I2.kept (h':=h') (t':=s1.toks) fun b o e=>hx' b o (Nat.ne_of_lt (Heap.lt_size e)) e
 show wpAny _ _ (assignInOrder [fun v=>bindName X.env y v,fun v=>bindName X.env x v] [u2,u1] >>= fun _=>pure Flow.next) _ _ _
 refine wpAny_bind (assignInOrder_cons (wpAny_bindName (zeL I3 hN hj (.inl hy) rw' (fun s2 I4=>?_) (.inr hy))))
 refine assignInOrder_cons (wpAny_bindName (zeL I4 hN hi (.inl hx) rv (fun s3 I5=>assignInOrder_nil (wpAny_pure ?_)) (.inr hx)))
 rw [List.set_comm _ _ (Ne.symm hij)] at I5
 exact ⟨_,H1,I5,q1⟩
end
section
variable {X : Cx} {pos : Pos}
def zlQ (c : TT) (tb : TS) : TS:=fun D σ H=>∃ W : Nat -> St -> Hp -> Prop,(∃ m,W m σ H) /\ ∀ m σ H,W m σ H ->
 c σ H fun b H1=>if b = true then ∃ N : St -> Hp -> Prop,(∀ σ' H',N σ' H' -> ∃ m',m' < m /\ W m' σ' H') /\ tb { D with nx:=N,ct:=N,bk:=D.nx } σ H1 else D.nx σ H1
theorem zh9 {c : Expr} {body : List Stmt} {tc : TT} {tb : TS} (hp : PassesOwn (model X.prog X.w) X.A X.env X.xe) (hc : PT X c tc) (hb : PSs X body tb) : PS X (.While c body [] pos) (zlQ tc tb):=by
 intro pins s σ H D I h
 obtain ⟨W,⟨m0,w0⟩,turn⟩:=h
 refine wpAny_While (codeAny_whileLoop (fun n s'=>∃ σ' H',Inv X pins σ' H' s' /\ W n σ' H') ?_ m0 ⟨σ,H,I,w0⟩)
 rintro n s1 ⟨σ1,H1,I1,w1⟩
 refine wpAny_passesOwn hp (thn (hc pins s1 σ1 H1 _ I1 (turn n σ1 H1 w1)) fun b s2 ⟨H2,I2,q2⟩=>?_)
 cases b with
 | true =>
   obtain ⟨N,hN,q2⟩:=q2
   rw [if_pos rfl]
   refine wpAny_passesOwn hp (thn (hb pins s2 σ1 H2 _ I2 q2) fun f s3 q3=>?_)
   cases f with
   | next =>
     obtain ⟨σ3,H3,I3,n3⟩:=q3
     obtain ⟨m',hm,w3⟩:=hN σ3 H3 n3
     exact ⟨m',hm,σ3,H3,I3,w3⟩
   | cont =>
     obtain ⟨σ3,H3,I3,n3⟩:=q3
     obtain ⟨m',hm,w3⟩:=hN σ3 H3 n3
     exact ⟨m',hm,σ3,H3,I3,w3⟩
   | brk=>exact q3
   | ret v=>exact q3
 | false =>
   rw [if_neg Bool.false_ne_true]
   exact wpAny_execs_nil ⟨σ1,H2,I2,q2⟩
end
structure It where
 go : Nat -> Hp -> Prop
 yld : Nat -> Hp -> V -> Hp -> Prop
 stop : Nat -> Hp -> Prop
def zen (X : Cx) (pins : List (Addr × Obj)) (H : Hp) (b : Addr) : Prop :=
 H b = none /\ b ≠ X.env.locals /\ b ∉ X.fs /\ (b ∈ X.ex \/ X.s₀.heap.objs.size <= b) /\ (∀ x c,X.env.cells.lookup x = some c -> c ≠ b) /\ ∀ p ∈ X.pn ++ pins,p.1 ≠ b
theorem Inv.fpOk {X : Cx} {pins : List (Addr × Obj)} {σ : St} {H H' : Hp} {s : Shared} {b : Addr} (I : Inv X pins σ H s) (hb : s.heap.objs.size <= b) (hn : H' b = none) : zen X pins H' b:=by
 refine ⟨hn,Nat.ne_of_gt (Nat.lt_of_lt_of_le I.lt hb),I.nofs hb,.inr (Nat.le_trans I.sz hb),fun x c e z=>?_,fun p hp z=>?_⟩
 . obtain ⟨v,q⟩:=I.cell x c e
   exact absurd (Nat.lt_of_lt_of_le q.lt (by rw [z]; exact hb)) (Nat.lt_irrefl _)
 . exact absurd (Nat.lt_of_lt_of_le (Heap.lt_size (I.pin p hp).1) (by rw [z]; exact hb)) (Nat.lt_irrefl _)
structure zie (P : Program) (w : World) (K : PySem.W.Frag) (tg : Expr) (J : It) (fp : List Addr) (it : Addr) (tn : Nat -> Heap -> Prop) : Prop where
 mem : it ∈ fp
 obj : ∀ i h,tn i h -> ∀ b ∈ fp,∃ o,h.get? b = some o /\ ∀ v,o.data ≠ .cell v
 keep : ∀ i h h',tn i h -> (∀ b ∈ fp,∀ o,h.get? b = some o -> h'.get? b = some o) -> tn i h'
 item : ∀ (X : Cx),X.prog = P -> X.w = w -> X.K = K -> X.calm = true -> ∀ (i : Nat) (pins : List (Addr × Obj)) (s : Shared) (σ : St) (H : Hp) (E : Value -> Shared -> Prop),Inv X pins σ H s -> (∀ b ∈ fp,zen X pins H b) -> tn i s.heap -> J.go i H ->
   wpAny (model P w) X.A (pyNext (.ref it)) (fun r s1=>∃ u,r = some u /\
     wpAny (model P w) X.A (letOwnedTupleGo tg (.ref it) u) (fun _ s2=>∃ x H',Inv X pins σ H' s2 /\ zbf x u /\ J.yld i H x H' /\ tn (i + 1) s2.heap /\ ∀ b ∈ fp,H' b = none) E s1) E s
 done : ∀ (X : Cx),X.prog = P -> X.w = w -> X.K = K -> X.calm = true -> ∀ (i : Nat) (pins : List (Addr × Obj)) (s : Shared) (σ : St) (H : Hp) (E : Value -> Shared -> Prop),Inv X pins σ H s -> (∀ b ∈ fp,zen X pins H b) -> tn i s.heap -> J.stop i H ->
   wpAny (model P w) X.A (pyNext (.ref it)) (fun r s1=>r = none /\ Inv X pins σ H s1) E s
 self : ∀ (A : Around) (i : Nat) (s : Shared) (Q : Value -> Shared -> Prop) (E : Value -> Shared -> Prop),tn i s.heap -> Q (.ref it) s -> wpAny (model P w) A (pyIter (.ref it)) Q E s
abbrev TI:=St -> Hp -> (It -> Hp -> Prop) -> Prop
def PIE (X : Cx) (pins : List (Addr × Obj)) (σ : St) (tg : Expr) (R : It -> Hp -> Prop) (itv : Value) (s2 : Shared) : Prop :=
 ∃ (it : Addr) (fp : List Addr) (tn : Nat -> Heap -> Prop) (J : It) (H' : Hp),itv = .ref it /\ Inv X pins σ H' s2 /\ zie X.prog X.w X.K tg J fp it tn /\ tn 0 s2.heap /\ (∀ b ∈ fp,zen X pins H' b) /\ R J H'
def PI (X : Cx) (tg iter : Expr) (wi : TI) : Prop :=
 ∀ (pins : List (Addr × Obj)) (s : Shared) (σ : St) (H : Hp) (R : It -> Hp -> Prop),Inv X pins σ H s -> wi σ H R ->
   wpAny (model X.prog X.w) X.A (eval iter X.env) (fun v s1=>wpAny (model X.prog X.w) X.A (pyIter v) (PIE X pins σ tg R) X.xe s1) X.xe s
theorem zmo {M : Model} {A : Around} {E : Value -> Shared -> Prop} {s : Shared} {tg : Expr} {it : Addr} {u : Value} {o : Obj} {n : String} {vs : Array Value} {Q : Unit -> Shared -> Prop} (ho : s.heap.get? it = some o) (hc : o.cls = .type n) (hd : o.data = .fields vs)
   (hn : ["enumerate","zip","dict_itemiterator","dict_reverseitemiterator","odict_iterator","itertools.zip_longest","itertools.pairwise"].contains n = false) (hQ : Q () s) : wpAny M A (letOwnedTupleGo tg (.ref it) u) Q E s:=by
 unfold letOwnedTupleGo
 cases tg <;> first
   | exact wpAny_pure hQ
   | (cases u <;> first
       | exact wpAny_pure hQ
       | (refine wpAny_bind (wpAny_load ho ?_)
          rw [hc,hd]
          show wpAny M A (if (["enumerate","zip","dict_itemiterator","dict_reverseitemiterator","odict_iterator","itertools.zip_longest","itertools.pairwise"].contains n && vs[0]? == some (rawInt _)) = true then _ else _) Q E s
          rw [if_neg (by intro h; rw [hn,Bool.false_and] at h; cases h)]
          exact wpAny_pure hQ))
def Itl (K : PySem.W.Frag) (a : Addr) : It :=
 ⟨fun i H=>∃ xs x,SqL K H a xs /\ xs[i]? = some x,fun i H x H'=>H' = H /\ ∀ xs,SqL K H a xs -> xs[i]? = some x,fun i H=>∃ xs,SqL K H a xs /\ xs.length <= i⟩
def Itt (K : PySem.W.Frag) (a : Addr) : It :=
 ⟨fun i H=>∃ xs x,SqT K H a xs /\ xs[i]? = some x,fun i H x H'=>H' = H /\ ∀ xs,SqT K H a xs -> xs[i]? = some x,fun i H=>∃ xs,SqT K H a xs /\ xs.length <= i⟩
def Itr (lo : Int) (n : Nat) : It:=⟨fun i _=>i < n,fun i H x H'=>H' = H /\ x = .int (lo + i),fun i _=>n <= i⟩
theorem ziB {P : Program} {w : World} {K : PySem.W.Frag} {tg : Expr} (a it : Addr) : zie P w K tg (Itl K a) [it] it (fun i h=>h.IsListIter it a i) where
 mem:=by simp
 obj:=fun i h st b hb=>by
   have e : b = it:=by simpa using hb
   subst e
   obtain ⟨o,e,c,d⟩:=st
   exact ⟨o,e,fun v z=>by rw [d] at z; cases z⟩
 keep:=fun i h h' st k=>st.at fun o e=>k it (by simp) o e
 item:=by
   intro X hP hw hK hc i pins s σ H E I hf st hg
   subst hP hw hK
   obtain ⟨xs,x,hq,hx⟩:=hg
   obtain ⟨its,rv,p,hz⟩:=I.list hq
   obtain ⟨u,hu,ru⟩:=rv.get hx
   obtain ⟨f0,f1,f2,f3,f4,f5⟩:=hf it (by simp)
   refine wpAny_pyNext_list_item st p.isList (x:=u) (by simpa using hu) fun h' st' sb=>?_
   have I1 : Inv X pins σ H { s with heap:=h' }:=I.turned (t':=s.toks) (fun b o hb e=>(sb.2 b hb).trans e) f0 f1 f3 f4 f5
   obtain ⟨o,e,c,d⟩:=id st'
   exact ⟨u,rfl,zmo (s:={ s with heap:=h' }) e c d (by decide) ⟨x,H,I1,ru,⟨rfl,fun ys hy=>by rw [I.list_inj hy hq]; exact hx⟩,st',fun b hb=>(hf b hb).1⟩⟩
 done:=by
   intro X hP hw hK hc i pins s σ H E I hf st hg
   subst hP hw hK
   obtain ⟨xs,hq,hx⟩:=hg
   obtain ⟨its,rv,p,hz⟩:=I.list hq
   obtain ⟨f0,f1,f2,f3,f4,f5⟩:=hf it (by simp)
   have hl:=rv.length
   exact wpAny_pyNext_list_end (I.ok.hd hc) st p.isList (by simp; omega) fun h' eb=>⟨rfl,I.turned (t':=s.toks) (fun b o hb e=>eb b o hb e) f0 f1 f3 f4 f5⟩
 self:=fun _ _ _ _ _ st h=>wpAny_pyIter_listiter st h
theorem zly {P : Program} {w : World} {K : PySem.W.Frag} {tg : Expr} (a it : Addr) : zie P w K tg (Itt K a) [it] it (fun i h=>h.IsTupleIter it a i) where
 mem:=by simp
 obj:=fun i h st b hb=>by
   have e : b = it:=by simpa using hb
   subst e
   obtain ⟨o,e,c,d⟩:=st
   exact ⟨o,e,fun v z=>by rw [d] at z; cases z⟩
 keep:=fun i h h' st k=>st.at fun o e=>k it (by simp) o e
 item:=by
   intro X hP hw hK hc i pins s σ H E I hf st hg
   subst hP hw hK
   obtain ⟨xs,x,hq,hx⟩:=hg
   obtain ⟨its,rv,p,hz⟩:=I.tuple hq
   obtain ⟨u,hu,ru⟩:=rv.get hx
   obtain ⟨f0,f1,f2,f3,f4,f5⟩:=hf it (by simp)
   refine wpAny_pyNext_tuple_item st (show s.heap.IsTuple a its.toArray from p) (x:=u) (by simpa using hu) fun h' st' sb=>?_
   have I1 : Inv X pins σ H { s with heap:=h' }:=I.turned (t':=s.toks) (fun b o hb e=>(sb.2 b hb).trans e) f0 f1 f3 f4 f5
   obtain ⟨o,e,c,d⟩:=id st'
   exact ⟨u,rfl,zmo (s:={ s with heap:=h' }) e c d (by decide) ⟨x,H,I1,ru,⟨rfl,fun ys hy=>by rw [I.tuple_inj hy hq]; exact hx⟩,st',fun b hb=>(hf b hb).1⟩⟩
 done:=by
   intro X hP hw hK hc i pins s σ H E I hf st hg
   subst hP hw hK
   obtain ⟨xs,hq,hx⟩:=hg
   obtain ⟨its,rv,p,hz⟩:=I.tuple hq
   obtain ⟨f0,f1,f2,f3,f4,f5⟩:=hf it (by simp)
   have hl:=rv.length
   exact wpAny_pyNext_tuple_end (I.ok.hd hc) st (show s.heap.IsTuple a its.toArray from p) (by simp; omega) fun h' eb=>⟨rfl,I.turned (t':=s.toks) (fun b o hb e=>eb b o hb e) f0 f1 f3 f4 f5⟩
 self:=fun _ _ _ _ _ st h=>wpAny_pyIter_tupleiter st h
theorem zlx {P : Program} {w : World} {K : PySem.W.Frag} {tg : Expr} (it : Addr) (lo : Int) (n : Nat) : zie P w K tg (Itr lo n) [it] it (fun i h=>IsRangeIter h it (lo + (i : Nat) * 1) ((n : Int) - (i : Nat)) 1) where
 mem:=by simp
 obj:=fun i h st b hb=>by
   have e : b = it:=by simpa using hb
   subst e
   exact ⟨_,st,fun v z=>by
     have z' : Data.fields _ = Data.cell v:=z
     cases z'⟩
 keep:=fun i h h' st k=>k it (by simp) _ st
 item:=by
   intro X hP hw hK hc i pins s σ H E I hf st hg
   subst hP hw hK
   obtain ⟨f0,f1,f2,f3,f4,f5⟩:=hf it (by simp)
   have W:=Walks.range (prog:=X.prog) (w:=X.w) (I.ok.hd hc) it lo 1 n
   refine W.item i s _ _ hg st fun v h' tk hv st' kk=>?_
   obtain ⟨t,rfl⟩:=hv
   have I1 : Inv X pins σ H { s with heap:=h',toks:=tk }:=I.turned (fun b o hb e=>kk b o (by simpa using hb) e) f0 f1 f3 f4 f5
   refine ⟨_,rfl,zmo (s:={ s with heap:=h',toks:=tk }) (n:="range_iterator") st' rfl rfl (by decide) ⟨.int (lo + i),H,I1,⟨t,?_⟩,⟨rfl,rfl⟩,st',fun b hb=>(hf b hb).1⟩⟩
   rw [Int.mul_one]
 done:=by
   intro X hP hw hK hc i pins s σ H E I hf st hg
   subst hP hw hK
   obtain ⟨f0,f1,f2,f3,f4,f5⟩:=hf it (by simp)
   exact wpAny_pyNext_range_end (I.ok.hd hc) st (by have : n <= i:=hg; omega) fun h' eb=>⟨rfl,I.turned (t':=s.toks) (fun b o hb e=>eb b o hb e) f0 f1 f3 f4 f5⟩
 self:=fun _ _ _ _ _ st h=>wpAny_pyIter_rangeiter st h
end L2
namespace L2
open PySem PySem.Spec PyProof.Rows
section
variable {X : Cx} {tg : Expr}
def zmk (K : PySem.W.Frag) (tl : TE) : TI:=fun σ H R=>tl σ H fun x H1=>∃ a,x = .ref a /\ (∃ xs,SqL K H1 a xs) /\ R (Itl K a) H1
def zrZ (K : PySem.W.Frag) (tl : TE) : TI:=fun σ H R=>tl σ H fun x H1=>∃ a,x = .ref a /\ (∃ xs,SqT K H1 a xs) /\ R (Itt K a) H1
theorem zfN {l : Expr} {tl : TE} (hl : PE X l tl) : PI X tg l (zmk X.K tl):=by
 intro pins s σ H R I h
 refine thn (hl pins s σ H _ I h) fun v s1 ⟨x,H1,I1,r1,q1⟩=>?_
 obtain ⟨a,e,⟨xs,hq⟩,q⟩:=q1
 subst e
 cases r1
 obtain ⟨its,rv,p,hz⟩:=I1.list hq
 refine wpAny_pyIter_list p.isList ?_
 refine ⟨s1.heap.objs.size,[s1.heap.objs.size],_,_,H1,rfl,I1.kept (t':=s1.toks) fun b o e=>Heap.get?_push_of_some _ e,ziB a _,⟨_,Heap.get?_push_size _ rfl,rfl,rfl⟩,fun b hb=>?_,q⟩
 have e : b = s1.heap.objs.size:=by simpa using hb
 subst e
 exact I1.fpOk (Nat.le_refl _) (I1.hok.fresh (Nat.le_refl _))
theorem zet {l : Expr} {tl : TE} (hl : PE X l tl) : PI X tg l (zrZ X.K tl):=by
 intro pins s σ H R I h
 refine thn (hl pins s σ H _ I h) fun v s1 ⟨x,H1,I1,r1,q1⟩=>?_
 obtain ⟨a,e,⟨xs,hq⟩,q⟩:=q1
 subst e
 cases r1
 obtain ⟨its,rv,p,hz⟩:=I1.tuple hq
 refine wpAny_pyIter_tuple (show s1.heap.IsTuple a its.toArray from p) ?_
 refine ⟨s1.heap.objs.size,[s1.heap.objs.size],_,_,H1,rfl,I1.kept (t':=s1.toks) fun b o e=>Heap.get?_push_of_some _ e,zly a _,⟨_,Heap.get?_push_size _ rfl,rfl,rfl⟩,fun b hb=>?_,q⟩
 have e : b = s1.heap.objs.size:=by simpa using hb
 subst e
 exact I1.fpOk (Nat.le_refl _) (I1.hok.fresh (Nat.le_refl _))
theorem zj8 {pins : List (Addr × Obj)} {σ : St} {H : Hp} {s : Shared} {R : It -> Hp -> Prop} {E : Value -> Shared -> Prop} {lo hi : Int} {t u v : Tok} {tk : Nat} (I : Inv X pins σ H s) (h1 : -(2 ^ 62) <= lo) (h2 : lo < 2 ^ 62) (h3 : -(2 ^ 62) <= hi) (h4 : hi < 2 ^ 62)
   (q : R (Itr lo (hi - lo).toNat) H) : wpAny (model X.prog X.w) X.A (pyIter (.ref s.heap.objs.size)) (PIE X pins σ tg R) E { s with heap:=s.heap.push { cls:=.type "range",data:=.fields #[.int lo t,.int hi u,.int 1 v] },toks:=tk }:=by
 refine wpAny_pyIter_range (IsRange.new ..) (small_one h1 h2 h3 h4) ?_
 have I1 : Inv X pins σ H { s with heap:=s.heap.push { cls:=.type "range",data:=.fields #[.int lo t,.int hi u,.int 1 v] },toks:=tk }:=I.kept fun b o e=>Heap.get?_push_of_some _ e
 refine ⟨(s.heap.push { cls:=.type "range",data:=.fields #[.int lo t,.int hi u,.int 1 v] }).objs.size,[(s.heap.push { cls:=.type "range",data:=.fields #[.int lo t,.int hi u,.int 1 v] }).objs.size],_,_,H,rfl,
   I1.kept (t':=tk) fun b o e=>Heap.get?_push_of_some _ e,zlx _ lo (hi - lo).toNat,?_,fun b hb=>?_,q⟩
 . have e1 : lo + ((0 : Nat) : Int) * 1 = lo:=by simp
   have e2 : (((hi - lo).toNat : Nat) : Int) - ((0 : Nat) : Int) = Builtin.Range.rangeSize lo hi 1:=by rw [rangeSize_one]; split <;> omega
   show IsRangeIter _ _ (lo + ((0 : Nat) : Int) * 1) ((((hi - lo).toNat : Nat) : Int) - ((0 : Nat) : Int)) 1
   rw [e1,e2]
   exact Heap.get?_push_size _ rfl
 . have e : b = (s.heap.push { cls:=.type "range",data:=.fields #[.int lo t,.int hi u,.int 1 v] }).objs.size:=by simpa using hb
   subst e
   exact I1.fpOk (Nat.le_refl _) (I1.hok.fresh (Nat.le_refl _))
def zoS (ta : TA) : TI:=fun σ H R=>ta σ H fun vs H1=>∃ j : Int,vs = [.int j] /\ -(2 ^ 62) <= j /\ j < 2 ^ 62 /\ R (Itr 0 j.toNat) H1
def zqZ (ta : TA) : TI:=fun σ H R=>ta σ H fun vs H1=>∃ i j : Int,vs = [.int i,.int j] /\ (-(2 ^ 62) <= i /\ i < 2 ^ 62 /\ -(2 ^ 62) <= j /\ j < 2 ^ 62) /\ R (Itr i (j - i).toNat) H1
theorem zcZ {a : Expr} {ta : TA} {p pos : Pos} (hg : Gl X "range") (hm : X.mg "range" = none) (ha : PA X [a] ta) (hs : starEach [a] X.env = [(false,eval a X.env)]:=by rfl) : PI X tg (.Call (.Name "range" p) [a] [] pos) (zoS ta):=by
 intro pins s σ H R I h
 refine Call_ (zex I hg hm boot_range (PyProof.Rows.callWith_type1 (thn (ha pos pins s σ H _ I h) fun us s1 ⟨vs,H1,I1,r1,q1⟩=>?_) hs rfl))
 obtain ⟨j,e,q1,q2,q⟩:=q1
 subst e
 cases r1 with
 | cons r rr =>
   cases rr
   obtain ⟨t,rfl⟩:=r
   exact call_range_1 (zj8 I1 (by omega) (by omega) q1 q2 (by simpa using q))
theorem zmR {a b : Expr} {ta : TA} {p pos : Pos} (hg : Gl X "range") (hm : X.mg "range" = none) (ha : PA X [a,b] ta) (hs : starEach [a,b] X.env = [(false,eval a X.env),(false,eval b X.env)]:=by rfl) (hs2 : starEach [b] X.env = [(false,eval b X.env)]:=by rfl) :
   PI X tg (.Call (.Name "range" p) [a,b] [] pos) (zqZ ta):=by
 intro pins s σ H R I h
 refine Call_ (zex I hg hm boot_range (PyProof.Rows.callWith_type1 (thn (ha pos pins s σ H _ I h) fun us s1 ⟨vs,H1,I1,r1,q1⟩=>?_) (by rw [hs,hs2]) (by rw [hs2]; rfl)))
 obtain ⟨i,j,e,⟨q1,q2,q3,q4⟩,q⟩:=q1
 subst e
 cases r1 with
 | cons r rr =>
   cases rr with
   | cons r' rr =>
     cases rr
     obtain ⟨t,rfl⟩:=r
     obtain ⟨t',rfl⟩:=r'
     exact call_range_2 (zj8 I1 q1 q2 q3 q4 q)
def zlE (wi : TI) (g : TG) (tb : TS) : TS:=fun D σ H=>wi σ H fun J H1=>∃ W : Nat -> Nat -> St -> Hp -> Prop,(∃ m,W 0 m σ H1) /\ ∀ i m σ H,W i m σ H ->
 (J.stop i H /\ D.nx σ H) \/ (J.go i H /\ ∃ N : St -> Hp -> Prop,(∀ σ' H',N σ' H' -> ∃ m',m' < m /\ W (i + 1) m' σ' H') /\ ∀ x H',J.yld i H x H' -> g x σ H' fun σ2 H2=>tb { D with nx:=N,ct:=N,bk:=D.nx } σ2 H2)
def zhp (fp : List Addr) (h : Heap) : List (Addr × Obj):=fp.filterMap fun b=>(h.get? b).map fun o=>(b,o)
theorem zeu {fp : List Addr} {h : Heap} {b : Addr} {o : Obj} (hb : b ∈ fp) (e : h.get? b = some o) : (b,o) ∈ zhp fp h:=List.mem_filterMap.mpr ⟨b,hb,by rw [e]; rfl⟩
theorem znr {fp : List Addr} {h : Heap} {p : Addr × Obj} (hp : p ∈ zhp fp h) : p.1 ∈ fp /\ h.get? p.1 = some p.2:=by
 obtain ⟨b,hb,e⟩:=List.mem_filterMap.mp hp
 cases q : h.get? b with
 | none=>rw [q] at e; cases e
 | some o =>
   rw [q] at e
   have e' : (b,o) = p:=Option.some.inj e
   subst e'
   exact ⟨hb,q⟩
theorem Inv.pinned {pins : List (Addr × Obj)} {σ : St} {H : Hp} {s : Shared} {fp : List Addr} (I : Inv X pins σ H s) (hf : ∀ b ∈ fp,zen X pins H b) (ho : ∀ b ∈ fp,∃ o,s.heap.get? b = some o /\ ∀ v,o.data ≠ .cell v) : Inv X (pins ++ zhp fp s.heap) σ H s :=
 I.pins_of fun p hp=>(List.mem_append.mp hp).elim (fun z=>I.pin p (List.mem_append_right _ z)) fun z=>by
   obtain ⟨hb,e⟩:=znr z
   obtain ⟨f0,f1,f2,_⟩:=hf p.1 hb
   obtain ⟨o,e',d⟩:=ho p.1 hb
   rw [e] at e'; cases e'
   exact ⟨e,f0,f1,f2,d⟩
theorem Inv.unpinned {pins pl : List (Addr × Obj)} {σ : St} {H : Hp} {s : Shared} (I : Inv X (pins ++ pl) σ H s) : Inv X pins σ H s:=I.pins_of fun p hp=>I.pin p (List.mem_append_right _ (List.mem_append_left _ hp))
theorem zc8 {iter : Expr} {body : List Stmt} {wi : TI} {g : TG} {tb : TS} {pos : Pos} (hp : PassesOwn (model X.prog X.w) X.A X.env X.xe) (hc : X.calm = true) (hi : PI X tg iter wi) (hg : PG X tg g) (hb : PSs X body tb)
   (hs : ∀ x,foldedSetIterable iter X.env x = pure x:=by intro _; rfl) : PS X (.For tg iter body [] pos) (zlE wi g tb):=by
 intro pins s σ H D I h
 refine wpAny_For (thn (hi pins s σ H _ I h) fun v s1 h1=>thn h1 fun itv s2 h2=>?_) hs
 obtain ⟨it,fp,tn,J,H2,e,I2,T,st2,f2,W,⟨m0,w0⟩,turn⟩:=h2
 subst e
 -- what stays true of the iterator's objects through the loop
 have stat : ∀ {H' : Hp},(∀ b ∈ fp,H' b = none) -> ∀ b ∈ fp,zen X pins H' b:=fun hn b hb=>⟨hn b hb,(f2 b hb).2⟩
 refine codeAny_forLoop_any (fun n s'=>∃ i σ' H',Inv X pins σ' H' s' /\ tn i s'.heap /\ (∀ b ∈ fp,H' b = none) /\ W i n σ' H') ?_ m0 ⟨0,σ,H2,I2,st2,fun b hb=>(f2 b hb).1,w0⟩
 rintro n s3 ⟨i,σ3,H3,I3,st3,fr3,w3⟩
 rcases turn i n σ3 H3 w3 with ⟨stop,qn⟩ | ⟨go,N,hN,step⟩
 . refine wpAny_passesOwn hp (thn (T.done X rfl rfl rfl hc i pins s3 σ3 H3 X.xe I3 (stat fr3) st3 stop) fun r s4 ⟨hr,I4⟩=>?_)
   subst hr
   exact wpAny_execs_nil ⟨σ3,H3,I4,qn⟩
 . refine wpAny_passesOwn hp (thn (T.item X rfl rfl rfl hc i pins s3 σ3 H3 X.xe I3 (stat fr3) st3 go) fun r s4 ⟨u,hr,h4⟩=>?_)
   subst hr
   refine wpAny_passesOwn hp (thn h4 fun _ s5 ⟨x,H5,I5,r5,y5,st5,fr5⟩=>?_)
   have I5':=I5.pinned (stat fr5) (T.obj _ _ st5)
   refine wpAny_passesOwn hp (thn (hg _ s5 σ3 H5 x u _ I5' r5 (step x H5 y5)) fun _ s6 ⟨σ6,H6,I6,q6⟩=>?_)
   refine wpAny_passesOwn hp (thn (hb _ s6 σ6 H6 _ I6 q6) fun f s7 q7=>?_)
   have again : ∀ {σ7 : St} {H7 : Hp},Inv X (pins ++ zhp fp s5.heap) σ7 H7 s7 -> N σ7 H7 -> ∃ m,m < n /\ ∃ i σ' H',Inv X pins σ' H' s7 /\ tn i s7.heap /\ (∀ b ∈ fp,H' b = none) /\ W i m σ' H':=fun {σ7 H7} I7 n7=>by
     obtain ⟨m',hm,w7⟩:=hN σ7 H7 n7
     refine ⟨m',hm,i + 1,σ7,H7,I7.unpinned,T.keep _ _ _ st5 fun b hb o e=>(I7.pin (b,o) (List.mem_append_right _ (List.mem_append_right _ (zeu hb e)))).1,fun b hb=>?_,w7⟩
     obtain ⟨o,e,d⟩:=T.obj _ _ st5 b hb
     exact (I7.pin (b,o) (List.mem_append_right _ (List.mem_append_right _ (zeu hb e)))).2.1
   cases f with
   | next=>obtain ⟨σ7,H7,I7,n7⟩:=q7; exact again I7 n7
   | cont=>obtain ⟨σ7,H7,I7,n7⟩:=q7; exact again I7 n7
   | brk=>obtain ⟨σ7,H7,I7,q7⟩:=q7; exact ⟨σ7,H7,I7.unpinned,q7⟩
   | ret v=>obtain ⟨x7,σ7,H7,I7,r7,q7⟩:=q7; exact ⟨x7,σ7,H7,I7.unpinned,r7,q7⟩
end
theorem zoR {K : PySem.W.Frag} {a : Addr} {xs : List V} {g : TG} {tb : TS} {D : zcE} {σ : St} {H : Hp} (Pv : Nat -> St -> Hp -> Prop) (h0 : Pv 0 σ H) (hl : ∀ i σ H,i <= xs.length -> Pv i σ H -> SqL K H a xs)
   (hs : ∀ i x σ H,xs[i]? = some x -> Pv i σ H -> g x σ H fun σ2 H2=>tb { D with nx:=Pv (i + 1),ct:=Pv (i + 1),bk:=D.nx } σ2 H2) (hd : ∀ σ H,Pv xs.length σ H -> D.nx σ H) :
   ∃ W : Nat -> Nat -> St -> Hp -> Prop,(∃ m,W 0 m σ H) /\ ∀ i m σ H,W i m σ H ->
     ((Itl K a).stop i H /\ D.nx σ H) \/ ((Itl K a).go i H /\ ∃ N : St -> Hp -> Prop,(∀ σ' H',N σ' H' -> ∃ m',m' < m /\ W (i + 1) m' σ' H') /\ ∀ x H',(Itl K a).yld i H x H' -> g x σ H' fun σ2 H2=>tb { D with nx:=N,ct:=N,bk:=D.nx } σ2 H2):=by
 refine ⟨fun i m σ H=>m = xs.length - i /\ i <= xs.length /\ Pv i σ H,⟨xs.length,by simp,Nat.zero_le _,h0⟩,?_⟩
 rintro i m σ H ⟨rfl,hi,p⟩
 have q:=hl i σ H hi p
 by_cases hlt : i < xs.length
 . refine .inr ⟨⟨xs,xs[i],q,by simp [hlt]⟩,Pv (i + 1),fun σ' H' p'=>⟨xs.length - (i + 1),by omega,rfl,hlt,p'⟩,fun x H' y=>?_⟩
   obtain ⟨e,y⟩:=y
   subst e
   exact hs i x σ _ (y xs q) p
 . have e : i = xs.length:=by omega
   subst e
   exact .inl ⟨⟨xs,q,Nat.le_refl _⟩,hd σ H p⟩
theorem zqy {K : PySem.W.Frag} {a : Addr} {xs : List V} {g : TG} {tb : TS} {D : zcE} {σ : St} {H : Hp} (Pv : Nat -> St -> Hp -> Prop) (h0 : Pv 0 σ H) (hl : ∀ i σ H,i <= xs.length -> Pv i σ H -> SqT K H a xs)
   (hs : ∀ i x σ H,xs[i]? = some x -> Pv i σ H -> g x σ H fun σ2 H2=>tb { D with nx:=Pv (i + 1),ct:=Pv (i + 1),bk:=D.nx } σ2 H2) (hd : ∀ σ H,Pv xs.length σ H -> D.nx σ H) :
   ∃ W : Nat -> Nat -> St -> Hp -> Prop,(∃ m,W 0 m σ H) /\ ∀ i m σ H,W i m σ H ->
     ((Itt K a).stop i H /\ D.nx σ H) \/ ((Itt K a).go i H /\ ∃ N : St -> Hp -> Prop,(∀ σ' H',N σ' H' -> ∃ m',m' < m /\ W (i + 1) m' σ' H') /\ ∀ x H',(Itt K a).yld i H x H' -> g x σ H' fun σ2 H2=>tb { D with nx:=N,ct:=N,bk:=D.nx } σ2 H2):=by
 refine ⟨fun i m σ H=>m = xs.length - i /\ i <= xs.length /\ Pv i σ H,⟨xs.length,by simp,Nat.zero_le _,h0⟩,?_⟩
 rintro i m σ H ⟨rfl,hi,p⟩
 have q:=hl i σ H hi p
 by_cases hlt : i < xs.length
 . refine .inr ⟨⟨xs,xs[i],q,by simp [hlt]⟩,Pv (i + 1),fun σ' H' p'=>⟨xs.length - (i + 1),by omega,rfl,hlt,p'⟩,fun x H' y=>?_⟩
   obtain ⟨e,y⟩:=y
   subst e
   exact hs i x σ _ (y xs q) p
 . have e : i = xs.length:=by omega
   subst e
   exact .inl ⟨⟨xs,q,Nat.le_refl _⟩,hd σ H p⟩
theorem ziP {lo : Int} {n : Nat} {g : TG} {tb : TS} {D : zcE} {σ : St} {H : Hp} (Pv : Nat -> St -> Hp -> Prop) (h0 : Pv 0 σ H)
   (hs : ∀ i σ H,i < n -> Pv i σ H -> g (.int (lo + i)) σ H fun σ2 H2=>tb { D with nx:=Pv (i + 1),ct:=Pv (i + 1),bk:=D.nx } σ2 H2) (hd : ∀ σ H,Pv n σ H -> D.nx σ H) :
   ∃ W : Nat -> Nat -> St -> Hp -> Prop,(∃ m,W 0 m σ H) /\ ∀ i m σ H,W i m σ H ->
     ((Itr lo n).stop i H /\ D.nx σ H) \/ ((Itr lo n).go i H /\ ∃ N : St -> Hp -> Prop,(∀ σ' H',N σ' H' -> ∃ m',m' < m /\ W (i + 1) m' σ' H') /\ ∀ x H',(Itr lo n).yld i H x H' -> g x σ H' fun σ2 H2=>tb { D with nx:=N,ct:=N,bk:=D.nx } σ2 H2):=by
 refine ⟨fun i m σ H=>m = n - i /\ i <= n /\ Pv i σ H,⟨n,by simp,Nat.zero_le _,h0⟩,?_⟩
 rintro i m σ H ⟨rfl,hi,p⟩
 by_cases hlt : i < n
 . refine .inr ⟨hlt,Pv (i + 1),fun σ' H' p'=>⟨n - (i + 1),by omega,rfl,hlt,p'⟩,fun x H' y=>?_⟩
   obtain ⟨e,y⟩:=y
   subst e y
   exact hs i σ _ hlt p
 . have e : i = n:=by omega
   subst e
   exact .inl ⟨Nat.le_refl _,hd σ H p⟩
end L2
namespace L2
open PySem PySem.Spec PyProof.Rows
abbrev R2:=V -> V -> Hp -> VK -> Prop
def OpR (X : Cx) (f : Value -> Value -> Sem Value) (r : R2) : Prop :=
 ∀ (pins : List (Addr × Obj)) (s : Shared) (σ : St) (H : Hp) (x y : V) (v u : Value) (Q : VK),Inv X pins σ H s -> zbf x v -> zbf y u -> r x y H Q ->
   wpAny (model X.prog X.w) X.A (f v u) (EP X pins σ Q) X.xe s
def UnR (X : Cx) (f : Value -> Sem Value) (r : V -> Hp -> VK -> Prop) : Prop :=
 ∀ (pins : List (Addr × Obj)) (s : Shared) (σ : St) (H : Hp) (x : V) (v : Value) (Q : VK),Inv X pins σ H s -> zbf x v -> r x H Q ->
   wpAny (model X.prog X.w) X.A (f v) (EP X pins σ Q) X.xe s
def zaP (X : Cx) (f : Value) (r : List V -> Hp -> VK -> Prop) : Prop :=
 ∀ (pins : List (Addr × Obj)) (s : Shared) (σ : St) (H : Hp) (xs : List V) (us : List Value) (Q : VK),Inv X pins σ H s -> zaZ xs us -> r xs H Q ->
   wpAny (model X.prog X.w) X.A (call f us) (EP X pins σ Q) X.xe s
def tOp (r : R2) (ta tb : TE) : TE:=fun σ H Q=>ta σ H fun x H1=>tb σ H1 fun y H2=>r x y H2 Q
def tUn (r : V -> Hp -> VK -> Prop) (ta : TE) : TE:=fun σ H Q=>ta σ H fun x H1=>r x H1 Q
def rI (C : Int -> Int -> Prop) (g : Int -> Int -> V) : R2:=fun x y H Q=>∃ i j,x = .int i /\ y = .int j /\ C i j /\ Q (g i j) H
def rI0 (g : Int -> Int -> V) : R2:=fun x y H Q=>∃ i j,x = .int i /\ y = .int j /\ Q (g i j) H
def rU (g : Int -> V) : V -> Hp -> VK -> Prop:=fun x H Q=>∃ i,x = .int i /\ Q (g i) H
section
variable {X : Cx} {a b c : Expr} {ta tb tc : TE} {pos : Pos}
theorem zrz (ha : PE X a ta) (hb : PE X b tb) {pins : List (Addr × Obj)} {s : Shared} {σ : St} {H : Hp} {R : V -> V -> Hp -> Prop} (I : Inv X pins σ H s)
   (h : ta σ H fun x H1=>tb σ H1 fun y H2=>R x y H2) {Q : Value -> Shared -> Prop} {f : Value -> Value -> Sem Value}
   (hf : ∀ v u s2 x y H2,Inv X pins σ H2 s2 -> zbf x v -> zbf y u -> R x y H2 -> wpAny (model X.prog X.w) X.A (f v u) Q X.xe s2) :
   wpAny (model X.prog X.w) X.A (eval a X.env) (fun v s₁=>wpAny (model X.prog X.w) X.A (eval b X.env) (fun u s₂=>wpAny (model X.prog X.w) X.A (f v u) Q X.xe s₂) X.xe s₁) X.xe s:=by
 refine thn (ha pins s σ H _ I h) fun v s1 ⟨x,H1,I1,r1,q1⟩=>?_
 refine thn (hb pins s1 σ H1 _ I1 q1) fun u s2 ⟨y,H2,I2,r2,q2⟩=>?_
 exact hf v u s2 x y H2 I2 r1 r2 q2
theorem zal {op : Operator} {r : R2} (ho : OpR X (binaryOp op) r) (ha : PE X a ta) (hb : PE X b tb) : PE X (.BinOp a op b pos) (tOp r ta tb):=by
 intro pins s σ H Q I h
 exact wpAny_BinOp (zrz ha hb I h fun v u s2 x y H2 I2 rx ry q=>ho pins s2 σ H2 x y v u Q I2 rx ry q)
theorem zfq {op : UnaryOp} {r : V -> Hp -> VK -> Prop} (ho : UnR X (unaryOp op) r) (ha : PE X a ta) : PE X (.UnaryOp op a pos) (tUn r ta):=by
 intro pins s σ H Q I h
 exact UnaryOp_ (thn (ha pins s σ H _ I h) fun v s1 ⟨x,H1,I1,r1,q1⟩=>ho pins s1 σ H1 x v Q I1 r1 q1)
theorem opI {f : Value -> Value -> Sem Value} {C : Int -> Int -> Prop} {g : Int -> Int -> Int}
   (rule : ∀ (i j : Int) (t u : Tok) (s : Shared) (Q : Value -> Shared -> Prop) (E : Value -> Shared -> Prop),C i j -> Q (.int (g i j) s.toks) { s with toks:=s.toks + 1 } -> wpAny (model X.prog X.w) X.A (f (.int i t) (.int j u)) Q E s) :
   OpR X f (rI C fun i j=>.int (g i j)):=by
 intro pins s σ H x y v u Q I rx ry h
 obtain ⟨i,j,rfl,rfl,hc,q⟩:=h
 obtain ⟨t,rfl⟩:=rx
 obtain ⟨t',rfl⟩:=ry
 exact rule i j t t' s _ _ hc ⟨.int (g i j),H,I.tok _,⟨_,rfl⟩,q⟩
theorem zsu {f : Value -> Value -> Sem Value} {g : Int -> Int -> Int}
   (rule : ∀ (i j : Int) (t u : Tok) (s : Shared) (Q : Value -> Shared -> Prop) (E : Value -> Shared -> Prop),Q (.int (g i j) s.toks) { s with toks:=s.toks + 1 } -> wpAny (model X.prog X.w) X.A (f (.int i t) (.int j u)) Q E s) :
   OpR X f (rI0 fun i j=>.int (g i j)):=by
 intro pins s σ H x y v u Q I rx ry h
 obtain ⟨i,j,rfl,rfl,q⟩:=h
 obtain ⟨t,rfl⟩:=rx
 obtain ⟨t',rfl⟩:=ry
 exact rule i j t t' s _ _ ⟨.int (g i j),H,I.tok _,⟨_,rfl⟩,q⟩
theorem zqD {f : Value -> Value -> Sem Value} {g : Int -> Int -> Bool}
   (rule : ∀ (i j : Int) (t u : Tok) (s : Shared) (Q : Value -> Shared -> Prop) (E : Value -> Shared -> Prop),Q (.bool (g i j)) s -> wpAny (model X.prog X.w) X.A (f (.int i t) (.int j u)) Q E s) :
   OpR X f (rI0 fun i j=>.bl (g i j)):=by
 intro pins s σ H x y v u Q I rx ry h
 obtain ⟨i,j,rfl,rfl,q⟩:=h
 obtain ⟨t,rfl⟩:=rx
 obtain ⟨t',rfl⟩:=ry
 exact rule i j t t' s _ _ ⟨.bl (g i j),H,I,rfl,q⟩
def zsy (i j : Int) : Prop:=0 <= j /\ j <= 1000000 /\ i.natAbs < 2 ^ 64
theorem zsd : OpR X (binaryOp .Add) (rI0 fun i j=>.int (i + j)):=zsu fun _ _ _ _ _ _ _ q=>add_int q
theorem zck : OpR X (binaryOp .Sub) (rI0 fun i j=>.int (i - j)):=zsu fun _ _ _ _ _ _ _ q=>sub_int q
theorem zcW : OpR X (binaryOp .Mod) (rI (fun _ j=>0 < j) fun i j=>.int (i % j)):=opI fun i j _ _ _ _ _ hc q=>by
 have h1 : (0 : Int) < j:=hc
 exact mod_int' (by omega) (by rw [Int.fmod_eq_emod_of_nonneg i (by omega)]; exact q)
theorem zrS : OpR X (binaryOp .Pow) (rI zsy fun i j=>.int (i ^ j.toNat)):=opI fun _ _ _ _ _ _ _ hc q=>pow_int_small hc.1 hc.2.1 hc.2.2 q
theorem unI {f : Value -> Sem Value} {g : Int -> Int}
   (rule : ∀ (i : Int) (t : Tok) (s : Shared) (Q : Value -> Shared -> Prop) (E : Value -> Shared -> Prop),Q (.int (g i) s.toks) { s with toks:=s.toks + 1 } -> wpAny (model X.prog X.w) X.A (f (.int i t)) Q E s) :
   UnR X f (rU fun i=>.int (g i)):=by
 intro pins s σ H x v Q I rx h
 obtain ⟨i,rfl,q⟩:=h
 obtain ⟨t,rfl⟩:=rx
 exact rule i t s _ _ ⟨.int (g i),H,I.tok _,⟨_,rfl⟩,q⟩
theorem zdV : UnR X (unaryOp .USub) (rU fun i=>.int (-i)):=unI fun _ _ _ _ _ q=>neg_int q
end
section
variable {X : Cx} {a b c : Expr} {ta tb tc : TE} {pos : Pos}
theorem zi3 {pins : List (Addr × Obj)} {σ : St} {H : Hp} {s : Shared} {Q : VK} {k k' : Bool} (I : Inv X pins σ H s) (q : Q (.bl k) H) (e : k = k') : EP X pins σ Q (.bool k') s:=by
 subst e
 exact ⟨.bl k,H,I,rfl,q⟩
theorem zix : OpR X (compareOp .Lt) (rI0 fun i j=>.bl (decide (i < j))):=zqD fun _ _ _ _ _ _ _ q=>lt_int q
theorem zoH : OpR X (compareOp .LtE) (rI0 fun i j=>.bl (decide (i <= j))):=zqD fun _ _ _ _ _ _ _ q=>le_int q
theorem zhv : OpR X (compareOp .Gt) (rI0 fun i j=>.bl (decide (j < i))):=zqD fun _ _ _ _ _ _ _ q=>gt_int q
theorem zsP : OpR X (compareOp .GtE) (rI0 fun i j=>.bl (decide (j <= i))):=zqD fun _ _ _ _ _ _ _ q=>ge_int q
theorem zrv : OpR X (compareOp .Is) (fun x y H Q=>y = .non /\ Q (.bl (decide (x = .non))) H):=by
 intro pins s σ H x y v u Q I rx ry h
 obtain ⟨rfl,q⟩:=h
 cases ry
 refine is_none_gen (zi3 I q ?_)
 cases x <;> first
   | (cases rx; rfl)
   | (obtain ⟨t,rfl⟩:=rx; rfl)
theorem zpx : OpR X (compareOp .IsNot) (fun x y H Q=>y = .non /\ Q (.bl (!decide (x = .non))) H):=by
 intro pins s σ H x y v u Q I rx ry h
 obtain ⟨rfl,q⟩:=h
 cases ry
 refine isnot_none_gen (zi3 I q ?_)
 cases x <;> first
   | (cases rx; rfl)
   | (obtain ⟨t,rfl⟩:=rx; rfl)
theorem OpR.or {f : Value -> Value -> Sem Value} {r r' : R2} (h : OpR X f r) (h' : OpR X f r') : OpR X f (fun x y H Q=>r x y H Q \/ r' x y H Q):=by
 intro pins s σ H x y v u Q I rx ry q
 rcases q with q | q
 . exact h pins s σ H x y v u Q I rx ry q
 . exact h' pins s σ H x y v u Q I rx ry q
theorem zaw (b : Expr) {op : CmpOp} (h : op ≠ .In:=by decide) (h2 : op ≠ .NotIn:=by decide) : behindInMarks op b = false:=by
 have e1 : (op == CmpOp.In) = false:=by cases op <;> first | rfl | exact absurd rfl h
 have e2 : (op == CmpOp.NotIn) = false:=by cases op <;> first | rfl | exact absurd rfl h2
 cases b <;> simp [behindInMarks,e1,e2]
theorem zcH {op : CmpOp} {r : R2} (ho : OpR X (compareOp op) r) (ha : PE X a ta) (hb : PE X b tb) (hm : behindInMarks op b = false) : PE X (.Compare a [op] [b] pos) (tOp r ta tb):=by
 intro pins s σ H Q I h
 exact wpAny_Compare1 (zrz ha hb I h fun v u s2 x y H2 I2 rx ry q=>ho pins s2 σ H2 x y v u Q I2 rx ry q) hm
def zqQ (t : TE) : TT:=fun σ H Q=>t σ H fun x H'=>∃ k,x = .bl k /\ Q k H'
theorem zax {op : CmpOp} {r : R2} (ho : OpR X (compareOp op) r) (ha : PE X a ta) (hb : PE X b tb) (hm : behindInMarks op b = false) : PT X (.Compare a [op] [b] pos) (zqQ (tOp r ta tb)):=by
 intro pins s σ H Q I h
 refine wpAny_isTrue_Compare1 (thn (ha pins s σ H _ I h) fun v s1 ⟨x,H1,I1,r1,q1⟩=>thn (hb pins s1 σ H1 _ I1 q1) fun u s2 ⟨y,H2,I2,r2,q2⟩ =>
   thn (ho pins s2 σ H2 x y v u _ I2 r1 r2 q2) fun c s3 ⟨z,H3,I3,r3,k,e,q3⟩=>?_) hm
 subst e
 cases r3
 exact wpAny_truthy_bool ⟨H3,I3,q3⟩
def zoW (r r' : R2) (ta tb tc : TE) : TE:=fun σ H Q=>ta σ H fun x H1=>tb σ H1 fun y H2=>r x y H2 fun z H3=>∃ k,z = .bl k /\
 (if k = true then tc σ H3 fun w' H4=>r' y w' H4 Q else Q (.bl false) H3)
theorem zoM {op op' : CmpOp} {r r' : R2} (ho : OpR X (compareOp op) r) (ho' : OpR X (compareOp op') r') (ha : PE X a ta) (hb : PE X b tb) (hc : PE X c tc)
   (hm : lastMarks [op,op'] [b,c] = false:=by with_unfolding_all rfl) : PE X (.Compare a [op,op'] [b,c] pos) (zoW r r' ta tb tc):=by
 intro pins s σ H Q I h
 refine Compare_chain (thn (ha pins s σ H _ I h) fun v s1 ⟨x,H1,I1,r1,q1⟩=>chain_link (thn (hb pins s1 σ H1 _ I1 q1) fun u s2 ⟨y,H2,I2,r2,q2⟩ =>
   thn (ho pins s2 σ H2 x y v u _ I2 r1 r2 q2) fun d s3 ⟨z,H3,I3,r3,k,e,q3⟩=>?_)) hm
 subst e
 cases r3
 refine wpAny_truthy_bool ?_
 cases k with
 | false=>exact ite_ff ⟨.bl false,H3,I3,rfl,q3⟩
 | true=>exact ite_tt (chain_last (thn (hc pins s3 σ H3 _ I3 q3) fun w' s4 ⟨z',H4,I4,r4,q4⟩=>ho' pins s4 σ H4 y z' u w' Q I4 r2 r4 q4))
theorem zhw : (sizeLine : Nat) < 2 ^ 63:=by rw [sizeLine_eq]; decide
theorem zlo : OpR X (binaryOp .Add) (fun x y H Q=>∃ i j,x = .str i /\ y = .str j /\ i.length + j.length <= sizeLine /\ Q (.str (i ++ j)) H):=by
 intro pins s σ H x y v u Q I rx ry h
 obtain ⟨i,j,rfl,rfl,hz,q⟩:=h
 obtain ⟨t,rfl⟩:=rx
 obtain ⟨t',rfl⟩:=ry
 exact add_str (fun t' tk=>⟨.str (i ++ j),H,I.tok _,⟨_,rfl⟩,q⟩) hz
theorem zfr {x : V} {us : List Value} (r : zaZ [x] us) : ∃ u,us = [u] /\ zbf x u:=by
 cases r with
 | cons r1 r2=>cases r2; exact ⟨_,rfl,r1⟩
theorem ziR {x y : V} {us : List Value} (r : zaZ [x,y] us) : ∃ u w',us = [u,w'] /\ zbf x u /\ zbf y w':=by
 cases r with
 | cons r1 r2 =>
   cases r2 with
   | cons r3 r4=>cases r4; exact ⟨_,_,rfl,r1,r3⟩
theorem znN : zaP X (.builtin "abs") (fun xs H Q=>∃ i,xs = [.int i] /\ Q (.int (if i < 0 then -i else i)) H):=by
 intro pins s σ H xs us Q I r h
 obtain ⟨i,rfl,q⟩:=h
 obtain ⟨u,rfl,t,rfl⟩:=zfr r
 exact call_abs_int fun u tk=>⟨.int (if i < 0 then -i else i),H,I.tok _,⟨_,rfl⟩,q⟩
theorem znu : zaP X (.type "int") (fun xs H Q=>(∃ i,xs = [.int i] /\ Q (.int i) H) \/ ∃ k,xs = [.bl k] /\ Q (.int (if k then 1 else 0)) H):=by
 intro pins s σ H xs us Q I r h
 rcases h with ⟨i,rfl,q⟩ | ⟨k,rfl,q⟩
 . obtain ⟨u,rfl,t,rfl⟩:=zfr r
   exact call_int_int ⟨.int i,H,I,⟨_,rfl⟩,q⟩
 . obtain ⟨u,rfl,r1⟩:=zfr r
   cases r1
   exact call_int_bool ⟨.int (if k then 1 else 0),H,I.tok _,⟨_,rfl⟩,q⟩
end
end L2
namespace L2
open PySem PySem.Spec PyProof.Rows
structure ztk (h : Heap) (x dx C : Addr) (mA : Str -> Option Value) : Prop where
 obj : h.get? x = some (PySem.W.instObj C dx)
 ns : h.Ns1 dx mA
 ne : dx ≠ x
section
variable {prog : Program} {w : World} {A : Around} {E : Value -> Shared -> Prop} {s : Shared} {K : PySem.W.Frag} {x dx C f : Addr} {mA : Str -> Option Value} {name : Str} {v : Value}
end
section
variable {P : Program} {w : World} {H H' : Hp} {h h' : Heap} {a C dx : Addr} {fs fs' : List (Str × V)}
end
structure Cls (K : PySem.W.Frag) (C : Addr) : Prop where
 pg : PySem.W.plainGet K C Str.empty = true
 hd : PySem.W.hasDictIn K C = true
 po : PySem.W.plainOver K C = true
 sa : PySem.W.findIn K (.ref C) "__setattr__" = some (some (.builtin "object.__setattr__"))
structure Con (K : PySem.W.Frag) (C : Addr) (f : Str) (v : V) (u : Value) : Prop where
 at_ : PySem.W.findIn K (.ref C) f = some (some u)
 rel : zbf v u
 get : PySem.W.specialIn K u "__get__" = some none
 cp : PySem.W.copiedNames.contains f = false
structure ztj (K : PySem.W.Frag) (C : Addr) (m : Str) (f : Addr) : Prop where
 at_ : PySem.W.findIn K (.ref C) m = some (some (.ref f))
 fn : PySem.W.isFn K (.ref f) = true
 kp : PySem.W.keepIn K (.ref f) = true
section
variable {X : Cx} {pins : List (Addr × Obj)} {σ : St} {H : Hp} {s : Shared} {a C dx : Addr} {fs : List (Str × V)} {f : Str} {v : V} {A : Around} {E : Value -> Shared -> Prop}
end
section
variable {X : Cx} {o e value : Expr} {f : Str} {pos pos' tpos : Pos} {ta tv : TE}
end
section
variable {X : Cx} {pins : List (Addr × Obj)} {σ : St} {H : Hp} {s : Shared} {A : Around} {E : Value -> Shared -> Prop} {Q : Value -> Shared -> Prop} {c : Value} {b : Bool}
inductive zhz (K : PySem.W.Frag) (H : Hp) : V -> Value -> Prop where
 | non : zhz K H .non (.type "NoneType")
 | bl (x : Bool) : zhz K H (.bl x) (.type "bool")
 | int (i : Int) : zhz K H (.int i) (.type "int")
 | str (x : Str) : zhz K H (.str x) (.type "str")
 | flt (x : UInt64) : zhz K H (.flt x) (.type "float")
 | lst {a : Addr} {xs : List V} (e : H a = some (.lst xs)) : zhz K H (.ref a) (.type "list")
 | frz {a : Addr} {o : Obj} {xs : List V} (e : H a = some (.frz o (.lst xs))) : zhz K H (.ref a) (.type "list")
 | tup {a : Addr} {xs : List V} (e : H a = some (.tup xs)) : zhz K H (.ref a) (.type "tuple")
 | dK {a : Addr} {kvs : List (Key × V)} (e : H a = some (.dK kvs)) : zhz K H (.ref a) (.type "dict")
 | dT {a : Addr} {kvs : List (List Key × V)} (e : H a = some (.dT kvs)) : zhz K H (.ref a) (.type "dict")
 | ins {a C dx : Addr} {fs : List (Str × V)} (e : H a = some (.ins C dx fs)) (cl : Cls K C) (ha : PySem.W.findIn K (.ref C) "__class__" = some (some (.builtin "object.__class__")))
     (hn : PySem.W.specialIn K (.builtin "object.__class__") "__get__" = some (some (.builtin "getset_descriptor.__get__"))) (htk : PySem.W.takesIn K (.builtin "object.__class__") = some true)
     (hm : PySem.W.mroIn K C (.type "object") = some true) : zhz K H (.ref a) (.ref C)
end
end L2
namespace L2
open PySem PySem.Spec PyProof.Rows
structure zdZ (k : Nat) (A : Around) : Prop where
 hd : A.handled = none
 dp : A.depth + 3 * k + 5 < recursionLimit
 un : A.units + 16 * k + 200 < cLine
 gd : A.guards = some []
theorem zdZ.mono {j k : Nat} {A : Around} (r : zdZ k A) (h : j <= k) : zdZ j A:=⟨r.hd,by have:=r.dp; omega,by have:=r.un; omega,by first | exact r.gd | (simp [Around.under,Code.guards,Code.isGuard,guardIds]; exact r.gd)⟩
theorem zdZ.deeper {k : Nat} {A : Around} (r : zdZ (k + 1) A) (env : Env) : zdZ k (A.deeper env) :=
 ⟨r.hd,by have:=r.dp; show A.depth + 1 + 3 * k + 5 < _; omega,by have:=r.un; show A.units + 3 + 16 * k + 200 < _; omega,by first | exact r.gd | (simp [Around.under,Code.guards,Code.isGuard,guardIds]; exact r.gd)⟩
theorem zdZ.depth {k : Nat} {A : Around} (r : zdZ k A) : A.depth < recursionLimit:=by have:=r.dp; omega
theorem zdZ.units {k : Nat} {A : Around} (r : zdZ k A) : A.units + 64 < cLine:=by have:=r.un; omega
def znK : TA:=fun _ H Q=>Q [] H
def zhO (ta : TE) (tr : TA) : TA:=fun σ H Q=>ta σ H fun x H1=>tr σ H1 fun xs H2=>Q (x :: xs) H2
section
variable {X : Cx} {e : Expr} {es : List Expr} {te : TE} {t : TA} {pos : Pos}
theorem zab : PA X [] znK:=fun _ _ _ _ H Q I h=>Calls.spliced_nil ⟨[],H,I,.nil,h⟩
theorem zaa (ha : PE X e te) (hr : PA X es t) (hs : starEach (e :: es) X.env = (false,eval e X.env) :: starEach es X.env:=by rfl) : PA X (e :: es) (zhO te t):=by
 intro pos pins s σ H Q I h
 rw [hs]
 show wpAny _ _ (spliced ((false,eval e X.env) :: backTo pos (starEach es X.env))) _ _ s
 refine Calls.spliced_cons (thn (ha pins s σ H _ I h) fun u s1 ⟨x,H1,I1,r1,q1⟩=>?_)
 exact thn (hr pos pins s1 σ H1 _ I1 q1) fun us s2 ⟨xs,H2,I2,r2,q2⟩=>⟨x :: xs,H2,I2,.cons r1 r2,q2⟩
def ztc (t : TA) : TE:=fun σ H Q=>t σ H fun xs H1=>xs.length <= sizeLine /\ ∀ p,H1 p = none -> Q (.ref p) (upd H1 p (.tup xs))
def zta (t : TA) : TE:=fun σ H Q=>t σ H fun xs H1=>xs.length <= sizeLine /\ ∀ p,H1 p = none -> Q (.ref p) (upd H1 p (.lst xs))
theorem zrE {x1} (h : PA X es t) : PE X (.Tuple es x1 pos) (ztc t):=by
 intro pins s σ H Q I hq
 refine wpAny_Tuple_spliced (thn (h pos pins s σ H _ I hq) fun us s1 ⟨xs,H1,I1,r,z,q⟩=>⟨by rw [<- r.length]; exact z,?_⟩)
 have hf : H1 s1.heap.objs.size = none:=I1.hok.fresh (Nat.le_refl _)
 refine ⟨.ref s1.heap.objs.size,upd H1 s1.heap.objs.size (.tup xs),I1.laid (t':=s1.toks) (fun b u e=>Heap.get?_push_of_some _ e) (Nat.le_refl _) ?_,rfl,q _ hf⟩
 exact ⟨z,us,r,⟨_,Heap.get?_push_size _ rfl,rfl,_,rfl⟩⟩
theorem zrp (h : PA X es t) : PE X (.List es pos) (zta t):=by
 intro pins s σ H Q I hq
 refine wpAny_List_spliced (thn (h pos pins s σ H _ I hq) fun us s1 ⟨xs,H1,I1,r,z,q⟩=>⟨by rw [<- r.length]; exact z,?_⟩)
 have hf : H1 s1.heap.objs.size = none:=I1.hok.fresh (Nat.le_refl _)
 refine ⟨.ref s1.heap.objs.size,upd H1 s1.heap.objs.size (.lst xs),I1.laid (t':=s1.toks) (fun b u e=>Heap.get?_push_of_some _ e) (Nat.le_refl _) ?_,rfl,q _ hf⟩
 exact ⟨z,us,0,r,Heap.get?_push_size _ rfl⟩
end
abbrev Sp:=List V -> Hp -> VK -> XK -> Prop
abbrev CXT:=List Env -> Hp -> Shared -> XK -> Value -> Shared -> Prop
structure zo4 (P : Program) (w : World) (K : PySem.W.Frag) (mg : Str -> Option Value) (base : Heap) (A : Around) (outer : List Env) (s : Shared) (H : Hp) : Prop where
 frames : A.frames = some outer
 mod : Mod K mg base
 bs : ∀ b o,base.get? b = some o -> s.heap.get? b = some o /\ H b = none
 bsz : base.objs.size <= s.heap.objs.size
 funs : s.heap.FunFrames base outer
 frf : ∀ b ∈ frs outer,H b = none
 hok : HOk P w H s.heap
 bare : AllBare s.gens
def CE (outer : List Env) (P : Program) (w : World) (H : Hp) (s : Shared) (Q : VK) (u : Value) (s' : Shared) : Prop :=
 ∃ v H',s'.os = s.os /\ AllBare s'.gens /\ Un (frs outer) [] H H' s.heap s'.heap /\ HOk P w H' s'.heap /\ zbf v u /\ Q v H'
def CR (CX : CXT) (outer : List Env) (P : Program) (w : World) (H : Hp) (s : Shared) (Q : VK) (E : XK) (r : Result) (s' : Shared) : Prop :=
 match r with
 | .ok (.ret u)=>CE outer P w H s Q u s'
 | .ok _=>False
 | .error e=>CX outer H s E e s'
structure zbd (P : Program) (w : World) (K : PySem.W.Frag) (mg : Str -> Option Value) (base : Heap) (CX : CXT) (k : Nat) (f : Addr) (fd : FuncData) (ps : List Str) (sp : Sp) : Prop where
 len : ∀ vs H Q E,sp vs H Q E -> vs.length = ps.length
 run : ∀ (A : Around) (outer : List Env) (s : Shared) (H : Hp) (args : Args) (us : List Value) (vs : List V) (Q : VK) (E : XK),zdZ k A -> zo4 P w K mg base A outer s H -> BindsTo s fd args (ps.zip us) -> zaZ vs us -> sp vs H Q E ->
   codeAny (model P w) A (.call (.ref f) args) (CR CX outer P w H s Q E) s
section
variable {X : Cx} {pins : List (Addr × Obj)} {σ : St} {H : Hp} {s s' : Shared}
theorem Inv.env0 (I : Inv X pins σ H s) : zo4 X.prog X.w X.K X.mg X.base X.A X.stack s H :=
 ⟨I.ok.frames,I.ok.mod,I.bs,Nat.le_trans I.ok.bsz I.sz,I.stack,I.stkFree,I.hok,I.bare⟩
theorem Inv.after {Q : VK} {u : Value} (I : Inv X pins σ H s) (h : CE X.stack X.prog X.w H s Q u s') : EP X pins σ Q u s':=by
 obtain ⟨v,H',os,bare,un,hok,r,q⟩:=h
 obtain ⟨hh,g,d,t,os'⟩:=s'
 obtain rfl : os' = s.os:=os
 exact ⟨v,H',I.call (h':=hh) (g':=g) (d':=d) (t':=t) (ch:=[]) un hok bare (fun b z=>absurd z (by simp)),r,q⟩
end
def zkW (sp : Sp) (dvs : List V) (E : XK) (t : TA) : TE:=fun σ H Q=>t σ H fun vs H1=>sp (vs ++ dvs) H1 Q E
def zaN (K : PySem.W.Frag) (fd : FuncData) (ps : List Str) (ds : List Value) : Prop :=
 ∀ (s : Shared) (us : List Value),K.In s.heap -> (us ++ ds).length = ps.length -> BindsTo s fd ⟨us,[]⟩ (ps.zip (us ++ ds))
theorem zaN.all {K : PySem.W.Frag} {fd : FuncData} {ps : List Str} (h : ∀ us : List Value,us.length = ps.length -> bindArgs fd ⟨us,[]⟩ = pure (ps.zip us)) : zaN K fd ps []:=fun s us _ hl=>by
 rw [List.append_nil] at hl ⊢
 exact .of_eq (h us hl)
def zlr (CX : CXT) (X : Cx) (E : XK) : Prop:=∀ (pins : List (Addr × Obj)) (σ : St) (H : Hp) (s : Shared) (e : Value) (s' : Shared),Inv X pins σ H s -> CX X.stack H s E e s' -> X.xe e s'
section
variable {X : Cx} {CX : CXT} {k : Nat} {f C : Addr} {fd : FuncData} {ps : List Str} {sp : Sp} {dvs : List V} {ds : List Value} {E : XK} {x m : Str} {p pos apos : Pos} {e o : Expr} {es : List Expr} {ta : TE} {t : TA}
theorem zq8 {pins : List (Addr × Obj)} {σ : St} {H : Hp} {s : Shared} {Q : VK} {us : List Value} {vs : List V} (F : zbd X.prog X.w X.K X.mg X.base CX k f fd ps sp) (hr : zdZ k X.A) (hb : zaN X.K fd ps ds) (hd : zaZ dvs ds) (hx : zlr CX X E)
   (I : Inv X pins σ H s) (r : zaZ vs us) (h : sp (vs ++ dvs) H Q E) : wpAny (model X.prog X.w) X.A (call (.ref f) us) (EP X pins σ Q) X.xe s:=by
 have r2 : zaZ (vs ++ dvs) (us ++ ds):=r.append hd
 have hl : (us ++ ds).length = ps.length:=by rw [<- r2.length]; exact F.len _ _ _ _ h
 refine wpAny_call (codeAny_mono (F.run X.A X.stack s H ⟨us,[]⟩ (us ++ ds) (vs ++ dvs) Q E hr I.env0 (hb s us I.kIn hl) r2 h) fun r s' hq=>?_)
 cases r with
 | error e=>exact hx pins σ H s e s' I hq
 | ok fl =>
   cases fl with
   | ret u=>exact I.after hq
   | next=>exact False.elim hq
   | brk=>exact False.elim hq
   | cont=>exact False.elim hq
theorem zaf (F : zbd X.prog X.w X.K X.mg X.base CX k f fd ps sp) (hr : zdZ k X.A) (hg : Gl X x) (hm : X.mg x = some (.ref f)) (hk : PySem.W.keepIn X.K (.ref f) = true) (hb : zaN X.K fd ps ds) (hd : zaZ dvs ds) (hx : zlr CX X E)
   (ha : PA X (e :: es) t) (hdb : (x == ("__debug__" : Str)) = false:=by decide) (he : starEach (e :: es) X.env = (false,eval e X.env) :: starEach es X.env:=by rfl) (hpl : (backTo pos (starEach es X.env)).any (·.1) = false:=by rfl) :
   PE X (.Call (.Name x p) (e :: es) [] pos) (zkW sp dvs E t):=by
 intro pins s σ H Q I h
 refine wpAny_Call_Name_kw (ze1 I hg hm ?_ hdb)
 refine PySem.W.callWith_K (h₀:=X.base) I.ok.mod.kin hk (thn (ha pos pins s σ H _ I h) fun us s1 ⟨vs,H1,I1,r,q⟩=>⟨I1.kIn,?_⟩) he hpl
 exact zq8 F hr hb hd hx I1 r q
structure Mk (K : PySem.W.Frag) (C f : Addr) : Prop where
 makes : PySem.W.makesIn K C = true
 init : PySem.W.findIn K (.ref C) "__init__" = some (some (.ref f))
 fn : PySem.W.isFn K (.ref f) = true
 kp : PySem.W.keepIn K (.ref C) = true
end
section
variable {X : Cx} {CX : CXT} {k : Nat} {f C : Addr} {fd : FuncData} {ps ks : List Str} {sp : Sp} {E : XK} {x m : Str} {p pos apos kpos : Pos} {e o : Expr} {es : List Expr} {kws : List Keyword} {te ta : TE} {t tk : TA} {nm : Option Str}
structure zs9 (K : PySem.W.Frag) (fd : FuncData) (ps ks : List Str) (g : List Value -> List Value -> List Value) (gV : List V -> List V -> List V) : Prop where
 to : ∀ (s : Shared) (us ws : List Value),K.In s.heap -> (g us ws).length = ps.length -> BindsTo s fd ⟨us,ks.zip ws⟩ (ps.zip (g us ws))
 rel : ∀ {vs : List V} {us : List Value} {zs : List V} {ws : List Value},zaZ vs us -> zaZ zs ws -> zaZ (gV vs zs) (g us ws)
variable {g : List Value -> List Value -> List Value} {gV : List V -> List V -> List V}
end
structure zaq (N P : List Str) (sc : Scope) : Prop where
 kind : sc.kind = .function
 co : sc.isCoroutine = false
 gen : sc.isGenerator = false
 nd : N.Nodup
 pre : N.take P.length = P
 par : ∀ x ∈ P,sc.names.lookup x = some .local \/ sc.names.lookup x = some .cell
 nofree : ∀ y ∈ sc.names,y.2 ≠ .free
theorem ziW {kindOf : Str -> Option NameKind} {x : Str} : ∀ {binds : List (Str × Value)} {m : Str -> Option Value},(∀ v,(x,v) ∉ binds) -> bindL kindOf binds m x = m x
 | [],_,_=>rfl
 | (n,v) :: r,m,h=>by
   unfold bindL
   rw [ziW fun w hw=>h w (List.mem_cons_of_mem _ hw)]
   split
   . have : x ≠ n:=by rintro rfl; exact h v List.mem_cons_self
     simp [this]
   . rfl
theorem ziQ {kindOf : Str -> Option NameKind} {x : Str} : ∀ {binds : List (Str × Value)} {m : Str -> Option Value},(∀ v,(x,v) ∉ binds) -> bindC kindOf binds m x = m x
 | [],_,_=>rfl
 | (n,v) :: r,m,h=>by
   unfold bindC
   rw [ziQ fun w hw=>h w (List.mem_cons_of_mem _ hw)]
   split
   . rfl
   . have : x ≠ n:=by rintro rfl; exact h v List.mem_cons_self
     simp [this]
theorem ziD {kindOf : Str -> Option NameKind} {x : Str} {v : Value} : ∀ {P : List Str} {vs : List Value} {i : Nat} {m : Str -> Option Value},P.Nodup -> P[i]? = some x -> vs[i]? = some v -> kindOf x = some .local ->
   bindL kindOf (P.zip vs) m x = some v
 | [],_,_,_,_,h,_,_=>by simp at h
 | _ :: _,[],_,_,_,_,h,_=>by simp at h
 | p :: P,w :: vs,0,m,nd,h1,h2,hk=>by
   simp at h1 h2; subst h1; subst h2
   show bindL kindOf ((p,w) :: P.zip vs) m p = _
   unfold bindL
   rw [ziW fun v hv=>(List.nodup_cons.mp nd).1 (List.of_mem_zip hv).1,if_pos hk]
   simp
 | p :: P,w :: vs,i + 1,m,nd,h1,h2,hk=>by
   show bindL kindOf ((p,w) :: P.zip vs) m x = _
   unfold bindL
   exact ziD (i:=i) (List.nodup_cons.mp nd).2 (by simpa using h1) (by simpa using h2) hk
theorem ziF {kindOf : Str -> Option NameKind} {x : Str} {v : Value} : ∀ {P : List Str} {vs : List Value} {i : Nat} {m : Str -> Option Value},P.Nodup -> P[i]? = some x -> vs[i]? = some v -> kindOf x ≠ some .local ->
   bindC kindOf (P.zip vs) m x = some v
 | [],_,_,_,_,h,_,_=>by simp at h
 | _ :: _,[],_,_,_,_,h,_=>by simp at h
 | p :: P,w :: vs,0,m,nd,h1,h2,hk=>by
   simp at h1 h2; subst h1; subst h2
   show bindC kindOf ((p,w) :: P.zip vs) m p = _
   unfold bindC
   rw [ziQ fun v hv=>(List.nodup_cons.mp nd).1 (List.of_mem_zip hv).1,if_neg hk]
   simp
 | p :: P,w :: vs,i + 1,m,nd,h1,h2,hk=>by
   show bindC kindOf ((p,w) :: P.zip vs) m x = _
   unfold bindC
   exact ziF (i:=i) (List.nodup_cons.mp nd).2 (by simpa using h1) (by simpa using h2) hk
def start (N : List Str) (vs : List V) : St:=vs.map some ++ List.replicate (N.length - vs.length) none
def za8 (CX : CXT) (P : Program) (w : World) (K : PySem.W.Frag) (mg : Str -> Option Value) (base : Heap) (N : List Str) (qual : Str) (scope : Scope) (f : Addr) (cd : Value) (A : Around) (outer : List Env) (s : Shared) (H : Hp) (E : XK) : Cx where
 prog:=P
 w:=w
 K:=K
 mg:=mg
 base:=base
 A:=A.deeper (envOfC qual scope s.heap.objs.size f cd)
 N:=N
 s₀:=s
 H₀:=H
 env:=envOfC qual scope s.heap.objs.size f cd
 outer:=outer
 stack:=envOfC qual scope s.heap.objs.size f cd :: outer
 ex:=[]
 calm:=true
 fn:=fun _=>true
 pn:=[]
 xe:=fun e s'=>wpAny (model P w) (A.deeper (envOfC qual scope s.heap.objs.size f cd)) (leaving (envOfC qual scope s.heap.objs.size f cd) e) (fun _ s''=>CX outer H s E e s'') (fun e' s''=>CX outer H s E e' s'') s'
theorem zhS {sc : Scope} {n : Nat} {x : Str} (h : sc.names.lookup x = some .cell) : ∃ c,(cellsFrom n sc.names []).lookup x = some c:=by
 have q:=PySem.W.cellsFrom_some sc.names n [] (.inl h)
 exact Option.isSome_iff_exists.mp q
theorem zi0 {CX : CXT} {P : Program} {w : World} {K : PySem.W.Frag} {mg : Str -> Option Value} {base : Heap} {N ps : List Str} {qual : Str} {scope : Scope} {f : Addr} {cd : Value} {A : Around} {outer : List Env} {s s1 : Shared} {H : Hp} {E : XK} {us : List Value} {vs : List V}
   (S : zaq N ps scope) (hd : A.handled = none) (e0 : zo4 P w K mg base A outer s H) (hl : vs.length = ps.length) (r : zaZ vs us)
   (x : InCallC s s.heap.objs.size (bindL (envOfC qual scope s.heap.objs.size f cd).kindOf (ps.zip us) fun _=>none) (cellsFrom (s.heap.objs.size + 1) scope.names []) (bindC (envOfC qual scope s.heap.objs.size f cd).kindOf (ps.zip us) fun _=>none) s1) :
   Inv (za8 CX P w K mg base N qual scope f cd A outer s H E) [] (start N vs) H s1:=by
 have hpl : ps.length <= N.length:=by have:=congrArg List.length S.pre; rw [List.length_take] at this; omega
 obtain ⟨h1,tk,rfl,hk⟩:=x.done
 have noA : ∀ b : Addr,b ∉ (za8 CX P w K mg base N qual scope f cd A outer s H E).ex:=fun b z=>absurd (show b ∈ ([] : List Addr) from z) (by simp)
 refine ⟨⟨e0.mod,S.kind,rfl,rfl,Nat.le_refl _,fun y z c h1 h2=>?_,fun y hy=>?_,fun y c _ h=>?_,fun _=>hd,Around.frames_deeper e0.frames,.inr ⟨rfl,rfl⟩,fun b z=>absurd z (noA b),e0.bs,e0.bsz,fun b _ _=>noA b,fun b z=>absurd z (noA b),e0.funs,e0.frf⟩,
   rfl,e0.bare,Un.kept hk,⟨_,x.toInCall.ns,fun i y v h1 h2 h3=>?_⟩,fun y c h=>⟨_,x.cell y c h⟩,e0.hok.fresh (Nat.le_refl _),fun y c h=>?_,fun p hp=>absurd (show p ∈ ([] : List (Addr × Obj)) from hp) (by simp),e0.hok.kept hk,?_⟩
 . exact name_of_addr x.apart (PySem.mem_of_lookup h1) (PySem.mem_of_lookup h2)
 . have hy : scope.names.lookup y = some .cell \/ scope.names.lookup y = some .free:=hy
   rcases hy with hy | hy
   . exact zhS hy
   . exact absurd rfl (S.nofree _ (PySem.mem_of_lookup hy))
 . exact Nat.le_of_lt (x.above y c (PySem.mem_of_lookup h))
 . have hi : i < vs.length:=by
     unfold start at h2
     by_cases hi : i < vs.length
     . exact hi
     . rw [List.getElem?_append_right (by simpa using hi)] at h2
       rw [List.getElem?_replicate] at h2
       split at h2 <;> cases h2
   have ha : vs[i]? = some v:=by
     unfold start at h2
     rw [List.getElem?_append_left (by simpa using hi),List.getElem?_map] at h2
     cases e : vs[i]? with
     | none=>rw [e] at h2; cases h2
     | some a=>rw [e] at h2; cases h2; rfl
   obtain ⟨u,hu,rv⟩:=r.get ha
   have hp : ps[i]? = some y:=by
     rw [<- S.pre,List.getElem?_take_of_lt (by omega)]; exact h1
   have ndP : ps.Nodup:=by rw [<- S.pre]; exact S.nd.sublist (List.take_sublist _ _)
   refine ⟨u,rv,?_⟩
   rcases S.par y (List.mem_of_getElem? hp) with k | k
   . exact .inl ⟨k,ziD ndP hp hu k⟩
   . obtain ⟨c,e⟩:=zhS (n:=s.heap.objs.size + 1) k
     refine .inr ⟨.inl k,c,e,?_⟩
     have q:=x.cell y c e
     rw [ziF ndP hp hu (by show scope.names.lookup y ≠ _; rw [k]; decide)] at q
     exact q
 . exact e0.hok.fresh (Nat.le_of_lt (x.above y c (PySem.mem_of_lookup h)))
 . unfold start
   show _ = N.length
   rw [List.length_append,List.length_map,List.length_replicate]
   omega
theorem zqM {CX : CXT} {P : Program} {w : World} {K : PySem.W.Frag} {mg : Str -> Option Value} {base : Heap} {k : Nat} {f : Addr} {name qual : Str} {params : Arguments} {body : List Stmt} {scope : Scope} {dV kV doc pm cdv ct oc : Value} {an od : Option Addr}
   {osl : Array (Option Value)} {N ps : List Str} {sp : Sp} (lk : K.lookup f = some ⟨oc,od,.func (PySem.W.fnOf name qual params body scope dV kV doc pm an cdv ct),osl⟩) (hcd : PySem.W.codeIn K cdv qual = true) (S : zaq N ps scope)
   (len : ∀ vs H Q E,sp vs H Q E -> vs.length = ps.length)
   (hbody : ∀ (A : Around) (outer : List Env) (s : Shared) (H : Hp) (vs : List V) (Q : VK) (E : XK),zdZ k (A.deeper (envOfC qual scope s.heap.objs.size f cdv)) -> sp vs H Q E ->
     ∃ t,PSs (za8 CX P w K mg base N qual scope f cdv A outer s H E) body t /\ t { nx:=fun _ H'=>Q .non H',rt:=Q } (start N vs) H) :
   zbd P w K mg base CX (k + 1) f (PySem.W.fnOf name qual params body scope dV kV doc pm an cdv ct) ps sp:=by
 refine ⟨len,fun A outer s H args us vs Q E hr e0 hb r hsp=>?_⟩
 have hl:=len _ _ _ _ hsp
 have KX : K.In s.heap:=e0.mod.kin.keeps fun b o e=>(e0.bs b o e).1
 have lim : s.heap.NoLimit:=e0.mod.nolimit.keeps fun b o e=>(e0.bs b o e).1
 have hkind : ∀ y ∈ ps.zip us,scope.names.lookup y.1 = some .local \/ (scope.names.lookup y.1 = some .cell /\ ((cellsFrom (s.heap.objs.size + 1) scope.names []).lookup y.1).isSome = true):=fun ⟨n,v⟩ hy=>by
   rcases S.par n (List.of_mem_zip hy).1 with q | q
   . exact .inl q
   . exact .inr ⟨q,PySem.W.cellsFrom_some _ _ _ (.inl q)⟩
 refine codeAny_call_function hr.depth (KX _ _ lk) rfl S.co S.gen rfl (PySem.W.codeRec_of KX hcd) (hb _ _ _ _ ?_)
 refine wpAny_newFunctionEnv_cells S.kind hkind fun env he s1 x=>?_
 subst he
 refine ⟨lim.keeps x.toInCall.keep,codeAny_func ?_⟩
 obtain ⟨t,ht,hq⟩:=hbody A outer s H vs Q E (hr.deeper _) hsp
 have I : Inv (za8 CX P w K mg base N qual scope f cdv A outer s H E) [] (start N vs) H s1:=zi0 S hr.hd e0 hl r x
 refine wpAny_mono (ht [] s1 (start N vs) H _ I hq) (fun fl s' hs=>?_) fun e s' hs=>hs
 have fin : ∀ {σ' : St} {H' : Hp} {v : V} {u : Value},Inv (za8 CX P w K mg base N qual scope f cdv A outer s H E) [] σ' H' s' -> zbf v u -> Q v H' -> CE outer P w H s Q u s' :=
   fun {σ' H' v u} J rv q=>⟨v,H',J.os,J.bare,J.base,J.hok,rv,q⟩
 cases fl with
 | ret u =>
   obtain ⟨v,σ',H',J,rv,q⟩:=hs
   exact fin J rv q
 | next =>
   obtain ⟨σ',H',J,q⟩:=hs
   exact fin (v:=V.non) (u:=Value.none) J rfl q
 | brk =>
   obtain ⟨_,_,_,q⟩:=hs
   exact False.elim q
 | cont =>
   obtain ⟨_,_,_,q⟩:=hs
   exact False.elim q
end L2
namespace L2
open PySem PySem.Spec PyProof.Rows
section
variable {X : Cx} {x : Str} {p pos : Pos} {e : Expr} {es : List Expr} {t : TA} {id T : String} {r : List V -> Hp -> VK -> Prop}
def tCB (r : List V -> Hp -> VK -> Prop) (t : TA) : TE:=fun σ H Q=>t σ H fun vs H1=>r vs H1 Q
theorem zaE (hc : zaP X (.builtin id) r) (hg : Gl X x) (hm : X.mg x = none) (hv : bootBuiltins x = some (.builtin id)) (ha : PA X (e :: es) t) (hn : x ≠ "__name__":=by decide) (hdb : (x == ("__debug__" : Str)) = false:=by decide)
   (he : starEach (e :: es) X.env = (false,eval e X.env) :: starEach es X.env:=by rfl) (hpl : (backTo pos (starEach es X.env)).any (·.1) = false:=by rfl) : PE X (.Call (.Name x p) (e :: es) [] pos) (tCB r t):=by
 intro pins s σ H Q I h
 refine wpAny_Call_Name_kw (zex I hg hm hv ?_ hn hdb)
 exact PyProof.Rows.callWith_builtin1 (thn (ha pos pins s σ H _ I h) fun us s1 ⟨vs,H1,I1,r1,q1⟩=>hc pins s1 σ H1 vs us Q I1 r1 q1) he hpl
theorem za0 (hc : zaP X (.type T) r) (hg : Gl X x) (hm : X.mg x = none) (hv : bootBuiltins x = some (.type T)) (ha : PA X (e :: es) t) (hn : x ≠ "__name__":=by decide) (hdb : (x == ("__debug__" : Str)) = false:=by decide)
   (he : starEach (e :: es) X.env = (false,eval e X.env) :: starEach es X.env:=by rfl) (hpl : (backTo pos (starEach es X.env)).any (·.1) = false:=by rfl) : PE X (.Call (.Name x p) (e :: es) [] pos) (tCB r t):=by
 intro pins s σ H Q I h
 refine wpAny_Call_Name_kw (zex I hg hm hv ?_ hn hdb)
 exact PyProof.Rows.callWith_type1 (thn (ha pos pins s σ H _ I h) fun us s1 ⟨vs,H1,I1,r1,q1⟩=>hc pins s1 σ H1 vs us Q I1 r1 q1) he hpl
end
end L2
namespace L2
open PySem PySem.Spec PyProof.Rows
section
variable {κ : Type} [DecidableEq κ]
end
abbrev KT (H : Hp) : List (List Key × V) -> List (List Key × Addr × Value) -> Prop:=Paired fun p q=>p.1 = q.1 /\ H q.2.1 = some (.tup (p.1.map kV)) /\ zbf p.2 q.2.2
section
variable {P : Program} {w : World} {H : Hp} {h : Heap} {a : Addr}
end
section
variable {X : Cx} {pins : List (Addr × Obj)} {σ : St} {H : Hp} {s : Shared} {a : Addr} {y v : V} {u r : Value} {o : Option V} {A : Around} {E : Value -> Shared -> Prop}
end
section
variable {X : Cx} {pins : List (Addr × Obj)} {σ : St} {H : Hp} {s : Shared} {a : Addr} {kvs : List (Key × V)} {k : Key} {u : Value} {A : Around} {E : Value -> Shared -> Prop}
end
section
variable {X : Cx} {o i e value : Expr} {pos pos' tpos : Pos} {td ty tv : TE}
end
section
variable {X : Cx} {pos : Pos}
end
abbrev VV : List (V × V) -> List (Value × Value) -> Prop:=Paired fun p q=>zbf p.1 q.1 /\ zbf p.2 q.2
structure M1 (X : Cx) (o : Expr) (m : Str) (apos : Pos) (e : Expr) (cpos : Pos) : Prop where
 base : attributeBase o m X.env (eval o X.env) = eval o X.env
 few : ((backTo cpos (starEach [e] X.env)).all (fun x=>!x.1) && (backToKw cpos (keywordEach [] X.env)).all (fun x=>x.1.isSome)
   && decide (([e] : List Expr).length + ([] : List Keyword).length + (if ([] : List Keyword).isEmpty then 0 else 1) < 30)) = true
 line : (apos.endLine == cpos.line) = true
 trees : backTo cpos (starEach [e] X.env) = [(false,eval e X.env)]
structure M2 (X : Cx) (o : Expr) (m : Str) (apos : Pos) (e f : Expr) (cpos : Pos) : Prop where
 base : attributeBase o m X.env (eval o X.env) = eval o X.env
 few : ((backTo cpos (starEach [e,f] X.env)).all (fun x=>!x.1) && (backToKw cpos (keywordEach [] X.env)).all (fun x=>x.1.isSome)
   && decide (([e,f] : List Expr).length + ([] : List Keyword).length + (if ([] : List Keyword).isEmpty then 0 else 1) < 30)) = true
 line : (apos.endLine == cpos.line) = true
 trees : backTo cpos (starEach [e,f] X.env) = [(false,eval e X.env),(false,eval f X.env)]
section
variable {X : Cx} {pins : List (Addr × Obj)} {σ : St} {H : Hp} {s : Shared} {a : Addr} {y d : V} {u r : Value} {o : Option V} {A : Around} {E : Value -> Shared -> Prop}
end
section
variable {X : Cx} {o e f : Expr} {apos cpos : Pos} {td ty tx : TE}
end
section
variable {X : Cx} {pins : List (Addr × Obj)} {σ : St} {H : Hp} {s : Shared} {a : Addr} {kvs : List (Key × V)} {A : Around} {E : Value -> Shared -> Prop}
end
section
variable {X : Cx} {pins : List (Addr × Obj)} {σ : St} {H : Hp} {s : Shared} {a : Addr} {y : V} {u : Value} {A : Around} {E : Value -> Shared -> Prop}
end
end L2
namespace HT
open PySem PyProof.Rows
section
open PySem.SeqAt
open PySem.AutoSeq1 (wpAny_loadPart')
open PySem.MeetsSeq PySem.MeetsSeq2 PySem.MeetsSeq3
end
section
variable {prog : Program} {w : World} {A : Around} {E : Value -> Shared -> Prop} {s : Shared}
theorem cat_tup {t b : Addr} {vs ws : List Value} {Q : Value -> Shared -> Prop} (ht : IsTup s.heap t vs.toArray) (hb : IsTup s.heap b ws.toArray) (hv : vs ≠ [])
   (h1 : ws = [] -> Q (.ref t) s) (h2 : ws ≠ [] -> Q (.ref s.heap.objs.size) { s with heap:=s.heap.push { cls:=.type "tuple",data:=.seq (vs ++ ws).toArray } })
   (hsz : vs.length + ws.length <= sizeLine) : wpAny (model prog w) A (binaryOp .Add (.ref t) (.ref b)) Q E s:=by
 obtain ⟨⟨cls,dd,data,sl⟩,ho,hc,n,hd⟩:=id ht
 obtain ⟨⟨cls2,dd2,data2,sl2⟩,ho2,hc2,n2,hd2⟩:=id hb
 simp only at hc hd hc2 hd2
 subst hc hd hc2 hd2
 have e : vs.toArray ++ ws.toArray = (vs ++ ws).toArray:=by simp
 by_cases hw : ws = []
 . exact concat_meets ⟨_,ho,rfl⟩ ⟨_,ho2,rfl⟩ noFill_tuple_add seq_tuple_add PySem.F.slot_tuple_add PySem.F.entry_tuple_add (PySem.F.args_tuple_add_2 _ _)
     (tuple_addW1 t b vs.toArray ws.toArray n n2 dd dd2 sl sl2 (by simpa using hv) (by simp [hw])) ⟨ho,ho2,h1 hw⟩
 . refine concat_meets ⟨_,ho,rfl⟩ ⟨_,ho2,rfl⟩ noFill_tuple_add seq_tuple_add PySem.F.slot_tuple_add PySem.F.entry_tuple_add (PySem.F.args_tuple_add_2 _ _)
     (tuple_addW2 t b vs.toArray ws.toArray n n2 dd dd2 sl sl2 (by simpa using hv) (by simpa using hw) (by rw [List.size_toArray,List.size_toArray]; exact hsz)) ⟨ho,ho2,?_⟩
   rw [e]
   exact h2 hw
def sIx (n d : Nat) : Option Int -> Nat
 | none=>d
 | some v=>if v < 0 then (v + (n : Int)).toNat else min v.toNat n
theorem sIx_none (n d : Nat) : sIx n d none = d:=rfl
theorem sIx_nat (n d k : Nat) : sIx n d (some (k : Int)) = min k n:=by
 show (if (k : Int) < 0 then ((k : Int) + (n : Int)).toNat else min (k : Int).toNat n) = min k n
 rw [if_neg (by omega),Int.toNat_natCast]
theorem zsa (n d : Nat) (hd : d <= n) (o : Option Int) : sIx n d o <= n:=by
 cases o with
 | none=>exact hd
 | some v =>
   show (if v < 0 then (v + (n : Int)).toNat else min v.toNat n) <= n
   by_cases hv : v < 0
   . rw [if_pos hv]; omega
   . rw [if_neg hv]; exact Nat.min_le_right _ _
theorem zma (v : Int) (n d : Nat) : (if v < 0 then max (v + (n : Int)) 0 else min v (n : Int)) = ((sIx n d (some v) : Nat) : Int):=by
 show (if v < 0 then max (v + (n : Int)) 0 else min v (n : Int)) = (((if v < 0 then (v + (n : Int)).toNat else min v.toNat n) : Nat) : Int)
 by_cases hv : v < 0
 . simp only [if_pos hv]; omega
 . simp only [if_neg hv]; omega
theorem zlJ (lo hi : Option Int) (n : Nat) : Builtin.Slice.sliceAdjust lo hi 1 (n : Int) = (((sIx n 0 lo : Nat) : Int),((sIx n n hi : Nat) : Int)):=by
 have h1 : ¬ ((1 : Int) < 0):=by omega
 unfold Builtin.Slice.sliceAdjust
 simp only [h1,if_false]
 refine Prod.ext ?_ ?_
 . cases lo with
   | none=>rfl
   | some v=>exact zma v n 0
 . cases hi with
   | none=>rfl
   | some v=>exact zma v n n
theorem zlk (i j : Nat) : Builtin.Slice.slicePlaces (i : Int) (j : Int) 1 = j - i:=by
 unfold Builtin.Slice.slicePlaces
 have h1 : (1 : Int) > 0:=by omega
 simp only [h1,if_true,Int.ediv_one]
 split <;> omega
theorem zhG {v : Value} {o : Option Int} {Q : Option Int -> Shared -> Prop} (p : IsPart v o) (h : Q o s) : wpAny (model prog w) A (Builtin.Slice.slicePartIndex v) Q E s:=by
 cases p with
 | none=>exact slicePart_none h
 | int i t=>exact slicePart_int h
theorem zd0 {sl : Addr} {vl vu : Value} {lo hi : Option Int} {n : Nat} {Q : Int × Int × Nat -> Shared -> Prop} (hs : s.heap.IsSliceOf sl vl vu .none) (pl : IsPart vl lo) (pu : IsPart vu hi)
   (h : Q (((sIx n 0 lo : Nat) : Int),1,sIx n n hi - sIx n 0 lo) s) : wpAny (model prog w) A (Builtin.Slice.sliceApplied (.ref sl) (pure (n : Int))) Q E s:=by
 obtain ⟨os,hos,hcs,hds⟩:=id hs
 unfold Builtin.Slice.sliceApplied Builtin.Slice.sliceFields
 refine wpAny_bind (wpAny_bind (wpAny_field hos hds (x:=vl) rfl (wpAny_bind (wpAny_field hos hds (x:=vu) rfl (wpAny_bind (wpAny_field hos hds (x:=.none) rfl (wpAny_pure ?_)))))))
 refine wpAny_bind (slicePart_none ?_)
 show wpAny _ _ (if ((1 : Int) == 0) = true then _ else _) _ _ s
 rw [if_neg (by decide)]
 refine wpAny_bind (zhG pl (wpAny_bind (zhG pu (wpAny_bind (wpAny_pure ?_)))))
 show wpAny _ _ (match Builtin.Slice.sliceAdjust lo hi 1 (n : Int) with | (lo,hi)=>pure (lo,(1 : Int),Builtin.Slice.slicePlaces lo hi 1)) _ _ s
 rw [zlJ lo hi n]
 show wpAny _ _ (pure (((sIx n 0 lo : Nat) : Int),(1 : Int),Builtin.Slice.slicePlaces ((sIx n 0 lo : Nat) : Int) ((sIx n n hi : Nat) : Int) 1)) _ _ s
 rw [zlk]
 exact wpAny_pure h
theorem zpb (xs : Array Value) (i k : Nat) : ((List.range k).filterMap fun (m : Nat)=>xs[((i : Int) + (m : Int) * 1).toNat]?).toArray = ((xs.toList.drop i).take k).toArray:=by
 have e : (fun (m : Nat)=>xs[((i : Int) + (m : Int) * 1).toNat]?) = fun m=>xs[i + m]?:=by
   funext m
   have : ((i : Int) + (m : Int) * 1).toNat = i + m:=by omega
   rw [this]
 rw [e]
 have:=pick_run xs i k
 rw [List.filterMap_map] at this
 have e2 : ((fun x=>xs[x]?) ∘ fun x=>i + x) = fun m=>xs[i + m]?:=rfl
 rw [e2] at this
 rw [this]
theorem getItem_tuple_cut {t sl : Addr} {items : Array Value} {vl vu : Value} {lo hi : Option Int} {Q : Value -> Shared -> Prop} (ht : IsTup s.heap t items) (hs : s.heap.IsSliceOf sl vl vu .none) (pl : IsPart vl lo) (pu : IsPart vu hi)
   (hw : ¬ (sIx items.size 0 lo = 0 /\ sIx items.size items.size hi = items.size))
   (h : Q (.ref s.heap.objs.size) { s with heap:=s.heap.push { cls:=.type "tuple",data:=.seq ((items.toList.drop (sIx items.size 0 lo)).take (sIx items.size items.size hi - sIx items.size 0 lo)).toArray } })
   (hsz : items.size <= sizeLine) : wpAny (model prog w) A (getItem (.ref t) (.ref sl)) Q E s:=by
 have htake : sizeOk (.seq ((items.toList.drop (sIx items.size 0 lo)).take (sIx items.size items.size hi - sIx items.size 0 lo)).toArray):=by
   show ((items.toList.drop (sIx items.size 0 lo)).take (sIx items.size items.size hi - sIx items.size 0 lo)).toArray.size <= sizeLine
   rw [List.size_toArray,List.length_take,List.length_drop,Array.length_toList]
   omega
 have hj : sIx items.size items.size hi <= items.size:=zsa _ _ (Nat.le_refl _) hi
 obtain ⟨os,hos,hcs,hds⟩:=id hs
 have hTs : s.TypeIs (.ref sl) "slice":=⟨os,hos,hcs⟩
 unfold getItem
 try with_reducible refine wpAny_holding ?_
 first | refine wpAny_bind (wpAny_pure ?_) | skip
 refine wpAny_bind (wpAny_sequenceKey ht.typeIs (by decide) ?_)
 refine wpAny_bind (wpAny_callSpecial?_slot (name:=Str.ofString "__getitem__") ht.typeIs PyProof.Rows.slot_tuple_getitem
   (wpAny_call_entry PyProof.Rows.slot_tuple_getitem ht.typeIs entry_tuple_getitem ?_ (args_tuple_getitem _ _)))
 show wpAny _ _ (Builtin.Tuple.tupleItemsOf (.ref t) >>= _) _ _ s
 refine wpAny_bind (tupleItemsOf_ ht ?_)
 refine wpAny_bind (wpAny_typeOf hTs ?_)
 rw [if_pos (by decide)]
 refine wpAny_bind (zd0 hs pl pu ?_)
 have hno : ¬ ((((sIx items.size 0 lo : Nat) : Int) == 0 && (1 : Int) == 1 && (sIx items.size items.size hi - sIx items.size 0 lo) == items.size) = true):=by
   intro q
   rw [Bool.and_eq_true,Bool.and_eq_true] at q
   have q1 : ((sIx items.size 0 lo : Nat) : Int) = 0:=eq_of_beq q.1.1
   have q2 : sIx items.size items.size hi - sIx items.size 0 lo = items.size:=eq_of_beq q.2
   exact hw ⟨by omega,by omega⟩
 show wpAny _ _ (if (((sIx items.size 0 lo : Nat) : Int) == 0 && (1 : Int) == 1 && (sIx items.size items.size hi - sIx items.size 0 lo) == items.size) = true then _ else _) _ _ s
 rw [if_neg hno,zpb]
 first
   | exact wpAny_bind (m:=Builtin.Tuple.tupleExact _) (wpAny_newObj_type (wpAny_pure ⟨_,rfl,wpAny_pure h⟩) htake)
   | exact wpAny_bind (m:=Builtin.Tuple.tupleExact _) (wpAny_newObj_type (wpAny_bind (wpAny_pure (wpAny_pure ⟨_,rfl,wpAny_pure h⟩))) htake)
   | exact wpAny_bind (wpAny_bind (m:=Builtin.Tuple.tupleExact _) (wpAny_newObj_type (wpAny_pure (wpAny_pure ⟨_,rfl,wpAny_pure h⟩)) htake))
   | exact wpAny_bind (wpAny_bind (m:=Builtin.Tuple.tupleExact _) (wpAny_newObj_type (wpAny_pure ⟨_,rfl,wpAny_pure h⟩) htake))
end
end HT
namespace L2
open PySem PySem.Spec PyProof.Rows
abbrev TO:=St -> Hp -> (Option Int -> Hp -> Prop) -> Prop
def PO (X : Cx) (e : Option Expr) (t : TO) : Prop :=
 ∀ (pins : List (Addr × Obj)) (s : Shared) (σ : St) (H : Hp) (Q : Option Int -> Hp -> Prop),Inv X pins σ H s -> t σ H Q ->
   wpAny (model X.prog X.w) X.A (evalPart e X.env) (fun u s'=>∃ o H',Inv X pins σ H' s' /\ IsPart u o /\ Q o H') X.xe s
def zmz : TO:=fun _ H Q=>Q none H
def zqW (t : TE) : TO:=fun σ H Q=>t σ H fun x H1=>∃ i,x = .int i /\ Q (some i) H1
theorem zla {ns : List Int} : ∀ {us : List Value},zaZ (ns.map V.int) us -> IntsAre us ns:=by
 induction ns with
 | nil=>intro us r; rw [List.map_nil] at r; cases r; exact .nil
 | cons n ns ih =>
   intro us r
   rw [List.map_cons] at r
   cases r with
   | cons r1 r2 =>
     obtain ⟨t,e⟩:=r1
     subst e
     exact .cons n t (ih r2)
section
variable {X : Cx} {e : Expr} {te : TE} {lo hi : Option Expr} {tl th : TO} {pos p2 : Pos}
theorem zdL : PO X none zmz:=by
 intro pins s σ H Q I h
 rw [evalPart_none]
 exact wpAny_pure ⟨none,H,I,.none,h⟩
theorem zdS (h : PE X e te) : PO X (some e) (zqW te):=by
 intro pins s σ H Q I hw
 rw [evalPart_some]
 refine thn (h pins s σ H _ I hw) fun u s1 ⟨x,H1,I1,r1,q1⟩=>?_
 obtain ⟨i,rfl,q⟩:=q1
 obtain ⟨t,rfl⟩:=r1
 exact ⟨some i,H1,I1,.int i t,q⟩
def SlR (X : Cx) (r : V -> Option Int -> Option Int -> Hp -> VK -> Prop) : Prop :=
 ∀ (pins : List (Addr × Obj)) (s : Shared) (σ : St) (H : Hp) (x : V) (v vl vu : Value) (lo hi : Option Int) (sl : Addr) (Q : VK),Inv X pins σ H s -> zbf x v -> s.heap.IsSliceOf sl vl vu .none -> IsPart vl lo -> IsPart vu hi -> r x lo hi H Q ->
   ∃ T id,typeLookup (.type T) "__getitem__" = pure (some (.builtin id)) /\ s.TypeIs v T /\ wpAny (model X.prog X.w) X.A (getItem v (.ref sl)) (EP X pins σ Q) X.xe s
theorem SlR.or {r r' : V -> Option Int -> Option Int -> Hp -> VK -> Prop} (h : SlR X r) (h' : SlR X r') : SlR X (fun x lo hi H Q=>r x lo hi H Q \/ r' x lo hi H Q):=by
 intro pins s σ H x v vl vu lo hi sl Q I rx hs pl pu q
 rcases q with q | q
 . exact h pins s σ H x v vl vu lo hi sl Q I rx hs pl pu q
 . exact h' pins s σ H x v vl vu lo hi sl Q I rx hs pl pu q
def tSl (r : V -> Option Int -> Option Int -> Hp -> VK -> Prop) (te : TE) (tl th : TO) : TE:=fun σ H Q=>te σ H fun x H1=>tl σ H1 fun l H2=>th σ H2 fun u H3=>r x l u H3 Q
theorem zc5 {r : V -> Option Int -> Option Int -> Hp -> VK -> Prop} (hr : SlR X r) (he : PE X e te) (hl : PO X lo tl) (hu : PO X hi th) : PE X (.Subscript e (.Slice lo hi none p2) pos) (tSl r te tl th):=by
 intro pins s σ H Q I h
 refine Subscript_ (thn (he pins s σ H _ I h) fun v s1 ⟨x,H1,I1,r1,q1⟩=>?_)
 refine wpAny_Slice (thn (hl pins s1 σ H1 _ I1 q1) fun vl s2 ⟨l,H2,I2,pl,q2⟩=>thn (hu pins s2 σ H2 _ I2 q2) fun vu s3 ⟨u,H3,I3,pu,q3⟩=>?_)
 rw [evalPart_none]
 refine wpAny_pure ?_
 have I4 : Inv X pins σ H3 { s3 with heap:=s3.heap.push { cls:=.type "slice",data:=.fields #[vl,vu,.none] } }:=I3.kept (t':=s3.toks) fun b ob q=>Heap.get?_push_of_some _ q
 obtain ⟨T,id,hT,ht,hg⟩:=hr pins { s3 with heap:=s3.heap.push { cls:=.type "slice",data:=.fields #[vl,vu,.none] } } σ H3 x v vl vu l u s3.heap.objs.size Q I4 r1 (Heap.IsSliceOf.new ..) pl pu q3
 show wpAny (model X.prog X.w) X.A (subscriptTail e (.Slice lo hi none p2) v (.ref s3.heap.objs.size)) (EP X pins σ Q) X.xe { s3 with heap:=s3.heap.push { cls:=.type "slice",data:=.fields #[vl,vu,.none] } }
 exact tail_any (ops:=[.ref s3.heap.objs.size,v]) ht hT hg (by with_unfolding_all rfl)
def zit (xs : List V) (lo hi : Option Int) : List V:=(xs.drop (HT.sIx xs.length 0 lo)).take (HT.sIx xs.length xs.length hi - HT.sIx xs.length 0 lo)
theorem zgO (xs : List V) (lo hi : Option Int) : (zit xs lo hi).length <= xs.length:=by
 unfold zit
 rw [List.length_take,List.length_drop]
 omega
def zsQ (K : PySem.W.Frag) : V -> Option Int -> Option Int -> Hp -> VK -> Prop:=fun x lo hi H Q=>∃ a xs,x = .ref a /\ SqT K H a xs /\
 ¬ (HT.sIx xs.length 0 lo = 0 /\ HT.sIx xs.length xs.length hi = xs.length) /\ ∀ p,H p = none -> Q (.ref p) (upd H p (.tup (zit xs lo hi)))
theorem zrq : SlR X (zsQ X.K):=by
 intro pins s σ H x v vl vu lo hi sl Q I rx hs pl pu h
 obtain ⟨a,xs,rfl,hx,hw,q⟩:=h
 cases rx
 obtain ⟨its,r,ht,hz⟩:=I.tuple hx
 have hlen : its.toArray.size = xs.length:=by rw [List.size_toArray]; exact r.length.symm
 refine ⟨"tuple",_,PyProof.Rows.slot_tuple_getitem.lookup,ht.typeIs,?_⟩
 refine HT.getItem_tuple_cut ht hs pl pu (by rw [hlen]; exact hw) ?_ (by rw [hlen]; exact hz)
 rw [hlen]
 refine ⟨.ref s.heap.objs.size,_,I.laid (t':=s.toks) (o:=.tup (zit xs lo hi)) (fun b ob q=>Heap.get?_push_of_some _ q) (Nat.le_refl _) ?_,rfl,q _ (I.hok.fresh (Nat.le_refl _))⟩
 exact ⟨Nat.le_trans (zgO xs lo hi) hz,_,(r.drop (HT.sIx xs.length 0 lo)).take (HT.sIx xs.length xs.length hi - HT.sIx xs.length 0 lo),IsTup.new _ _⟩
def zqY (K : PySem.W.Frag) : R2:=fun x y H Q=>∃ a b xs ys,x = .ref a /\ y = .ref b /\ SqT K H a xs /\ SqT K H b ys /\ xs ≠ [] /\ xs.length + ys.length <= sizeLine /\
 (ys = [] -> Q (.ref a) H) /\ (ys ≠ [] -> ∀ p,H p = none -> Q (.ref p) (upd H p (.tup (xs ++ ys))))
theorem zaZ.nil_iff {xs : List V} {us : List Value} (r : zaZ xs us) : us = [] ↔ xs = []:=by
 cases r with
 | nil=>simp
 | cons _ _=>simp
theorem zqb : OpR X (binaryOp .Add) (zqY X.K):=by
 intro pins s σ H x y v u Q I rx ry h
 obtain ⟨a,b,xs,ys,rfl,rfl,ha,hb,hx,hz,q1,q2⟩:=h
 cases rx
 cases ry
 obtain ⟨its,r1,p1,_⟩:=I.tuple ha
 obtain ⟨its2,r2,p2,_⟩:=I.tuple hb
 refine HT.cat_tup p1 p2 (fun z=>hx (r1.nil_iff.mp z)) (fun z=>⟨.ref a,H,I,rfl,q1 (r2.nil_iff.mp z)⟩) (fun z=>?_) (by rw [<- r1.length,<- r2.length]; exact hz)
 refine ⟨.ref s.heap.objs.size,_,I.laid (t':=s.toks) (o:=.tup (xs ++ ys)) (fun b ob q=>Heap.get?_push_of_some _ q) (Nat.le_refl _) ?_,rfl,q2 (fun w=>z (r2.nil_iff.mpr w)) _ (I.hok.fresh (Nat.le_refl _))⟩
 exact ⟨by rw [List.length_append]; exact hz,_,r1.append r2,IsTup.new _ _⟩
end
end L2
namespace L2
open PySem PySem.Spec PyProof.Rows
def ixN (n : Nat) (i : Int) : Option Nat:=if 0 <= i then (if i < n then some i.toNat else none) else if -(n : Int) <= i then some (i + n).toNat else none
def atI {α : Type} (xs : List α) (i : Int) : Option α:=(ixN xs.length i).bind fun j=>xs[j]?
theorem zlU {n : Nat} {i : Int} {j : Nat} (h : ixN n i = some j) : seqIndex? i n = some j /\ j < n /\ -(n : Int) <= i /\ i < n:=by
 unfold ixN at h
 by_cases h0 : 0 <= i
 . rw [if_pos h0] at h
   by_cases h1 : i < n
   . rw [if_pos h1] at h
     have e : i.toNat = j:=Option.some.inj h
     exact ⟨by rw [seqIndex_of h0 h1,e],by omega,by omega,h1⟩
   . rw [if_neg h1] at h; cases h
 . rw [if_neg h0] at h
   by_cases h1 : -(n : Int) <= i
   . rw [if_pos h1] at h
     have e : (i + n).toNat = j:=Option.some.inj h
     exact ⟨by rw [seqIndex_neg (by omega) h1,e],by omega,h1,by omega⟩
   . rw [if_neg h1] at h; cases h
theorem zjL {α : Type} {xs : List α} {i : Int} {v : α} (h : atI xs i = some v) : ∃ j,seqIndex? i xs.length = some j /\ xs[j]? = some v /\ j < xs.length /\ -(xs.length : Int) <= i /\ i < xs.length:=by
 unfold atI at h
 cases e : ixN xs.length i with
 | none=>rw [e] at h; cases h
 | some j =>
   rw [e] at h
   obtain ⟨h1,h2,h3,h4⟩:=zlU e
   exact ⟨j,h1,h,h2,h3,h4⟩
theorem zdM {α : Type} {xs : List α} {j : Nat} {v : α} (h : xs[j]? = some v) : atI xs (j : Int) = some v:=by
 have hj : j < xs.length:=(List.getElem?_eq_some_iff.mp h).1
 have e : ixN xs.length (j : Int) = some j:=by
   unfold ixN
   rw [if_pos (by omega),if_pos (by omega)]; simp
 unfold atI; rw [e]; exact h
def zpG (b : Expr) : Prop:=∀ o i,subscripted b false o i = operate [o,i] (getItem o i)
def IxR (X : Cx) (r : R2) : Prop :=
 ∀ (value slice : Expr) (pins : List (Addr × Obj)) (s : Shared) (σ : St) (H : Hp) (x y : V) (v u : Value) (Q : VK),Inv X pins σ H s -> zbf x v -> zbf y u -> r x y H Q ->
   subscripted slice false v u = operate [v,u] (getItem v u) -> wpAny (model X.prog X.w) X.A (subscriptTail value slice v u) (EP X pins σ Q) X.xe s
def MtR (X : Cx) (id : String) (r : V -> List V -> Hp -> VK -> Prop) : Prop :=
 ∀ (pins : List (Addr × Obj)) (s : Shared) (σ : St) (H : Hp) (x : V) (xs : List V) (v : Value) (us : List Value) (Q : VK),Inv X pins σ H s -> zbf x v -> zaZ xs us -> r x xs H Q ->
   wpAny (model X.prog X.w) X.A (call (.builtin id) (v :: us)) (EP X pins σ Q) X.xe s
section
variable {X : Cx} {a b : Expr} {ta tb : TE} {pos : Pos}
theorem IxR.or {r r' : R2} (h : IxR X r) (h' : IxR X r') : IxR X (fun x y H Q=>r x y H Q \/ r' x y H Q):=by
 intro value slice pins s σ H x y v u Q I rx ry q hs
 rcases q with q | q
 . exact h value slice pins s σ H x y v u Q I rx ry q hs
 . exact h' value slice pins s σ H x y v u Q I rx ry q hs
theorem zam {r : R2} (hr : IxR X r) (ha : PE X a ta) (hb : PE X b tb) (hs : zpG b) : PE X (.Subscript a b pos) (tOp r ta tb):=by
 intro pins s σ H Q I h
 exact Subscript_ (zrz ha hb I h fun v u s2 x y H2 I2 rx ry q=>hr a b pins s2 σ H2 x y v u Q I2 rx ry q (hs _ _))
def zsS (K : PySem.W.Frag) : R2:=fun x y H Q=>∃ p xs i v,x = .ref p /\ y = .int i /\ SqL K H p xs /\ atI xs i = some v /\ Q v H
def zsW (K : PySem.W.Frag) : R2:=fun x y H Q=>∃ p xs i v,x = .ref p /\ y = .int i /\ SqT K H p xs /\ atI xs i = some v /\ Q v H
def zsh : R2:=fun x y H Q=>∃ z i c,x = .str z /\ y = .int i /\ z.length <= sizeLine /\ atI z.cps.toList i = some c /\ Q (.str ⟨#[c]⟩) H
theorem zpo : IxR X (zsS X.K):=by
 intro value slice pins s σ H x y v u Q I rx ry h hs
 obtain ⟨p,xs,i,z,rfl,rfl,hq,he,q⟩:=h
 cases rx
 obtain ⟨t,rfl⟩:=ry
 obtain ⟨its,r,pl,hz⟩:=I.list hq
 obtain ⟨j,h1,h2,h3,h4,h5⟩:=zjL he
 obtain ⟨w,ew,rw'⟩:=r.get h2
 have hl:=r.length
 have hn:=zhw
 have fin : EP X pins σ Q w s:=⟨z,H,I,rw',q⟩
 by_cases h0 : 0 <= i
 . have hj : i.toNat = j:=by
     rw [seqIndex_of h0 h5] at h1
     exact Option.some.inj h1
   exact item_listR pl.isList h0 (by omega) (by rw [hj]; simpa using ew) fin hs
 . have hj : (i + (its.toArray.size : Int)).toNat = j:=by
     rw [seqIndex_neg (by omega) h4] at h1
     rw [List.size_toArray,<- hl]
     exact Option.some.inj h1
   exact subscriptTail_builtinR (x:=w) pl.isList.typeIs slot_list_getitem.lookup
     (wpAny_getItem_list_neg (Q:=fun r s'=>r = w /\ EP X pins σ Q r s') pl.isList (by omega) (by rw [List.size_toArray] <;> omega) (by omega) (by rw [hj]; simpa using ew) ⟨rfl,fin⟩) hs
theorem zru : IxR X (zsW X.K):=by
 intro value slice pins s σ H x y v u Q I rx ry h hs
 obtain ⟨p,xs,i,z,rfl,rfl,hq,he,q⟩:=h
 cases rx
 obtain ⟨t,rfl⟩:=ry
 obtain ⟨its,r,pl,hz⟩:=I.tuple hq
 obtain ⟨j,h1,h2,h3,h4,h5⟩:=zjL he
 obtain ⟨w,ew,rw'⟩:=r.get h2
 have hl:=r.length
 have hn:=zhw
 have fin : EP X pins σ Q w s:=⟨z,H,I,rw',q⟩
 exact subscriptTail_builtinR (x:=w) pl.typeIs slot_tuple_getitem.lookup
   (getItem_tuple (j:=j) (Q:=fun r s'=>r = w /\ EP X pins σ Q r s') pl (by omega) (by omega) (by rw [List.size_toArray,<- hl]; exact h1) (by simpa using ew) ⟨rfl,fin⟩) hs
theorem zsc : IxR X zsh:=by
 intro value slice pins s σ H x y v u Q I rx ry h hs
 obtain ⟨z,i,c,rfl,rfl,hz,he,q⟩:=h
 obtain ⟨t,rfl⟩:=rx
 obtain ⟨t',rfl⟩:=ry
 obtain ⟨j,h1,h2,h3,h4,h5⟩:=zjL he
 have hl : z.cps.toList.length = z.length:=by simp [Str.length]
 rw [hl] at h1 h4 h5
 have hn:=zhw
 exact tail_any (typeIs_str s z t) slot_str_getitem.lookup (getItem_str (c:=c) (by
   have e1 : decide (i < -(2 ^ 63 : Int)) = false:=decide_eq_false (by omega)
   have e2 : decide (i ≥ 2 ^ 63) = false:=decide_eq_false (by omega)
   rw [e1,e2,Bool.or_false]) (by rw [h1]; simpa using h2) ⟨.str ⟨#[c]⟩,H,I.tok _,⟨_,rfl⟩,q⟩) hs
def rIx (K : PySem.W.Frag) : R2:=fun x y H Q=>zsS K x y H Q \/ zsW K x y H Q \/ zsh x y H Q
theorem zah : IxR X (rIx X.K):=zpo.or (zru.or zsc)
theorem zlO (its : List Value) (n j : Nat) (u : Value) : Obj.mapSeq (·.setIfInBounds j u) { cls:=.type "list",data:=.seq its.toArray n } = { cls:=.type "list",data:=.seq (its.set j u).toArray n }:=by
 simp [Obj.mapSeq]
theorem Inv.lst {pins : List (Addr × Obj)} {σ : St} {H : Hp} {s : Shared} {p : Addr} {xs : List V} (I : Inv X pins σ H s) (h : H p = some (.lst xs)) :
   ∃ (its : List Value) (n : Nat),zaZ xs its /\ s.heap.get? p = some { cls:=.type "list",data:=.seq its.toArray n } /\ xs.length <= sizeLine:=by
 obtain ⟨z,its,n,r,e⟩:=I.hok p _ h
 exact ⟨its,n,r,e,z⟩
theorem Inv.lstUpd {pins : List (Addr × Obj)} {σ : St} {H : Hp} {s : Shared} {p : Addr} {xs ys : List V} {its its' : List Value} {n n' : Nat} {f : Obj -> Obj} (I : Inv X pins σ H s) (h : H p = some (.lst xs))
   (ho : s.heap.get? p = some { cls:=.type "list",data:=.seq its.toArray n }) (hf : f { cls:=.type "list",data:=.seq its.toArray n } = { cls:=.type "list",data:=.seq its'.toArray n' }) (r : zaZ ys its') (hz : ys.length <= sizeLine) (t : Nat) :
   Inv X pins σ (upd H p (.lst ys)) { s with heap:=s.heap.update p f,toks:=t }:=by
 have e : (s.heap.update p f).get? p = some { cls:=.type "list",data:=.seq its'.toArray n' }:=by
   rw [Heap.get?_update_self f ho (by rw [hf] <;> rfl),hf]
 refine I.write (x:=p) (e:=p) (by rw [h]; trivial) (.inl rfl) (fun b u hb q=>(Heap.get?_update_other _ _ (Ne.symm hb)).trans q) ⟨_,e⟩ ?_
 exact ⟨hz,its',n',r,e⟩
def zqR : V -> V -> V -> Hp -> (Hp -> Prop) -> Prop:=fun o i v H Q=>∃ p xs k j,o = .ref p /\ i = .int k /\ H p = some (.lst xs) /\ ixN xs.length k = some j /\ Q (upd H p (.lst (xs.set j v)))
theorem zeF : zsC X zqR:=by
 intro pins s σ H o i v ov iv u Q I ro ri rv h
 obtain ⟨p,xs,k,j,rfl,rfl,hp,hj,q⟩:=h
 cases ro
 obtain ⟨t,rfl⟩:=ri
 obtain ⟨its,n,r,ho,hz⟩:=I.lst hp
 obtain ⟨h1,h2,h3,h4⟩:=zlU hj
 have hl:=r.length
 have hn:=zhw
 have I' : Inv X pins σ (upd H p (.lst (xs.set j v))) { s with heap:=s.heap.update p (Obj.mapSeq (·.setIfInBounds j u)) } :=
   I.lstUpd hp ho (zlO its n j u) (r.set rv j) (by rw [List.length_set]; exact hz) s.toks
 by_cases h0 : 0 <= k
 . have hk : k.toNat = j:=by
     rw [seqIndex_of h0 h4] at h1
     exact Option.some.inj h1
   exact PySem.W.ki_setAt ho h0 (by omega) (by rw [List.size_toArray,<- hl]; exact h4) (by rw [hk]; exact ⟨_,I',q⟩)
 . have hk : (k + (its.toArray.size : Int)).toNat = j:=by
     rw [seqIndex_neg (by omega) h3] at h1
     rw [List.size_toArray,<- hl]
     exact Option.some.inj h1
   exact PySem.W.ki_setBack ho (by omega) (by rw [List.size_toArray,<- hl]; exact h3) (by omega) (by rw [hk]; exact ⟨_,I',q⟩)
theorem zjE (lo hi : Option Int) (n : Nat) : (sliceBounds lo hi none n).1 = ((HT.sIx n 0 lo : Nat) : Int) /\ (sliceBounds lo hi none n).2.1 = ((HT.sIx n n hi : Nat) : Int) /\ (sliceBounds lo hi none n).2.2 = 1:=by
 refine ⟨?_,?_,rfl⟩
 . cases lo with
   | none=>simp [sliceBounds,HT.sIx]
   | some i =>
     simp only [sliceBounds,HT.sIx,Option.getD_none,show (1 : Int) > 0 by decide,if_true]
     by_cases h : i < 0
     . simp only [h,if_true] <;> omega
     . simp only [h,if_false] <;> omega
 . cases hi with
   | none=>simp [sliceBounds,HT.sIx]
   | some i =>
     simp only [sliceBounds,HT.sIx,Option.getD_none,show (1 : Int) > 0 by decide,if_true]
     by_cases h : i < 0
     . simp only [h,if_true] <;> omega
     . simp only [h,if_false] <;> omega
theorem zih (its : List Value) (lo hi : Option Int) : slicePick its.toArray lo hi none = ((its.drop (HT.sIx its.length 0 lo)).take (HT.sIx its.length its.length hi - HT.sIx its.length 0 lo)).toArray:=by
 obtain ⟨h1,h2,h3⟩:=zjE lo hi its.toArray.size
 unfold slicePick
 rw [h1,h2,h3]
 simp only [sliceRange_one,pick_run,List.size_toArray] <;> rfl
def zsp (K : PySem.W.Frag) : V -> Option Int -> Option Int -> Hp -> VK -> Prop:=fun x lo hi H Q=>∃ a xs,x = .ref a /\ SqL K H a xs /\ ∀ p,H p = none -> Q (.ref p) (upd H p (.lst (zit xs lo hi)))
theorem zqe : SlR X (zsp X.K):=by
 intro pins s σ H x v vl vu lo hi sl Q I rx hs pl pu h
 obtain ⟨a,xs,rfl,hx,q⟩:=h
 cases rx
 obtain ⟨its,r,ht,hz⟩:=I.list hx
 have hlen:=r.length
 refine ⟨"list",_,slot_list_getitem.lookup,ht.isList.typeIs,?_⟩
 refine wpAny_getItem_list_slice ht.isList hs pl pu .none (by simp) ?_ (by rw [List.size_toArray] <;> omega)
 rw [zih,<- hlen]
 refine ⟨.ref s.heap.objs.size,_,I.laid (t':=s.toks) (o:=.lst (zit xs lo hi)) (fun b ob q=>Heap.get?_push_of_some _ q) (Nat.le_refl _) ?_,rfl,q _ (I.hok.fresh (Nat.le_refl _))⟩
 exact ⟨Nat.le_trans (zgO xs lo hi) hz,_,0,(r.drop (HT.sIx xs.length 0 lo)).take (HT.sIx xs.length xs.length hi - HT.sIx xs.length 0 lo),Heap.get?_push_size _ rfl⟩
theorem zjB : zaP X (.builtin "len") (fun xs H Q=>∃ p ys,xs = [.ref p] /\ (SqL X.K H p ys \/ SqT X.K H p ys) /\ Q (.int ys.length) H):=by
 intro pins s σ H xs us Q I r h
 obtain ⟨p,ys,rfl,hq,q⟩:=h
 obtain ⟨u,rfl,rx⟩:=zfr r
 cases rx
 have hn:=zhw
 rcases hq with hq | hq
 . obtain ⟨its,r',pl,hz⟩:=I.list hq
   have hlen:=r'.length
   exact Calls.call_len_list pl.isList (by simp only [List.size_toArray] <;> omega) ⟨.int ys.length,H,I.tok _,⟨s.toks + 1,by rw [List.size_toArray,hlen]⟩,q⟩
 . obtain ⟨its,r',pl,hz⟩:=I.tuple hq
   have hlen:=r'.length
   exact len_tuple pl (by simp only [List.size_toArray] <;> omega) ⟨.int ys.length,H,I.tok _,⟨s.toks + 1,by rw [List.size_toArray,hlen]⟩,q⟩
theorem zi2 : zaP X (.type "list") (fun xs H Q=>∃ p ys,xs = [.ref p] /\ (SqL X.K H p ys \/ SqT X.K H p ys) /\ ∀ l,H l = none -> Q (.ref l) (upd H l (.lst ys))):=by
 intro pins s σ H xs us Q I r h
 obtain ⟨p,ys,rfl,hq,q⟩:=h
 obtain ⟨u,rfl,rx⟩:=zfr r
 cases rx
 have fin : ∀ (its : List Value),zaZ ys its -> ys.length <= sizeLine -> ∀ (h' : Heap) (c' : Nat),(∀ b o',s.heap.get? b = some o' -> h'.get? b = some o') ->
     h'.get? s.heap.objs.size = some { cls:=.type "list",dict:=none,data:=.seq its.toArray c',slots:=#[] } -> EP X pins σ Q (.ref s.heap.objs.size) { s with heap:=h' }:=fun its r' hz h' c' kp e =>
   ⟨.ref s.heap.objs.size,_,I.laid (t':=s.toks) kp (Nat.le_refl _) (show zcJ X.prog X.w _ h' _ (.lst ys) from ⟨hz,its,c',r',e⟩),rfl,q _ (I.hok.fresh (Nat.le_refl _))⟩
 rcases hq with hq | hq
 . obtain ⟨its,r',pl,hz⟩:=I.list hq
   have hlen:=r'.length
   obtain ⟨o,ho,hc,n,hd⟩:=pl.isList
   exact call_list_seq p (.inl rfl) ho hc hd (fun h' c' kp e=>fin its r' hz h' c' kp e) (by simp only [List.size_toArray] <;> omega)
 . obtain ⟨its,r',pl,hz⟩:=I.tuple hq
   have hlen:=r'.length
   obtain ⟨o,ho,hc,n,hd⟩:=pl
   exact call_list_seq p (.inr rfl) ho hc hd (fun h' c' kp e=>fin its r' hz h' c' kp e) (by simp only [List.size_toArray] <;> omega)
theorem zis : zaP X (.type "tuple") (fun xs H Q=>∃ p ys,xs = [.ref p] /\ ((SqL X.K H p ys /\ ∀ l,H l = none -> Q (.ref l) (upd H l (.tup ys))) \/ (SqT X.K H p ys /\ Q (.ref p) H))):=by
 intro pins s σ H xs us Q I r h
 obtain ⟨p,ys,rfl,h⟩:=h
 obtain ⟨u,rfl,rx⟩:=zfr r
 cases rx
 rcases h with ⟨hq,q⟩ | ⟨hq,q⟩
 . obtain ⟨its,r',pl,hz⟩:=I.list hq
   have hlen:=r'.length
   refine call_tuple_list pl.isList (fun h' kp=>?_) (by simp only [List.size_toArray] <;> omega)
   have I1 : Inv X pins σ H { s with heap:=h' }:=I.kept (t':=s.toks) kp
   have I2 : Inv X pins σ (upd H h'.objs.size (.tup ys)) { s with heap:=h'.push { cls:=.type "tuple",data:=.seq its.toArray } } :=
     I1.laid (t':=s.toks) (fun b o e=>Heap.get?_push_of_some _ e) (Nat.le_refl _) (show zcJ X.prog X.w _ _ _ (.tup ys) from ⟨hz,its,r',IsTup.new _ _⟩)
   exact ⟨.ref h'.objs.size,_,I2,rfl,q _ (I1.hok.fresh (Nat.le_refl _))⟩
 . obtain ⟨its,r',pl,hz⟩:=I.tuple hq
   exact call_tuple_same pl ⟨.ref p,H,I,rfl,q⟩
def tyV (K : PySem.W.Frag) (T : String) (x : V) (H : Hp) : Prop:=match x with
 | .str _=>T = "str"
 | .int _=>T = "int"
 | .ref p=>(T = "list" /\ ∃ xs,SqL K H p xs) \/ (T = "tuple" /\ ∃ o,K.lookup p = some o /\ o.cls = .type "tuple" /\ o.dict = none) \/
     (T = "dict" /\ ((∃ kvs,H p = some (.dK kvs)) \/ ∃ kvs,H p = some (.dT kvs))) \/ (T = "set" /\ ∃ S n,H p = some (.set S n))
 | _=>False
theorem zrN {pins : List (Addr × Obj)} {σ : St} {H : Hp} {s : Shared} {T : String} {x : V} {v : Value} (I : Inv X pins σ H s) (r : zbf x v) (ty : tyV X.K T x H) :
   s.TypeIs v T /\ ∀ a,v = .ref a -> ∃ ob,s.heap.get? a = some ob /\ ob.dict = none:=by
 cases x with
 | str z =>
   obtain ⟨t,rfl⟩:=r
   cases (show T = "str" from ty)
   exact ⟨typeIs_str s z t,fun _ e=>nomatch e⟩
 | int i =>
   obtain ⟨t,rfl⟩:=r
   cases (show T = "int" from ty)
   exact ⟨typeIs_int s i t,fun _ e=>nomatch e⟩
 | ref p =>
   cases r
   rcases ty with ⟨rfl,xs,hq⟩ | ⟨rfl,o,hk,hc,hd⟩ | ⟨rfl,hk⟩ | ⟨rfl,S,n,hk⟩
   . obtain ⟨its,_,pl,_⟩:=I.list hq
     refine ⟨pl.isList.typeIs,fun a e=>?_⟩
     cases e
     obtain ⟨o,n,e,c,hd,_⟩:=pl
     exact ⟨o,e,hd⟩
   . refine ⟨⟨o,I.kIn p o hk,hc⟩,fun a e=>?_⟩
     cases e
     exact ⟨o,I.kIn _ o hk,hd⟩
   . have z : ∃ o,s.heap.get? p = some o /\ o.ExactDict:=by
       rcases hk with ⟨kvs,hk⟩ | ⟨kvs,hk⟩
       . obtain ⟨_,_,_,_,o,_,_,e,ex,_⟩:=I.hok p _ hk
         exact ⟨o,e,ex⟩
       . obtain ⟨_,_,_,_,o,_,_,e,ex,_⟩:=I.hok p _ hk
         exact ⟨o,e,ex⟩
     obtain ⟨o,e,ex⟩:=z
     refine ⟨⟨o,e,ex.1⟩,fun a e2=>?_⟩
     cases e2
     exact ⟨o,e,ex.2.1⟩
   . obtain ⟨o,_,_,_,e,ex,_⟩:=I.hok p _ hk
     refine ⟨⟨o,e,ex.1⟩,fun a e2=>?_⟩
     cases e2
     exact ⟨o,e,ex.2.1⟩
 | _=>exact False.elim ty
def tBM (K : PySem.W.Frag) (T : String) (r : V -> List V -> Hp -> VK -> Prop) (to : TE) (t : TA) : TE:=fun σ H Q=>to σ H fun x H1=>tyV K T x H1 /\ t σ H1 fun xs H2=>r x xs H2 Q
variable {o e : Expr} {es : List Expr} {to : TE} {t : TA} {name : Str} {apos cpos : Pos} {T id : String} {r : V -> List V -> Hp -> VK -> Prop}
theorem zhA (pa : PlainAttrs T) (slot : Slot T name id) (hty : typeOf (.builtin id) = pure (.type "method_descriptor")) (hm : MtR X id r) (ho : PE X o to) (ha : PA X (e :: es) t)
   (hbase : attributeBase o name X.env (eval o X.env) = eval o X.env:=by rfl)
   (hfew : ((backTo cpos (starEach (e :: es) X.env)).all (fun x=>!x.1) && (backToKw cpos (keywordEach [] X.env)).all (fun x=>x.1.isSome)
     && decide ((e :: es).length + ([] : List Keyword).length + (if ([] : List Keyword).isEmpty then 0 else 1) < 30)) = true:=by rfl)
   (hline : (apos.endLine == cpos.line) = true:=by rfl) (hs : starEach (e :: es) X.env = (false,eval e X.env) :: starEach es X.env:=by rfl) (hplain : (backTo cpos (starEach es X.env)).any (·.1) = false:=by rfl) :
   PE X (.Call (.Attribute o name apos) (e :: es) [] cpos) (tBM X.K T r to t):=by
 intro pins s σ H Q I h
 refine wpAny_Call_method_late hbase hfew hline rfl (thn (ho pins s σ H _ I h) fun v s1 ⟨x,H1,I1,r1,ty,q1⟩=>?_)
 obtain ⟨h1,h2⟩:=zrN I1 r1 ty
 refine ⟨T,id,pa,slot,hty,h1,h2,?_⟩
 have hA:=ha cpos pins s1 σ H1 _ I1 q1
 rw [hs] at hA ⊢
 refine Calls.callWith_builtin (by show (false || (backTo cpos (starEach es X.env)).any (·.1)) = false; rw [hplain] <;> rfl) (Calls.evalArgs_plain ?_)
 exact thn hA fun us s2 ⟨vs,H2,I2,r2,q2⟩=>hm pins s2 σ H2 x vs v us Q I2 r1 r2 q2
/- xs.append(e),list.index on a module's tuple .. are MtR facts of 06m -/
end
end L2
namespace L2
open PySem PySem.Spec PyProof.Rows
def MtM (X : Cx) (id : String) (r : V -> List V -> Hp -> VK -> Prop) : Prop :=
 ∀ (pins : List (Addr × Obj)) (s : Shared) (σ : St) (H : Hp) (x : V) (xs : List V) (v : Value) (us : List Value) (Q : VK),Inv X pins σ H s -> zbf x v -> zaZ xs us -> r x xs H Q ->
   wpAny (model X.prog X.w) X.A (call (.builtin id) (v :: us)) (EP X pins σ Q) X.xe s
theorem zaZ.one : ∀ {x : V} {us : List Value},zaZ [x] us -> ∃ u,us = [u] /\ zbf x u
 | _,_,.cons r .nil=>⟨_,rfl,r⟩
section
variable {X : Cx} {pins : List (Addr × Obj)} {σ : St} {H : Hp} {s : Shared} {l b : Addr} {xs ys zs : List V}
theorem Inv.lset {its its' : List Value} {n : Nat} {f : Array Value -> Array Value} {t' : Nat} (I : Inv X pins σ H s) (hH : H l = some (.lst xs))
   (e : s.heap.get? l = some { cls:=.type "list",data:=.seq its.toArray n }) (hf : f its.toArray = its'.toArray) (hv : zaZ ys its') (hz : ys.length <= sizeLine) :
   Inv X pins σ (upd H l (.lst ys)) { s with heap:=s.heap.update l (Obj.mapSeq f),toks:=t' }:=by
 have q:=PySem.IsL.update e f
 rw [hf] at q
 refine I.write (x:=l) (e:=l) (by rw [hH]; exact trivial) (.inl rfl) (fun b' u hb hu=>(Heap.get?_update_other s.heap (Obj.mapSeq f) (Ne.symm hb)).trans hu) ⟨_,q⟩ ?_
 exact ⟨hz,its',_,hv,q⟩
theorem Inv.lnew {its : List Value} {t' : Nat} (I : Inv X pins σ H s) (hv : zaZ ys its) (hz : ys.length <= sizeLine) :
   Inv X pins σ (upd H s.heap.objs.size (.lst ys)) { s with heap:=s.heap.push { cls:=.type "list",data:=.seq its.toArray },toks:=t' } :=
 I.laid (fun _ _ q=>Heap.get?_push_of_some _ q) (Nat.le_refl _) ⟨hz,its,0,hv,Heap.get?_push_size _ rfl⟩
theorem Inv.fresh (I : Inv X pins σ H s) : H s.heap.objs.size = none:=I.hok.fresh (Nat.le_refl _)
theorem Inv.lstM (I : Inv X pins σ H s) (hH : H l = some (.lst xs)) : xs.length <= sizeLine /\ ∃ (its : List Value) (n : Nat),zaZ xs its /\ xs.length = its.length /\ s.heap.get? l = some { cls:=.type "list",data:=.seq its.toArray n }:=by
 obtain ⟨z,its,n,r,e⟩:=I.hok l _ hH
 exact ⟨z,its,n,r,r.length,e⟩
end
section
variable {X : Cx}
def zl4 : V -> List V -> Hp -> VK -> Prop:=fun x vs H Q=>∃ l xs y,x = .ref l /\ vs = [y] /\ H l = some (.lst xs) /\ xs.length < sizeLine /\ Q .non (upd H l (.lst (xs ++ [y])))
theorem zcx : MtM X "list.append" zl4:=by
 intro pins s σ H x vs v us Q I rx rv h
 obtain ⟨l,xs,y,rfl,rfl,hH,hz,q⟩:=h
 cases rx
 obtain ⟨u,rfl,ru⟩:=rv.one
 obtain ⟨z,its,n,r,hl,e⟩:=I.lstM hH
 refine call_meets F.slot_list_append ⟨_,e,rfl⟩ F.entry_list_append (F.args_list_append_2 _ _) (PySem.list_append l its.toArray n u (by rw [List.size_toArray]; omega)) ⟨e,?_⟩
 refine ⟨.non,_,I.lset (its':=its ++ [u]) hH e (by simp) (r.append (.cons ru .nil)) ?_,rfl,q⟩
 rw [List.length_append,List.length_singleton]
 omega
def zrr : R2:=fun x y H Q=>∃ l b xs zs,x = .ref l /\ y = .ref b /\ H l = some (.lst xs) /\ H b = some (.lst zs) /\ xs.length + zs.length <= sizeLine /\ ∀ p,H p = none -> Q (.ref p) (upd H p (.lst (xs ++ zs)))
theorem zrg : OpR X (binaryOp .Add) zrr:=by
 intro pins s σ H x y v u Q I rx ry h
 obtain ⟨l,b,xs,zs,rfl,rfl,hH,hB,hz,q⟩:=h
 cases rx
 cases ry
 obtain ⟨z,its,n,r,hl,e⟩:=I.lstM hH
 obtain ⟨z2,its2,n2,r2,hl2,e2⟩:=I.lstM hB
 refine PySem.P.add_list e e2 ?_ (by rw [List.size_toArray,List.size_toArray]; omega)
 have ea : its.toArray ++ its2.toArray = (its ++ its2).toArray:=by simp
 rw [ea]
 exact ⟨.ref _,_,I.lnew (t':=s.toks) (r.append r2) (by rw [List.length_append]; omega),rfl,q _ I.fresh⟩
end
section
variable {prog : Program} {w : World} {A : Around} {E : Value -> Shared -> Prop} {s : Shared}
end
section
variable {X : Cx}
end
end L2
namespace Att
open PySem PySem.W PySem.Calls PyProof.Rows
theorem zgX {P : Params} {h : Heap} : ∀ (ns : List Int) (vs : List Value),WellAll P h vs (ns.map WData.int) -> IntsAre vs ns:=by
 intro ns
 induction ns with
 | nil =>
   intro vs w
   rw [List.map_nil] at w
   cases w
   exact .nil
 | cons n ns ih =>
   intro vs w
   rw [List.map_cons] at w
   cases w with
   | cons a b =>
     cases a
     exact .cons _ _ (ih _ b)
theorem znh {l : OpenLaw} {n : Nat} (hn : l.most = some n) {P : Params} {h : Heap} {args : List WData} {vals : List Value}
   (hpre : l.row.toRowW.claim.pre args = true) (hwl : WellAll P h vals args) :
   ∃ a vs ns,vals = [Value.ref a] /\ args = [WData.list (ns.map WData.int)] /\ h.get? a = some { cls:=.type "list",data:=.seq vs.toArray } /\ IntsAre vs ns /\ ns.length <= n:=by
 have hsh : WShape.hasAll [] args [.list .int] = true:=(pre_splitW hpre).1
 have hc : l.pre.holds [] { args:=args } = true:=(pre_splitW hpre).2
 obtain ⟨d,r,rfl,h1,h2⟩:=hasAllW_cons hsh
 obtain rfl:=hasAllW_nil h2
 obtain ⟨xs,rfl,h3⟩:=hasW_list h1
 obtain ⟨ns,rfl⟩:=items_int h3
 have hlen : ns.length <= n:=by
   unfold OpenLaw.pre at hc
   have h4 : (WTm.not (.lt (.lit (.int (n : Int))) (.len (.arg 0)))).holds [] { args:=[.list (ns.map .int)] } = true:=by
     have h4:=(holds_andW hc).1
     rw [hn] at h4
     exact h4
   have h5:=condW_of h4 (w_not (w_lt w_lit (w_len_list (w_arg rfl))))
   rw [List.length_map] at h5
   refine Nat.le_of_not_lt fun q=>?_
   have q' : (n : Int) < ((ns.length : Nat) : Int):=by omega
   first
     | (rw [decide_eq_true q'] at h5; exact absurd h5 (by decide))
     | (simp at h5; omega)
 cases hwl with
 | cons w1 w2 =>
   cases w2
   cases w1 with
   | list ho hall=>exact ⟨_,_,ns,rfl,rfl,ho,zgX ns _ hall,hlen⟩
theorem zmK (l : OpenLaw) (args : List WData) : l.row.toRowW.claim.post args (.bool true) args = true :=
 postW_of (r:=l.row.toRowW) (X:=(true == true))
   (show WShape.has [] (.bool true) .bool = true by first | rfl | decide | simp [WShape.has,WShape.arms,WShape.armsAll])
   (show (WTm.eq .res (.lit (.bool true))).value [] { args:=args,res:=some (.bool true),after:=args } = some (.bool (true == true)) from w_eq_bool (w_res rfl) w_lit) rfl
theorem attach_call {l : OpenLaw} {n : Nat} {q : Program} {loose : List Str} {XP : (Str -> Option Value) -> Heap -> Prop} {YP : World -> Heap -> Prop} {d : DefRec}
   (hn : l.most = some n) (hdf : d.params.defaults = [])
   (call : ∀ (w : World) (s₀ s₁ : Shared) (mg mb : Str -> Option Value) (fa : Addr) (o : Obj) (pm cd doc : Value) (a : Addr) (vs : List Value) (ns : List Int),
     Ground q loose [] XP w s₀ mg mb s₁.heap -> YP w s₁.heap ->
     s₁.heap.get? fa = some o -> o.data = .func (docDef d.name d.params d.body d.scope pm cd doc) -> s₁.heap.CodeRec cd d.name -> mg d.name = some (.ref fa) ->
     s₁.heap.get? a = some { cls:=.type "list",data:=.seq vs.toArray } -> IntsAre vs ns -> ns.length <= n -> s₁.gens = #[] ->
     codeAny (model l.prog w) callerA (.call (.ref fa) ⟨[.ref a],[]⟩) (fun r s'=>r = .ok (.ret (.bool true)) /\ OldK s₁.heap s'.heap /\ s'.os = s₁.os /\ AllBare s'.gens) s₁) :
   WalkO q loose XP YP l.row.toRowW d [] (fun f vs=>PySem.call f vs):=by
 intro w s₀ s₁ mg mb G Y fa o pm cd doc dV kV ho hd hcd hD hmg hg args vals as hpre hlay hrd hwl hlo
 obtain rfl : dV = .none:=Dflts.none hD hdf
 obtain rfl : kV = .none:=Dflts.noKw hD
 obtain ⟨a,vs,ns,rfl,rfl,hobj,hints,hlen⟩:=znh hn hpre hwl
 refine enter_call (codeAny_mono (call w s₀ s₁ mg mb fa o pm cd doc a vs ns G Y ho (fd_plain hd) hcd hmg hobj hints hlen hg) fun r s' hq=>?_)
 obtain ⟨rfl,h2,h3,h4⟩:=hq
 exact ⟨.inl ⟨.bool true,.bool true,[],rfl,fun _=>rfl,.bool true,zmK l _,fun _=>⟨List.Pairwise.nil,fun _ hm=>(nomatch hm)⟩⟩,h2,h3,h4⟩
section
variable {prog : Program} {w : World} {A : Around} {E : Value -> Shared -> Prop} {s : Shared} {K : Frag}
def zs6 (h : Heap) (L d : Addr) : List (Addr × Obj):=(List.range h.objs.size).filterMap fun a=>if a = L \/ a = d then none else (h.get? a).map fun o=>(a,o)
end
end Att
namespace L2
open PySem PySem.Spec PyProof.Rows
theorem ziN : ∀ {vs : List Value} {ns : List Int},IntsAre vs ns -> zaZ (ns.map V.int) vs
 | _,_,.nil=>.nil
 | _,_,.cons n t h=>.cons ⟨t,rfl⟩ (ziN h)
def zp5 (H : Hp) : Prop:=∀ b,H b = none \/ ∃ o xs,H b = some (.frz o (.lst xs))
theorem zoe {P : Program} {w : World} {K : PySem.W.Frag} {mg mb : Str -> Option Value} {CX : CXT} {k : Nat} {fa a : Addr} {fd : FuncData} {x : Str} {sp : Sp} {s₁ : Shared} {vs : List Value} {ns : List Int}
   (KX : K.In s₁.heap) (hns : s₁.heap.Ns mainGlobals mg) (hb : s₁.heap.Ns builtinsNs mb) (hbb : ∀ x : Str,x ≠ "__name__" -> mb x = bootBuiltins x) (hlim : s₁.heap.NoLimit) (hg : s₁.gens = #[])
   (ha : s₁.heap.get? a = some { cls:=.type "list",data:=.seq vs.toArray }) (hi : IntsAre vs ns) (hl : ns.length <= sizeLine) (hr : zdZ k callerA)
   (F : ∀ base : Heap,K.In base -> base.Ns mainGlobals mg -> zbd P w K mg base CX k fa fd [x] sp) (hbind : ∀ (s : Shared) (u : Value),BindsTo s fd ⟨[u],[]⟩ [(x,u)])
   (hsp : ∀ H : Hp,zp5 H -> SqL K H a (ns.map V.int) -> sp [.ref a] H (fun v _=>v = .bl true) fun _ _ _=>False)
   (hCX : ∀ H e s',CX [] H s₁ (fun _ _ _=>False) e s' -> False) :
   codeAny (model P w) callerA (.call (.ref fa) ⟨[.ref a],[]⟩) (fun r s'=>r = .ok (.ret (.bool true)) /\ OldK s₁.heap s'.heap /\ s'.os = s₁.os /\ AllBare s'.gens) s₁:=by
 have rv:=ziN hi
 have lenV:=hi.length
 -- from an abstract heap in which nothing but the script may be tracked
 have core : ∀ H : Hp,zp5 H -> SqL K H a (ns.map V.int) -> HOk P w H s₁.heap -> (∀ b,H b ≠ none -> b = a) -> (H a ≠ none -> K.lookup a = none) ->
     codeAny (model P w) callerA (.call (.ref fa) ⟨[.ref a],[]⟩) (fun r s'=>r = .ok (.ret (.bool true)) /\ OldK s₁.heap s'.heap /\ s'.os = s₁.os /\ AllBare s'.gens) s₁:=by
   intro H hO hS hok hA hK
   have base_of : ∀ {b : Addr} {o : Obj},s₁.heap.get? b = some o -> H b = none -> (zjn s₁.heap H).get? b = some o:=fun e n=>znH e n
   have noA : ∀ {b : Addr} {o : Obj} {es : Array DictEntry} {ep : Nat},s₁.heap.get? b = some o -> o.data = .dict es ep -> H b = none:=fun {b o es ep} e d=>by
     cases q : H b with
     | none=>rfl
     | some u =>
       have e' : b = a:=hA b (by rw [q]; simp)
       subst e'
       rw [ha] at e; cases e
       have d' : Data.seq vs.toArray _ = Data.dict es ep:=d
       cases d'
   have nsK : ∀ {b : Addr} {m : Str -> Option Value},s₁.heap.Ns b m -> (zjn s₁.heap H).Ns b m:=fun {b m} ⟨o,es,ep,e,d,r⟩=>⟨o,es,ep,base_of e (noA e d),d,r⟩
   have hKb : K.In (zjn s₁.heap H):=fun b o e=>base_of (KX b o e) (by
     cases q : H b with
     | none=>rfl
     | some u =>
       have e' : b = a:=hA b (by rw [q]; simp)
       subst e'
       rw [hK (by rw [q]; simp)] at e; cases e)
   have hM : Mod K mg (zjn s₁.heap H):=⟨hKb,nsK hns,⟨mb,nsK hb,hbb⟩,let ⟨mc,h1,h2⟩:=hlim; ⟨mc,nsK h1,h2⟩⟩
   have e0 : zo4 P w K mg (zjn s₁.heap H) callerA [] s₁ H:=⟨rfl,hM,fun b o e=>zpM e,Nat.le_of_eq (zns _ _),trivial,fun b hb=>absurd (show b ∈ ([] : List Addr) from hb) (by simp),hok,.of_eq hg⟩
   refine codeAny_mono ((F _ hKb (nsK hns)).run callerA [] s₁ H ⟨[.ref a],[]⟩ [.ref a] [.ref a] _ _ hr e0 (hbind s₁ (.ref a)) (.cons rfl .nil) (hsp H hO hS)) fun r s' h=>?_
   cases r with
   | error e=>exact (hCX H e s' h).elim
   | ok fl =>
     cases fl with
     | next=>exact False.elim h
     | brk=>exact False.elim h
     | cont=>exact False.elim h
     | ret u =>
       obtain ⟨v,H',os,bare,un,hok',r',q⟩:=h
       have q' : v = .bl true:=q
       subst q'
       obtain rfl : u = Value.bool true:=r'
       refine ⟨rfl,OldK.of_keep fun b o e=>?_,os,bare⟩
       cases q : H b with
       | none=>exact un.keep b o e q (by intro z; exact absurd (show b ∈ ([] : List Addr) from z) (by simp)) (by simp)
       | some u =>
         rcases hO b with z | ⟨ob,xs,z⟩
         . rw [q] at z; cases z
         . have z2:=un.frzs b ob _ z
           obtain ⟨e1,_⟩:=hok b _ z
           obtain ⟨e2,_⟩:=hok' b _ z2
           rw [e] at e1; cases e1
           exact e2
 cases hk : K.lookup a with
 | some o =>
   -- the script is one of the module's own objects
   have e:=KX a o hk
   rw [ha] at e
   cases e
   refine core (fun _=>none) (fun _=>.inl rfl) (.inr ⟨_,vs.toArray,_,hk,rfl,rfl,rfl,by rw [List.size_toArray,lenV]; exact hl,by simpa using rv⟩) (fun b u z=>by have z' : (none : Option HO) = some u:=z; cases z') (fun b z=>absurd rfl z) fun z=>absurd rfl z
 | none =>
   refine core (fun b=>if b = a then some (.frz { cls:=.type "list",data:=.seq vs.toArray } (.lst (ns.map V.int))) else none) (fun b=>?_) (.inl (.inr ⟨{ cls:=.type "list",data:=.seq vs.toArray },if_pos rfl⟩)) (fun b u z=>?_) (fun b z=>?_) fun _=>hk
   . by_cases hb : b = a
     . exact .inr ⟨_,_,if_pos hb⟩
     . exact .inl (if_neg hb)
   . by_cases hb : b = a
     . have z':=(if_pos hb).symm.trans z
       cases z'
       subst hb
       exact ⟨ha,by rw [List.length_map]; exact hl,vs,_,rv,ha⟩
     . have z':=(if_neg hb).symm.trans z
       cases z'
   . by_cases hb : b = a
     . exact hb
     . exact absurd (if_neg hb) z
end L2
namespace L2
open PySem PySem.Spec PyProof.Rows
abbrev KOf {K : PySem.W.Frag} {h : Heap} (_ : K.In h) : PySem.W.Frag:=K
theorem walk_of {l : PySem.W.OpenLaw} {n k : Nat} {q : Program} {loose : List Str} {XP : (Str -> Option Value) -> Heap -> Prop} {YP : World -> Heap -> Prop} {d : DefRec} {K : Params -> PySem.W.Frag} {CX : World -> CXT} {sp : World -> Sp} {x : Str}
   (hn : l.most = some n) (hn2 : n <= sizeLine) (hdf : d.params.defaults = []) (hr : zdZ k callerA)
   (hY : ∀ (w : World) (h : Heap),YP w h -> (K w.params).In h)
   (F : ∀ (w : World) (mg : Str -> Option Value) (fa : Addr) (h : Heap),(K w.params).In h -> h.Ns mainGlobals mg -> mg d.name = some (.ref fa) ->
     ∃ fd : FuncData,(∀ (s : Shared) (u : Value),BindsTo s fd ⟨[u],[]⟩ [(x,u)]) /\
       ∀ base : Heap,(K w.params).In base -> base.Ns mainGlobals mg -> zbd l.prog w (K w.params) mg base (CX w) k fa fd [x] (sp w))
   (hsp : ∀ (w : World) (H : Hp) (a : Addr) (ns : List Int),ns.length <= n -> zp5 H -> SqL (K w.params) H a (ns.map V.int) -> sp w [.ref a] H (fun v _=>v = .bl true) fun _ _ _=>False)
   (hCX : ∀ (w : World) (H : Hp) (s : Shared) (e : Value) (s' : Shared),CX w [] H s (fun _ _ _=>False) e s' -> False) :
   PySem.W.WalkO q loose XP YP l.row.toRowW d [] (fun f vs=>PySem.call f vs):=by
 refine Att.attach_call hn hdf fun w s₀ s₁ mg mb fa o pm cd doc a vs ns G Y ho hd hcd hmg hobj hints hlen hg=>?_
 have KX:=hY w _ Y
 obtain ⟨fd,hb,hF⟩:=F w mg fa _ KX G.T.g hmg
 exact zoe KX G.T.g G.T.b G.T.builtins G.T.nolimit hg hobj hints (Nat.le_trans hlen hn2) hr hF hb (fun H hO hS=>hsp w H a ns hlen hO hS) fun H e s'=>hCX w H s₁ e s'
end L2
namespace L2
open PySem PySem.Spec PyProof.Rows
def zas (s : Stmt) : Arguments:=match s with
 | .FunctionDef _ a _ _ _ _ _ _ _ _=>a
 | _=>{ posonlyargs:=[],args:=[],vararg:=none,kwonlyargs:=[],kw_defaults:=[],kwarg:=none,defaults:=[] }
def zao (s : Stmt) : List Stmt:=match s with
 | .FunctionDef _ _ b _ _ _ _ _ _ _=>b
 | _=>[]
def zae (s : Stmt) : Scope:=match s with
 | .FunctionDef _ _ _ _ _ _ sc _ _ _=>sc
 | _=>{ kind:=.function,names:=[],isGenerator:=false,isCoroutine:=false }
abbrev CX0 : CXT:=fun _ _ _ _ _ _=>False
abbrev E0 : XK:=fun _ _ _=>False
theorem zaj {X : Cx} : zlr CX0 X E0:=fun _ _ _ _ _ _ _ h=>h.elim
structure Fun (K : PySem.W.Frag) (x qual : Str) (st : Stmt) (f : Addr) (fd : FuncData) : Prop where
 ex : ∃ (oc : Value) (od : Option Addr) (kV doc pm : Value) (an : Option Addr) (cdv ct : Value) (osl : Array (Option Value)),
   fd = PySem.W.fnOf x qual (zas st) (zao st) (zae st) .none kV doc pm an cdv ct /\ K.lookup f = some ⟨oc,od,.func fd,osl⟩ /\ PySem.W.codeIn K cdv qual = true
 kp : PySem.W.keepIn K (.ref f) = true
section
variable {P : Program} {w : World} {K : PySem.W.Frag} {mg : Str -> Option Value} {base : Heap}
theorem Fun.ok {x qual : Str} {st : Stmt} {f : Addr} {fd : FuncData} {N ps : List Str} {k : Nat} {sp : Sp} (F : Fun K x qual st f fd) (S : zaq N ps (zae st)) (len : ∀ vs H Q E,sp vs H Q E -> vs.length = ps.length)
   (hbody : ∀ (cdv : Value) (A : Around) (outer : List Env) (s : Shared) (H : Hp) (vs : List V) (Q : VK) (E : XK),zdZ k (A.deeper (envOfC qual (zae st) s.heap.objs.size f cdv)) -> sp vs H Q E ->
     ∃ t,PSs (za8 CX0 P w K mg base N qual (zae st) f cdv A outer s H E).nox (zao st) t /\ t { nx:=fun _ H'=>Q .non H',rt:=Q } (start N vs) H) : zbd P w K mg base CX0 (k + 1) f fd ps sp:=by
 obtain ⟨oc,od,kV,doc,pm,an,cdv,ct,osl,rfl,lk,hcd⟩:=F.ex
 refine zqM lk hcd S len fun A outer s H vs Q E hr hsp=>?_
 obtain ⟨t,h,q⟩:=hbody cdv A outer s H vs Q E hr hsp
 exact ⟨t,h.nox,q⟩
theorem Fun.binds {x qual : Str} {st : Stmt} {f : Addr} {fd : FuncData} {ps : List Str} (F : Fun K x qual st f fd)
   (h : ∀ (kV doc pm : Value) (an : Option Addr) (cdv ct : Value) (us : List Value),us.length = ps.length -> bindArgs (PySem.W.fnOf x qual (zas st) (zao st) (zae st) .none kV doc pm an cdv ct) ⟨us,[]⟩ = pure (ps.zip us)) : zaN K fd ps []:=by
 obtain ⟨oc,od,kV,doc,pm,an,cdv,ct,osl,rfl,lk,hcd⟩:=F.ex
 exact .all (h kV doc pm an cdv ct)
theorem zaH {x qual : Str} {st : Stmt} {f : Addr} {oc : Value} {od an : Option Addr} {osl : Array (Option Value)} {kV doc pm cdv ct : Value} (l : K.lookup f = some ⟨oc,od,.func (PySem.W.fnOf x qual (zas st) (zao st) (zae st) .none kV doc pm an cdv ct),osl⟩)
   (c : PySem.W.codeIn K cdv qual = true) (k : PySem.W.keepIn K (.ref f) = true) : Fun K x qual st f (PySem.W.fnOf x qual (zas st) (zao st) (zae st) .none kV doc pm an cdv ct):=⟨⟨oc,od,kV,doc,pm,an,cdv,ct,osl,rfl,l,c⟩,k⟩
end
theorem zcv {n : Nat} (h : n <= 1000) : n < sizeLine:=Nat.lt_of_le_of_lt h (by decide)
section
variable {X : Cx}
theorem pv (i : Nat) {x : Str} {pos : Pos} (hN : X.N[i]? = some x:=by rfl) (hv : Vis X.env.scope x:=by first | exact Or.inl rfl | exact Or.inr (Or.inl rfl) | exact Or.inr (Or.inr rfl)) (hd : (x == ("__debug__" : Str)) = false:=by decide)
   (hcd : (x == ("__classdict__" : Str)) = false:=by decide) : PE X (.Name x pos) (zi8 i):=zrQ hN hv hd hcd
end
theorem zoq {A B : Prop} (h : B) : if false = true then A else B:=by
 rw [if_neg Bool.false_ne_true]
 exact h
theorem zoG {A B : Prop} (h : A) : if true = true then A else B:=by
 rw [if_pos rfl]
 exact h
def zai (H H' : Hp) : Prop:=∀ b o,H b = some o -> H' b = some o
theorem zai.refl (H : Hp) : zai H H:=fun _ _ h=>h
theorem zai.trans {H H1 H2 : Hp} (a : zai H H1) (b : zai H1 H2) : zai H H2:=fun c o h=>b c o (a c o h)
theorem zai.seq {K : PySem.W.Frag} {H H' : Hp} {a : Addr} {xs : List V} (e : zai H H') (h : SqL K H a xs) : SqL K H' a xs:=by
 rcases h with (h | ⟨o,h⟩) | h
 . exact .inl (.inl (e _ _ h))
 . exact .inl (.inr ⟨o,e _ _ h⟩)
 . exact .inr h
end L2
namespace GM
def dv (t b : Int) : Int:=if b < 0 then -((Int.gcd t b : Nat) : Int) else ((Int.gcd t b : Nat) : Int)
theorem zjA {t b : Int} (hb : b ≠ 0) : 0 < Int.gcd t b:=Int.gcd_pos_of_ne_zero_right t hb
theorem znw {t b : Int} (hb : b ≠ 0) : dv t b ≠ 0:=by
 have:=zjA (t:=t) hb
 unfold dv
 split <;> omega
theorem zaO {a d : Int} (h : d ∣ a) (hd : d ≠ 0) : a.fdiv d = a / d:=by
 obtain ⟨k,rfl⟩:=h
 rw [Int.mul_fdiv_cancel_left _ hd,Int.mul_ediv_cancel_left _ hd]
theorem zlw {t b : Int} (hb : b ≠ 0) : t.fdiv (dv t b) = (Rat.divInt t b).num:=by
 have hg:=zjA (t:=t) hb
 have h1 : ((Int.gcd t b : Nat) : Int) ∣ t:=Int.gcd_dvd_left ..
 rw [Rat.num_divInt,Int.gcd_comm b t]
 unfold dv
 by_cases h : b < 0
 . rw [if_pos h,Int.sign_eq_neg_one_of_neg h,zaO (Int.neg_dvd.mpr h1) (by omega),Int.ediv_neg]
   obtain ⟨k,hk⟩:=h1
   have : (-1 : Int) * t = ((Int.gcd t b : Nat) : Int) * (-k):=by rw [Int.neg_one_mul,Int.mul_neg,<- hk]
   rw [this,Int.mul_ediv_cancel_left _ (by omega)]
   have e : t / ((Int.gcd t b : Nat) : Int) = k:=Int.ediv_eq_of_eq_mul_right (by omega) hk
   rw [e]
 . rw [if_neg h,Int.sign_eq_one_of_pos (by omega),Int.one_mul,zaO h1 (by omega)]
theorem zok {t b : Int} (hb : b ≠ 0) : b.fdiv (dv t b) = ((Rat.divInt t b).den : Int):=by
 have hg:=zjA (t:=t) hb
 have h1 : ((Int.gcd t b : Nat) : Int) ∣ b:=Int.gcd_dvd_right ..
 rw [Rat.den_divInt,if_neg hb,Int.gcd_comm b t]
 unfold dv
 by_cases h : b < 0
 . rw [if_pos h,zaO (Int.neg_dvd.mpr h1) (by omega),Int.ediv_neg,Int.natCast_ediv]
   obtain ⟨k,hk⟩:=h1
   have : (b.natAbs : Int) = ((Int.gcd t b : Nat) : Int) * (-k):=by rw [Int.mul_neg,<- hk]; omega
   rw [this,Int.mul_ediv_cancel_left _ (by omega)]
   have e : b / ((Int.gcd t b : Nat) : Int) = k:=Int.ediv_eq_of_eq_mul_right (by omega) hk
   rw [e]
 . rw [if_neg h,zaO h1 (by omega),Int.natCast_ediv]
   have : (b.natAbs : Int) = b:=by omega
   rw [this]
theorem zke {a b : Int} (hb : 0 < b) (ha : 0 <= a) : Int.gcd b (a % b) = Int.gcd a b:=by
 rw [Int.gcd_comm a b]
 have e : a = a % b + b * (a / b):=(Int.emod_add_mul_ediv a b).symm
 conv=>rhs; rw [e]
 rw [Int.gcd_add_mul_left_right]
structure Bd (n : Nat) (x : Int) : Prop where
 lt : x.natAbs < 2 ^ n
theorem Bd.mono {m n : Nat} {x : Int} (h : Bd m x) (e : m <= n) : Bd n x:=⟨Nat.lt_of_lt_of_le h.lt (Nat.pow_le_pow_right (by decide) e)⟩
theorem Bd.mul {m n : Nat} {x y : Int} (h : Bd m x) (k : Bd n y) : Bd (m + n) (x * y):=by
 refine ⟨?_⟩
 rw [Int.natAbs_mul,Nat.pow_add]
 exact Nat.mul_lt_mul'' h.lt k.lt
theorem Bd.add {m n : Nat} {x y : Int} (h : Bd m x) (k : Bd n y) : Bd (max m n + 1) (x + y):=by
 have h1:=(h.mono (Nat.le_max_left m n)).lt
 have h2:=(k.mono (Nat.le_max_right m n)).lt
 refine ⟨?_⟩
 rw [Nat.pow_succ]
 omega
theorem Bd.sub {m n : Nat} {x y : Int} (h : Bd m x) (k : Bd n y) : Bd (max m n + 1) (x - y):=by
 have h1:=(h.mono (Nat.le_max_left m n)).lt
 have h2:=(k.mono (Nat.le_max_right m n)).lt
 refine ⟨?_⟩
 rw [Nat.pow_succ]
 omega
theorem Bd.neg {n : Nat} {x : Int} (h : Bd n x) : Bd n (-x):=⟨by rw [Int.natAbs_neg]; exact h.lt⟩
theorem Bd.le {n : Nat} {x y : Int} (h : Bd n x) (e : y.natAbs <= x.natAbs) : Bd n y:=⟨Nat.lt_of_le_of_lt e h.lt⟩
theorem Bd.log {n : Nat} {x : Int} (h : Bd n x) (hn : 0 < n) : x.natAbs.log2 < n:=by
 by_cases e : x.natAbs = 0
 . rw [e]; exact hn
 . exact (Nat.log2_lt e).mpr h.lt
theorem zr8 (t b : Int) (hb : b ≠ 0) : (Rat.divInt t b).num.natAbs <= t.natAbs:=by
 rw [<- zlw hb]
 have h1 : dv t b ∣ t:=by
   have : ((Int.gcd t b : Nat) : Int) ∣ t:=Int.gcd_dvd_left ..
   unfold dv; split
   . exact Int.neg_dvd.mpr this
   . exact this
 rw [zaO h1 (znw hb)]
 exact Int.natAbs_ediv_le_natAbs t _
theorem zoT (t b : Int) (hb : b ≠ 0) : (Rat.divInt t b).den <= b.natAbs:=by
 rw [Rat.den_divInt,if_neg hb]
 exact Nat.div_le_self _ _
structure Bdr (n : Nat) (x : Rat) : Prop where
 t : Bd n x.num
 b : Bd n (x.den : Int)
theorem Bdr.mono {m n : Nat} {x : Rat} (h : Bdr m x) (e : m <= n) : Bdr n x:=⟨h.t.mono e,h.b.mono e⟩
theorem Bdr.divInt {n : Nat} {t b : Int} (hb : b ≠ 0) (h1 : Bd n t) (h2 : Bd n b) : Bdr n (Rat.divInt t b) :=
 ⟨h1.le (zr8 t b hb),h2.le (by have:=zoT t b hb; simpa using this)⟩
theorem Bd.of128 {m : Int} (h1 : -100000000000000000000000000000000000000 <= m) (h2 : m <= 100000000000000000000000000000000000000) : Bd 128 m:=⟨by
 have e : (2 : Nat) ^ 128 = 340282366920938463463374607431768211456:=by decide
 rw [e]
 omega⟩
theorem zby (x : Rat) : (x.den : Int) ≠ 0:=by have:=x.den_pos; omega
theorem den_pos (x : Rat) : (0 : Int) < (x.den : Int):=by have:=x.den_pos; omega
theorem zjc (x y : Rat) : (x.den : Int) * (y.den : Int) ≠ 0:=Int.mul_ne_zero (zby x) (zby y)
theorem zrh (x y : Rat) : Rat.divInt (x.num * (y.den : Int) + y.num * (x.den : Int)) ((x.den : Int) * (y.den : Int)) = x + y:=by
 rw [<- Int.natCast_mul,Rat.divInt_ofNat,Rat.add_def']
theorem zrb (x y : Rat) : Rat.divInt (x.num * (y.den : Int) - y.num * (x.den : Int)) ((x.den : Int) * (y.den : Int)) = x - y:=by
 rw [<- Int.natCast_mul,Rat.divInt_ofNat,Rat.sub_def']
theorem zrM (x y : Rat) : Rat.divInt (x.num * y.num) ((x.den : Int) * (y.den : Int)) = x * y:=by
 rw [<- Int.natCast_mul,Rat.divInt_ofNat,Rat.mul_def']
theorem zry (x y : Rat) : Rat.divInt (x.num * (y.den : Int)) ((x.den : Int) * y.num) = x / y:=by
 rw [Rat.div_def,Rat.inv_def,<- Rat.divInt_mul_divInt,Rat.num_divInt_den]
theorem zq3 (x y : Rat) : decide (x.num * (y.den : Int) < y.num * (x.den : Int)) = decide (x < y):=by
 rw [Bool.eq_iff_iff,decide_eq_true_eq,decide_eq_true_eq,Rat.lt_iff]
theorem zfJ {y : Rat} (h : y ≠ 0) : y.num ≠ 0:=fun e=>h (Rat.num_eq_zero.mp e)
theorem Bdr.add {m n : Nat} {x y : Rat} (h : Bdr m x) (k : Bdr n y) : Bdr (m + n + 1) (x + y):=by
 rw [<- zrh]
 refine Bdr.divInt (zjc x y) ?_ ((h.b.mul k.b).mono (by omega))
 exact ((h.t.mul k.b).add (k.t.mul h.b)).mono (by omega)
theorem Bdr.sub {m n : Nat} {x y : Rat} (h : Bdr m x) (k : Bdr n y) : Bdr (m + n + 1) (x - y):=by
 rw [<- zrb]
 refine Bdr.divInt (zjc x y) ?_ ((h.b.mul k.b).mono (by omega))
 exact ((h.t.mul k.b).sub (k.t.mul h.b)).mono (by omega)
theorem Bdr.mul {m n : Nat} {x y : Rat} (h : Bdr m x) (k : Bdr n y) : Bdr (m + n) (x * y):=by
 rw [<- zrM]
 exact Bdr.divInt (zjc x y) (h.t.mul k.t) (h.b.mul k.b)
theorem Bdr.div {m n : Nat} {x y : Rat} (h : Bdr m x) (k : Bdr n y) (hy : y ≠ 0) : Bdr (m + n) (x / y):=by
 rw [<- zry]
 exact Bdr.divInt (Int.mul_ne_zero (zby x) (zfJ hy)) (h.t.mul k.b) (h.b.mul k.t)
theorem Bdr.zero : Bdr 1 0:=⟨⟨by decide⟩,⟨by decide⟩⟩
theorem Bdr.one : Bdr 1 1:=⟨⟨by decide⟩,⟨by decide⟩⟩
def shf (a b : Rat) : Nat -> Rat
 | 0=>0
 | n + 1=>a * shf a b n + b
def push (a b : Rat) : Nat -> Rat -> Rat
 | 0,x=>x
 | n + 1,x=>a * push a b n x + b
theorem zdj (a b : Rat) (n : Nat) (x : Rat) : push a b n x = a ^ n * x + shf a b n:=by
 induction n with
 | zero=>simp [push,shf,Rat.add_zero,Rat.pow_zero]
 | succ n ih=>rw [push,ih,shf,Rat.pow_succ]; grind
theorem zo5 (a b : Rat) (m n : Nat) (x : Rat) : push a b (m + n) x = push a b n (push a b m x):=by
 induction n with
 | zero=>rfl
 | succ n ih=>rw [<- Nat.add_assoc,push,push,ih]
theorem Bdr.pow {k : Nat} {a : Rat} (h : Bdr k a) (n : Nat) : Bdr (k * n + 1) (a ^ n):=by
 induction n with
 | zero=>rw [Rat.pow_zero]; exact Bdr.one.mono (by omega)
 | succ n ih=>rw [Rat.pow_succ]; exact (ih.mul h).mono (by rw [Nat.mul_succ]; omega)
theorem Bdr.shf {k : Nat} {a b : Rat} (h : Bdr k a) (hb : Bdr k b) (n : Nat) : Bdr ((2 * k + 1) * n + 1) (shf a b n):=by
 induction n with
 | zero=>exact Bdr.zero.mono (by omega)
 | succ n ih=>exact ((h.mul ih).add hb).mono (by rw [Nat.mul_succ]; omega)
end GM
namespace GM
theorem zap (t : Int) {u : Int} (hu : u ≠ 0) : (Rat.divInt t u) * (u : Rat) = (t : Rat):=by
 rw [Rat.divInt_eq_div]
 exact Rat.div_mul_cancel fun z=>hu (Rat.intCast_eq_zero_iff.mp z)
theorem zbi (x : Rat) : x * ((x.den : Int) : Rat) = (x.num : Rat):=by
 have:=zap x.num (zby x)
 rwa [Rat.num_divInt_den] at this
theorem zbc {t u : Int} {x : Rat} (hu : u ≠ 0) (h : x * (u : Rat) = (t : Rat)) : Rat.divInt t u = x:=by
 have h1:=zap t hu
 have h2 : (Rat.divInt t u - x) * (u : Rat) = 0:=by grind
 have h3 : (u : Rat) ≠ 0:=by
   intro z
   exact hu (Rat.intCast_eq_zero_iff.mp z)
 have:=Rat.mul_eq_zero.mp h2
 grind
theorem ziX (a b : Rat) (t u : Int) (hu : u ≠ 0) : Rat.divInt (a.num * b.den * t + b.num * a.den * u) (u * a.den * b.den) = a * Rat.divInt t u + b:=by
 refine zbc (Int.mul_ne_zero (Int.mul_ne_zero hu (zby a)) (zby b)) ?_
 have h1:=zap t hu
 have h2:=zbi a
 have h3:=zbi b
 simp only [Rat.intCast_mul,Rat.intCast_add]
 grind
theorem znk (a b : Rat) (n : Nat) (x y : Rat) : push a b n y - push a b n x = a ^ n * (y - x):=by
 rw [zdj,zdj]; grind
theorem zbt {a : Rat} (h : 0 < a) (n : Nat) : 0 < a ^ n:=Rat.pow_pos h
theorem zlK {a : Rat} (h : 1 < a) (n : Nat) : 1 < a ^ (n + 1):=by
 induction n with
 | zero=>simpa using h
 | succ n ih =>
   rw [Rat.pow_succ]
   have:=Rat.mul_pos (show 0 < a ^ (n + 1) - 1 by grind) (show 0 < a - 1 by grind)
   grind
theorem zlh {a : Rat} (h0 : 0 < a) (h : a < 1) (n : Nat) : a ^ (n + 1) < 1:=by
 induction n with
 | zero=>simpa using h
 | succ n ih =>
   rw [Rat.pow_succ]
   have:=Rat.mul_pos (show 0 < 1 - a ^ (n + 1) by grind) h0
   grind
theorem one_pow' (n : Nat) : (1 : Rat) ^ n = 1:=by
 induction n with
 | zero=>rfl
 | succ n ih=>rw [Rat.pow_succ,ih,Rat.one_mul]
theorem zeb {u : Int} (h : 0 < u) : (0 : Rat) < (u : Rat):=Rat.intCast_pos.mpr h
theorem zkq {t u : Int} (hu : 0 < u) (ht : 0 < t) : 0 < Rat.divInt t u:=by
 have e:=zap t (show u ≠ 0 by omega)
 have:=zeb ht
 rw [<- e] at this
 exact (Rat.mul_pos_iff_of_pos_right (zeb hu)).mp this
theorem zhD {t u c : Int} (hu : 0 < u) (h : t <= c * u) : Rat.divInt t u <= (c : Rat):=by
 have e:=zap t (show u ≠ 0 by omega)
 refine Rat.le_of_mul_le_mul_right (c:=(u : Rat)) ?_ (zeb hu)
 rw [e,<- Rat.intCast_mul]
 exact Rat.intCast_le_intCast.mpr h
theorem zi9 {t u : Int} (hu : 0 < u) : ((Rat.divInt t u).den : Int) <= u:=by
 have:=zoT t u (by omega)
 omega
theorem zl5 (x : Rat) : Rat.divInt ((x.den : Int) - x.num) x.den = 1 - x:=by
 refine zbc (zby x) ?_
 have:=zbi x
 rw [Rat.intCast_sub]
 grind
theorem zic (x y : Rat) : x.num * (y.den : Int) + y.num * (x.den : Int) < (x.den : Int) * (y.den : Int) ↔ x + y < 1:=by
 have e : (x + y) * (((x.den : Int) * (y.den : Int) : Int) : Rat) = ((x.num * (y.den : Int) + y.num * (x.den : Int) : Int) : Rat):=by
   have h1:=zbi x
   have h2:=zbi y
   simp only [Rat.intCast_mul,Rat.intCast_add]
   grind
 have p : (0 : Rat) < (((x.den : Int) * (y.den : Int) : Int) : Rat):=zeb (Int.mul_pos (den_pos x) (den_pos y))
 constructor
 . intro h
   refine Rat.lt_of_mul_lt_mul_right (c:=(((x.den : Int) * (y.den : Int) : Int) : Rat)) ?_ (Rat.le_of_lt p)
   rw [e,Rat.one_mul]
   exact Rat.intCast_lt_intCast.mpr h
 . intro h
   have:=Rat.mul_lt_mul_of_pos_right h p
   rw [e,Rat.one_mul] at this
   exact Rat.intCast_lt_intCast.mp this
theorem zmZ {x : Rat} {c : Int} (h : x <= (c : Rat)) : x.num <= c * x.den:=by
 have:=(Rat.le_iff x c).mp h
 simpa using this
theorem zr7 {x : Rat} (h : 0 <= x) : 0 <= x.num:=Rat.num_nonneg.mpr h
theorem Bdr.small {x : Rat} {c d : Nat} (h0 : 0 <= x) (hc : x <= ((c : Int) : Rat)) (hd : x.den <= d) (z : c * d < 1024) (hd2 : d < 1024) : Bdr 10 x:=by
 have h1:=zmZ hc
 have h2:=zr7 h0
 have h3 : (c : Int) * (x.den : Int) <= (c : Int) * (d : Int):=Int.mul_le_mul_of_nonneg_left (by omega) (by omega)
 have h4 : (c : Int) * (d : Int) < 1024:=by rw [<- Int.natCast_mul]; omega
 refine ⟨⟨?_⟩,⟨?_⟩⟩
 . show _ < 1024
   omega
 . show _ < 1024
   omega
theorem zlW {x : Rat} {z u : Int} (e : x = Rat.divInt z u) (h1 : 1 <= u) (h2 : u <= 8) (h3 : 1 <= z) (h4 : z <= 4 * u) : 0 < x /\ x <= 4 /\ x.den <= 8:=by
 subst e
 refine ⟨zkq (by omega) (by omega),zhD (c:=4) (by omega) h4,?_⟩
 have:=zi9 (t:=z) (show 0 < u by omega)
 omega
theorem zmm {y : Rat} {r u : Int} (e : y = Rat.divInt r u) (h1 : 1 <= u) (h2 : u <= 12) (h3 : 0 <= r) (h4 : r <= u) : 0 <= y /\ y <= 1 /\ y.den <= 12:=by
 subst e
 refine ⟨Rat.divInt_nonneg h3 (by omega),zhD (c:=1) (by omega) (by omega),?_⟩
 have:=zi9 (t:=r) (show 0 < u by omega)
 omega
theorem zkB (x : Rat) : (1 - x).den <= x.den:=by
 rw [<- zl5]
 have:=zi9 (t:=(x.den : Int) - x.num) (den_pos x)
 omega
theorem ziO {f : Rat -> Rat} {xs : List Rat} {i : Nat} (h : i < xs.length) : (xs.map f).getD i 0 = f (xs.getD i 0):=by
 rw [List.getD_eq_getElem?_getD,List.getD_eq_getElem?_getD,List.getElem?_map,List.getElem?_eq_getElem h]
 rfl
end GM
namespace GM
def zbI (a b : Rat) (n : Nat) (xs : List Rat) (i : Nat) : List Rat:=(xs.map fun x=>push a b n (x + (1 - xs.getD i 0))).set i 0
def zaS (a b : Rat) (ns : List Int) (xs : List Rat) : Nat -> List Rat
 | 0=>xs
 | k + 1=>zbI a b (ns.getD k 0).toNat (zaS a b ns xs k) k
theorem zgR (a b : Rat) (n : Nat) (xs : List Rat) (i : Nat) : (zbI a b n xs i).length = xs.length:=by simp [zbI]
theorem zbs (a b : Rat) (ns : List Int) (xs : List Rat) : ∀ k,(zaS a b ns xs k).length = xs.length
 | 0=>rfl
 | k + 1=>by rw [zaS,zgR,zbs a b ns xs k]
theorem zbQ (a b : Rat) (n : Nat) (xs : List Rat) (i j : Nat) (hj : j < xs.length) : (zbI a b n xs i).getD j 0 = if j = i then 0 else push a b n (xs.getD j 0 + (1 - xs.getD i 0)):=by
 unfold zbI
 rw [List.getD_eq_getElem?_getD,List.getElem?_set]
 by_cases h : i = j
 . subst h
   simp [hj]
 . rw [if_neg h,if_neg (Ne.symm h),List.getElem?_map,List.getElem?_eq_getElem hj]
   simp [List.getD_eq_getElem?_getD,hj]
def Cm (m : Nat) (xs : List Rat) : Prop:=∃ B : Int,0 < B /\ Bd m B /\ ∀ x ∈ xs,∃ t : Int,x = Rat.divInt t B /\ Bd m t
theorem Cm.mono {m n : Nat} {xs : List Rat} (h : Cm m xs) (e : m <= n) : Cm n xs:=by
 obtain ⟨B,h0,h1,h2⟩:=h
 exact ⟨B,h0,h1.mono e,fun x hx=>let ⟨t,e1,e2⟩:=h2 x hx; ⟨t,e1,e2.mono e⟩⟩
theorem Cm.bdr {m : Nat} {xs : List Rat} {x : Rat} (h : Cm m xs) (hx : x ∈ xs) : Bdr m x:=by
 obtain ⟨B,h0,h1,h2⟩:=h
 obtain ⟨t,rfl,ht⟩:=h2 x hx
 exact Bdr.divInt (by omega) ht h1
theorem Cm.pos {m : Nat} {xs : List Rat} (h : Cm m xs) : 1 <= m:=by
 obtain ⟨B,h0,h1,_⟩:=h
 cases m with
 | zero=>have:=h1.lt; simp at this; omega
 | succ m=>omega
theorem Cm.get {m : Nat} {xs : List Rat} (h : Cm m xs) (i : Nat) : Bdr m (xs.getD i 0):=by
 rcases Nat.lt_or_ge i xs.length with z | z
 . rw [List.getD_eq_getElem?_getD,List.getElem?_eq_getElem z]
   exact h.bdr (List.getElem_mem z)
 . rw [List.getD_eq_getElem?_getD,List.getElem?_eq_none z]
   exact Bdr.zero.mono h.pos
theorem ziS {a b : Rat} (ba : Bdr 10 a) (bb : Bdr 10 b) {m : Nat} {t u : Int} (hu : 0 < u) (bt : Bd m t) (bu : Bd m u) : ∀ n : Nat,0 < u * ((a.den : Int) * (b.den : Int)) ^ n /\ Bd (m + 21 * n) (u * ((a.den : Int) * (b.den : Int)) ^ n) /\
   ∃ T : Int,push a b n (Rat.divInt t u) = Rat.divInt T (u * ((a.den : Int) * (b.den : Int)) ^ n) /\ Bd (m + 21 * n) T
 | 0=>⟨by simpa using hu,by simpa using bu,t,by simp [push],by simpa using bt⟩
 | n + 1=>by
   obtain ⟨h1,h2,T,e,hT⟩:=ziS ba bb hu bt bu n
   have eb : u * ((a.den : Int) * (b.den : Int)) ^ (n + 1) = u * ((a.den : Int) * (b.den : Int)) ^ n * (a.den : Int) * (b.den : Int):=by rw [Int.pow_succ,<- Int.mul_assoc,Int.mul_assoc (u * _)]
   rw [eb]
   refine ⟨Int.mul_pos (Int.mul_pos h1 (den_pos a)) (den_pos b),((h2.mul ba.b).mul bb.b).mono (by omega),a.num * (b.den : Int) * T + b.num * (a.den : Int) * (u * ((a.den : Int) * (b.den : Int)) ^ n),?_,(((ba.t.mul bb.b).mul hT).add ((bb.t.mul ba.b).mul h2)).mono (by omega)⟩
   rw [push,e]
   exact (ziX a b T _ (by omega)).symm
theorem Cm.glow {m : Nat} {xs : List Rat} {a b : Rat} (h : Cm m xs) (ba : Bdr 10 a) (bb : Bdr 10 b) (n i : Nat) : Cm (m + 2 + 21 * n) (zbI a b n xs i):=by
 obtain ⟨B,h0,h1,h2⟩:=h
 have hz : ∃ z : Int,xs.getD i 0 = Rat.divInt z B /\ Bd m z:=by
   rcases Nat.lt_or_ge i xs.length with q | q
   . rw [List.getD_eq_getElem?_getD,List.getElem?_eq_getElem q]
     exact h2 _ (List.getElem_mem q)
   . rw [List.getD_eq_getElem?_getD,List.getElem?_eq_none q]
     exact ⟨0,by simp,⟨by simp; exact Nat.two_pow_pos m⟩⟩
 obtain ⟨z,ez,hz⟩:=hz
 have key:=fun (t : Int) (ht : Bd m t)=>ziS ba bb h0 (show Bd (m + 2) (t + B - z) from ((ht.add h1).sub hz).mono (by omega)) (h1.mono (by omega)) n
 obtain ⟨p1,p2,_⟩:=key 0 ⟨by simp; exact Nat.two_pow_pos m⟩
 refine ⟨_,p1,p2,fun x hx=>?_⟩
 have hx' : x = 0 \/ ∃ y ∈ xs,x = push a b n (y + (1 - xs.getD i 0)):=by
   unfold zbI at hx
   rcases List.mem_or_eq_of_mem_set hx with q | q
   . obtain ⟨y,hy,rfl⟩:=List.mem_map.mp q
     exact .inr ⟨y,hy,rfl⟩
   . exact .inl q
 rcases hx' with rfl | ⟨y,hy,rfl⟩
 . exact ⟨0,by simp,⟨by simp; exact Nat.two_pow_pos _⟩⟩
 . obtain ⟨t,rfl,ht⟩:=h2 y hy
   obtain ⟨_,_,T,e,hT⟩:=key t ht
   have e2 : Rat.divInt t B + (1 - xs.getD i 0) = Rat.divInt (t + B - z) B:=by
     rw [ez]
     symm
     refine zbc (by omega) ?_
     have q1:=zap t (show B ≠ 0 by omega)
     have q2:=zap z (show B ≠ 0 by omega)
     have q3 : ((t + B - z : Int) : Rat) = (t : Rat) + (B : Rat) - (z : Rat):=by push_cast; rfl
     rw [q3,<- q1,<- q2]
     grind
   rw [e2]
   exact ⟨T,e,hT⟩
theorem Cm.snoc {m : Nat} {xs : List Rat} (h : Cm m xs) : Cm m (xs ++ [0]):=by
 obtain ⟨B,h0,h1,h2⟩:=h
 refine ⟨B,h0,h1,fun x hx=>?_⟩
 rcases List.mem_append.mp hx with q | q
 . exact h2 x q
 . rw [List.mem_singleton.mp q]
   exact ⟨0,by simp,⟨by simp; exact Nat.two_pow_pos m⟩⟩
def upTo (ns : List Int) (k : Nat) : Nat:=((ns.take k).map Int.toNat).sum
theorem ze0 {ns : List Int} {k : Nat} (h : k < ns.length) : upTo ns (k + 1) = upTo ns k + (ns.getD k 0).toNat:=by
 unfold upTo
 rw [List.take_add_one,List.getElem?_eq_getElem h,List.getD_eq_getElem?_getD,List.getElem?_eq_getElem h,List.map_append,List.sum_append]
 show _ + ([ns[k].toNat] : List Nat).sum = _
 rw [List.sum_singleton]
 rfl
theorem Cm.rows {m : Nat} {xs : List Rat} {a b : Rat} {ns : List Int} (h : Cm m xs) (ba : Bdr 10 a) (bb : Bdr 10 b) : ∀ k,k <= ns.length -> Cm (m + 2 * k + 21 * upTo ns k) (zaS a b ns xs k)
 | 0,_=>h.mono (by omega)
 | k + 1,hk=>by
   have:=(Cm.rows h ba bb (ns:=ns) k (by omega)).glow ba bb (ns.getD k 0).toNat k
   rw [zaS]
   refine this.mono ?_
   rw [ze0 (by omega)]
   omega
theorem zhU (a : Rat) (m : Nat) : ∀ n : Nat,a ^ (m + n) = a ^ m * a ^ n
 | 0=>by rw [Nat.add_zero,Rat.pow_zero,Rat.mul_one]
 | n + 1=>by rw [<- Nat.add_assoc,Rat.pow_succ,zhU a m n,Rat.pow_succ,Rat.mul_assoc]
theorem zno (a b : Rat) (n : Nat) (xs ys : List Rat) (i j : Nat) (hx : xs.length = ys.length) (hj : j < xs.length) :
   (zbI a b n xs i).getD j 0 - (zbI a b n ys i).getD j 0 = a ^ n * ((xs.getD j 0 - ys.getD j 0) - (xs.getD i 0 - ys.getD i 0)):=by
 rw [zbQ a b n xs i j hj,zbQ a b n ys i j (by omega)]
 by_cases h : j = i
 . subst h
   rw [if_pos rfl,if_pos rfl]
   grind
 . rw [if_neg h,if_neg h,znk]
   grind
theorem zgp (a b : Rat) (ns : List Int) (xs ys : List Rat) (hx : xs.length = ys.length) (hn : ns.length = xs.length) (l : Nat) (hl : l + 1 = xs.length) (h0 : xs.getD l 0 = ys.getD l 0) :
   ∀ k,k <= ns.length -> ∀ j,j < xs.length -> (zaS a b ns xs k).getD j 0 - (zaS a b ns ys k).getD j 0 = a ^ upTo ns k * ((xs.getD j 0 - ys.getD j 0) - (if k = 0 then 0 else xs.getD (k - 1) 0 - ys.getD (k - 1) 0))
 | 0,_,j,hj=>by simp [zaS,upTo]; grind
 | k + 1,hk,j,hj=>by
   rw [zaS,zaS,zno _ _ _ _ _ _ _ (by rw [zbs,zbs,hx]) (by rw [zbs]; exact hj),zgp a b ns xs ys hx hn l hl h0 k (by omega) j hj,zgp a b ns xs ys hx hn l hl h0 k (by omega) k (by omega),ze0 (by omega),zhU]
   simp only [Nat.add_sub_cancel]
   rw [if_neg (show ¬ k + 1 = 0 by omega)]
   grind
def zom (a b : Rat) (n : Nat) (xs : List Rat) : List Rat:=(xs.tail.map fun y=>push a b n (y + (1 - xs.headD 0))) ++ [0]
def turned (a b : Rat) (ns : List Int) (xs : List Rat) : Nat -> List Rat
 | 0=>xs
 | k + 1=>zom a b (ns.getD k 0).toNat (turned a b ns xs k)
theorem zgf (a b : Rat) (ns : List Int) (xs : List Rat) : ∀ k,k <= xs.length -> turned a b ns xs k = (zaS a b ns xs k).drop k ++ (zaS a b ns xs k).take k
 | 0,_=>by simp [turned,zaS]
 | k + 1,hk=>by
   have hl : (zaS a b ns xs k).length = xs.length:=zbs a b ns xs k
   have hk' : k < (zaS a b ns xs k).length:=by omega
   rw [turned,zgf a b ns xs k (by omega),zaS]
   generalize zaS a b ns xs k = r at *
   generalize (ns.getD k 0).toNat = n
   have e1 : r.drop k = r[k] :: r.drop (k + 1):=List.drop_eq_getElem_cons hk'
   have e2 : r.getD k 0 = r[k]:=by rw [List.getD_eq_getElem?_getD,List.getElem?_eq_getElem hk']; rfl
   unfold zom zbI
   rw [e1,e2,List.cons_append,List.tail_cons,List.headD_cons,List.drop_set_of_lt (by omega),List.map_append,List.map_drop,List.append_assoc]
   congr 1
   have hm : k < (r.map fun x=>push a b n (x + (1 - r[k]))).length:=by rw [List.length_map]; exact hk'
   rw [List.map_take]
   generalize (r.map fun x=>push a b n (x + (1 - r[k]))) = s at hm ⊢
   rw [List.take_set,List.take_add_one,List.getElem?_eq_getElem hm]
   show _ = (s.take k ++ [s[k]]).set k 0
   have hlk : (s.take k).length = k:=by rw [List.length_take]; omega
   rw [List.set_append_right _ _ (by omega),hlk,Nat.sub_self]
   rfl
theorem zhu (a b : Rat) (ns : List Int) (xs : List Rat) (h : ns.length = xs.length) : turned a b ns xs ns.length = zaS a b ns xs ns.length:=by
 rw [zgf a b ns xs _ (by omega)]
 have hl : (zaS a b ns xs ns.length).length = xs.length:=zbs a b ns xs _
 rw [List.drop_eq_nil_of_le (by omega),List.take_of_length_le (by omega),List.nil_append]
def zfU (xs : List Rat) : Nat -> Int
 | 0=>1
 | k + 1=>zfU xs k * ((xs.getD k 0).den : Int)
theorem zgB (xs : List Rat) : ∀ k,0 < zfU xs k
 | 0=>by show (0 : Int) < 1; decide
 | k + 1=>Int.mul_pos (zgB xs k) (den_pos _)
theorem zgo (xs : List Rat) : ∀ k j,j < k -> ((xs.getD j 0).den : Int) ∣ zfU xs k
 | 0,j,h=>by omega
 | k + 1,j,h=>by
   rcases Nat.lt_or_ge j k with z | z
   . exact Int.dvd_trans (zgo xs k j z) (Int.dvd_mul_right ..)
   . have : j = k:=by omega
     subst this
     exact Int.dvd_mul_left ..
theorem zhm {xs : List Rat} {m : Nat} (h : ∀ i,Bdr m (xs.getD i 0)) : ∀ k,Bd (m * k + 1) (zfU xs k)
 | 0=>⟨by show (1 : Int).natAbs < _; simp⟩
 | k + 1=>by
   rw [zfU]
   refine ((zhm h k).mul (h k).b).mono ?_
   rw [Nat.mul_add]; omega
theorem zh8 {x : Rat} {B : Int} (hB : 0 < B) (h : (x.den : Int) ∣ B) : Rat.divInt (x.num * B.fdiv x.den) B = x:=by
 obtain ⟨c,rfl⟩:=h
 rw [zaO (Int.dvd_mul_right ..) (zby x),Int.mul_ediv_cancel_left _ (zby x)]
 refine zbc (by omega) ?_
 have:=zbi x
 rw [Rat.intCast_mul,Rat.intCast_mul,<- this]
 grind
theorem zjJ {B d : Int} {m : Nat} (hd : 0 < d) (hB : 0 < B) (h : Bd m B) : Bd m (B.fdiv d):=by
 refine h.le ?_
 rw [Int.fdiv_eq_ediv_of_nonneg _ (by omega)]
 have h1 : 0 <= B / d:=Int.ediv_nonneg (by omega) (by omega)
 have h2 : B / d <= B:=Int.ediv_le_self _ (by omega)
 omega
def zcc (B : Int) (ts : List Int) : List Rat:=ts.map fun t=>Rat.divInt t B
theorem zk8 {B x : Int} {ts : List Int} (hB : 0 < B) : zcc B (ts.map fun t=>t + (B - x)) = (zcc B ts).map fun y=>y + (1 - Rat.divInt x B):=by
 unfold zcc
 rw [List.map_map,List.map_map]
 refine List.map_congr_left fun t _=>?_
 show Rat.divInt (t + (B - x)) B = Rat.divInt t B + (1 - Rat.divInt x B)
 refine zbc (by omega) ?_
 have q1:=zap t (show B ≠ 0 by omega)
 have q2:=zap x (show B ≠ 0 by omega)
 have q3 : ((t + (B - x) : Int) : Rat) = (t : Rat) + ((B : Rat) - (x : Rat)):=by push_cast; rfl
 rw [q3,<- q1,<- q2]
 grind
theorem zlc {a b : Rat} {B : Int} {ts : List Int} (hB : 0 < B) : zcc (B * a.den * b.den) (ts.map fun t=>a.num * b.den * t + b.num * a.den * B) = (zcc B ts).map fun y=>a * y + b:=by
 unfold zcc
 rw [List.map_map,List.map_map]
 refine List.map_congr_left fun t _=>?_
 exact ziX a b t B (by omega)
theorem zht {B : Int} (ts : List Int) : zcc B (ts ++ [0]) = zcc B ts ++ [0]:=by
 unfold zcc
 rw [List.map_append]
 simp
theorem zkz (a b : Rat) (ns : List Int) (xs : List Rat) {k : Nat} (hk : k < xs.length) : (turned a b ns xs k).headD 0 = (zaS a b ns xs k).getD k 0:=by
 have hl:=zbs a b ns xs k
 rw [zgf a b ns xs k (by omega),List.drop_eq_getElem_cons (by omega),List.getD_eq_getElem?_getD,List.getElem?_eq_getElem (by omega)]
 rfl
theorem zhJ (a b : Rat) (ns : List Int) (xs : List Rat) (hx : 0 < xs.length) : ∀ k,(turned a b ns xs k).length = xs.length
 | 0=>rfl
 | k + 1=>by
   have:=zhJ a b ns xs hx k
   rw [turned,zom,List.length_append,List.length_map,List.length_tail,this]
   simp; omega
end GM
namespace GM
theorem znx (x y : Rat) : ((x * y).num = x.num / (x.num.natAbs.gcd y.den : Nat) * (y.num / (y.num.natAbs.gcd x.den : Nat))) /\ ((x * y).den = x.den / (y.num.natAbs.gcd x.den) * (y.den / (x.num.natAbs.gcd y.den))):=by
 show (Rat.mul x y).num = _ /\ (Rat.mul x y).den = _
 unfold Rat.mul
 simp only [Int.divExact_eq_ediv,Nat.divExact_eq_div]
 constructor <;> trivial
theorem zn8 (x y : Rat) : ((x + y).num = (x.num * ((y.den / x.den.gcd y.den : Nat) : Int) + y.num * ((x.den / x.den.gcd y.den : Nat) : Int)) / (((x.num * ((y.den / x.den.gcd y.den : Nat) : Int) + y.num * ((x.den / x.den.gcd y.den : Nat) : Int)).natAbs.gcd (x.den.gcd y.den) : Nat) : Int)) /\ ((x + y).den = x.den / (x.den.gcd y.den) * (y.den / ((x.num * ((y.den / x.den.gcd y.den : Nat) : Int) + y.num * ((x.den / x.den.gcd y.den : Nat) : Int)).natAbs.gcd (x.den.gcd y.den)))):=by
 show (Rat.add x y).num = _ /\ (Rat.add x y).den = _
 unfold Rat.add
 by_cases hg : x.den.gcd y.den = 1
 . simp [hg]
 . simp only [hg,dite_false,Rat.maybeNormalize_eq]
   refine ⟨by simp,?_⟩
   simp
   have : (x.num * ((y.den / x.den.gcd y.den : Nat) : Int) + y.num * ((x.den / x.den.gcd y.den : Nat) : Int)).natAbs.gcd (x.den.gcd y.den) ∣ y.den:=Nat.dvd_trans (Nat.gcd_dvd_right _ _) (Nat.gcd_dvd_right _ _)
   simp at this
   rw [Nat.mul_div_assoc _ this]
def shd (x y : Rat) : Int:=((Int.gcd (x.den : Int) (y.den : Int) : Nat) : Int)
def stp (x y : Rat) : Int:=x.num * (y.den : Int).fdiv (shd x y) + y.num * (x.den : Int).fdiv (shd x y)
def sdv (x y : Rat) : Int:=((Int.gcd (stp x y) (shd x y) : Nat) : Int)
theorem zhc (x y : Rat) : 0 < shd x y:=by
 have : 0 < Int.gcd (x.den : Int) (y.den : Int):=Int.gcd_pos_of_ne_zero_left _ (by have:=x.den_pos; omega)
 unfold shd; omega
theorem zjx (x y : Rat) : 0 < sdv x y:=by
 have : 0 < Int.gcd (stp x y) (shd x y):=Int.gcd_pos_of_ne_zero_right _ (by have:=zhc x y; omega)
 unfold sdv; omega
theorem zk5 (x y : Rat) : shd x y = ((x.den.gcd y.den : Nat) : Int):=by simp [shd,Int.gcd]
theorem zhV (x y : Rat) : shd x y ∣ (x.den : Int):=Int.gcd_dvd_left ..
theorem zjb (x y : Rat) : shd x y ∣ (y.den : Int):=Int.gcd_dvd_right ..
theorem zra (x y : Rat) : sdv x y ∣ stp x y:=Int.gcd_dvd_left ..
theorem zlN (x y : Rat) : sdv x y ∣ shd x y:=Int.gcd_dvd_right ..
theorem znF (x y : Rat) : stp x y = x.num * ((y.den / x.den.gcd y.den : Nat) : Int) + y.num * ((x.den / x.den.gcd y.den : Nat) : Int):=by
 have h:=zhc x y
 rw [stp,zaO (zjb x y) (by omega),zaO (zhV x y) (by omega),zk5,Int.natCast_ediv,Int.natCast_ediv]
theorem zob (x y : Rat) : sdv x y = (((x.num * ((y.den / x.den.gcd y.den : Nat) : Int) + y.num * ((x.den / x.den.gcd y.den : Nat) : Int)).natAbs.gcd (x.den.gcd y.den) : Nat) : Int):=by
 rw [sdv,znF,zk5]; simp [Int.gcd]
theorem zpj (x y : Rat) : (stp x y).fdiv (sdv x y) = (x + y).num:=by
 have h:=zjx x y
 rw [zaO (zra x y) (by omega),(zn8 x y).1,zob,znF]
theorem zpS (x y : Rat) : (x.den : Int).fdiv (shd x y) * (y.den : Int).fdiv (sdv x y) = ((x + y).den : Int):=by
 have h:=zjx x y
 have h2:=zhc x y
 rw [zaO (Int.dvd_trans (zlN x y) (zjb x y)) (by omega),zaO (zhV x y) (by omega),(zn8 x y).2,zob,zk5]
 simp only [Int.natCast_mul,Int.natCast_ediv]
def crs (x y : Rat) : Int:=((Int.gcd x.num (y.den : Int) : Nat) : Int)
theorem zeX (x y : Rat) : 0 < crs x y:=by
 have : 0 < Int.gcd x.num (y.den : Int):=Int.gcd_pos_of_ne_zero_right _ (by have:=y.den_pos; omega)
 unfold crs; omega
theorem zjs (x y : Rat) : crs x y ∣ x.num:=Int.gcd_dvd_left ..
theorem zgh (x y : Rat) : crs x y ∣ (y.den : Int):=Int.gcd_dvd_right ..
theorem zjF (x y : Rat) : crs x y = ((x.num.natAbs.gcd y.den : Nat) : Int):=by simp [crs,Int.gcd]
theorem zqE (x y : Rat) : x.num.fdiv (crs x y) * y.num.fdiv (crs y x) = (x * y).num:=by
 have h:=zeX x y
 have h2:=zeX y x
 rw [zaO (zjs x y) (by omega),zaO (zjs y x) (by omega),(znx x y).1,zjF,zjF]
theorem zqt (x y : Rat) : (x.den : Int).fdiv (crs y x) * (y.den : Int).fdiv (crs x y) = ((x * y).den : Int):=by
 have h:=zeX x y
 have h2:=zeX y x
 rw [zaO (zgh x y) (by omega),zaO (zgh y x) (by omega),(znx x y).2,zjF,zjF]
 simp only [Int.natCast_mul,Int.natCast_ediv]
theorem zem {n : Nat} {a d : Int} (h : Bd n a) (hd : d ∣ a) (hp : 0 < d) : Bd n (a.fdiv d):=by
 rw [zaO hd (by omega)]
 exact h.le (Int.natAbs_ediv_le_natAbs a d)
theorem zhK {n : Nat} {a d : Int} (h : Bd n a) (hd : d ∣ a) (ha : 0 < a) : Bd n d :=
 h.le (Nat.le_of_dvd (by omega) (Int.natAbs_dvd_natAbs.mpr hd))
theorem zjR (t b : Int) : Int.gcd (if t < 0 then -t else t) b = Int.gcd t b:=by split <;> simp
theorem zpV {n : Nat} {y : Rat} (h : Bdr n y) : Bdr n (-y):=⟨by simpa using h.t.neg,by simpa using h.b⟩
theorem zkY (x y : Rat) : x + -y = x - y:=(Rat.sub_eq_add_neg x y).symm
theorem zdR {y : Rat} (h : 0 < y.num) : (y⁻¹).num = (y.den : Int) /\ ((y⁻¹).den : Int) = y.num:=by
 have : ¬ y.num < 0:=by omega
 constructor
 . rw [Rat.num_inv,Int.sign_eq_one_of_pos h,Int.one_mul]
 . rw [Rat.den_inv]; split <;> omega
theorem zdD {y : Rat} (h : y.num < 0) : (y⁻¹).num = -(y.den : Int) /\ ((y⁻¹).den : Int) = -y.num:=by
 constructor
 . rw [Rat.num_inv,Int.sign_eq_neg_one_of_neg h,Int.neg_one_mul]
 . rw [Rat.den_inv]; split <;> omega
theorem zlX {n : Nat} {y : Rat} (h : Bdr n y) (hy : y ≠ 0) : Bdr n y⁻¹:=by
 have:=zfJ hy
 by_cases p : 0 < y.num
 . exact ⟨by rw [(zdR p).1]; exact h.b,by rw [(zdR p).2]; exact h.t⟩
 . have p : y.num < 0:=by omega
   exact ⟨by rw [(zdD p).1]; exact h.b.neg,by rw [(zdD p).2]; exact h.t.neg⟩
end GM
namespace GM
theorem zd8 {α : Type} {xs : List α} {d : α} {i : Nat} (h : i < xs.length) : xs.getD i d ∈ xs:=by
 rw [List.getD_eq_getElem?_getD,List.getElem?_eq_getElem h]
 exact List.getElem_mem h
structure zs1 (x : Rat) : Prop where
 nn : 0 <= x
 lt : x < 1
 den : x.den <= 60
def mx (m : Rat) (l : List Rat) : Rat:=l.foldl (fun m x=>if m < x then x else m) m
def zpk (xs : List Rat) : Rat:=mx (xs.getD 0 0) xs
end GM
namespace GM
def zqU (ps : List Rat) (left : List Nat) : List Nat:=left.filter fun w=>!decide (ps.getD w 0 < 1)
def zjd (left wave : List Nat) : List Nat:=left.filter fun w=>!decide (w ∈ wave)
def zoO (f g : Rat) (ps : List Rat) (l : List Nat) : List Rat:=l.foldl (fun ps w=>ps.set w (f * ps.getD w 0 + g)) ps
def zjG (a b : Rat) : Nat -> List Rat -> List Nat -> List (List Nat) × (List Nat × List Rat)
 | 0,ps,left=>([],left,ps)
 | n + 1,ps,left=>match zqU ps left with
   | []=>([],left,ps)
   | w :: ws=>((w :: ws) :: (zjG a b n (zoO (a ^ (w :: ws).length) (shf a b (w :: ws).length) ps (zjd left (w :: ws))) (zjd left (w :: ws))).1,(zjG a b n (zoO (a ^ (w :: ws).length) (shf a b (w :: ws).length) ps (zjd left (w :: ws))) (zjd left (w :: ws))).2)
def zrG (left : List Nat) (ps : List Rat) : List Rat:=(List.range ps.length).map fun i=>if i ∈ left then ps.getD i 0 else 0
def zsF (xs : List Rat) : List Rat:=xs.map (· + (1 - zpk xs))
def zot (a b : Rat) (xs : List Rat) : List (List Nat) × (List Nat × List Rat):=zjG a b xs.length (zsF xs) (List.range xs.length)
def zm8 (a b : Rat) (xs : List Rat) : List (List Nat):=(zot a b xs).1
def zrn (a b : Rat) (xs : List Rat) : List Rat:=zrG (zot a b xs).2.1 (zot a b xs).2.2
theorem zkD {ps : List Rat} {w j : Nat} {y : Rat} (h : w ≠ j) : (ps.set w y).getD j 0 = ps.getD j 0:=by
 rw [List.getD_eq_getElem?_getD,List.getElem?_set,if_neg h,List.getD_eq_getElem?_getD]
theorem zeR {ps : List Rat} {w : Nat} {y : Rat} (h : w < ps.length) : (ps.set w y).getD w 0 = y:=by
 rw [List.getD_eq_getElem?_getD,List.getElem?_set,if_pos rfl,if_pos h]; rfl
theorem zos {ps : List Rat} {left : List Nat} {n : Nat} (h : ∀ w ∈ left,w < n) : ∀ w ∈ zqU ps left,w < n:=fun w hw=>h w (List.mem_filter.mp hw).1
theorem Cm.get_of {m : Nat} {ps : List Rat} {B : Int} (h0 : 0 < B) (h1 : Bd m B) (h : ∀ j,j < ps.length -> ∃ t : Int,ps.getD j 0 = Rat.divInt t B /\ Bd m t) : ∀ x ∈ ps,∃ t : Int,x = Rat.divInt t B /\ Bd m t:=fun x hx=>by
 obtain ⟨j,hj,e⟩:=List.getElem_of_mem hx
 have:=h j hj
 rw [List.getD_eq_getElem?_getD,List.getElem?_eq_getElem hj] at this
 rw [<- e]; exact this
theorem Cm.of_bdr {k : Nat} {xs : List Rat} (h : ∀ i,Bdr k (xs.getD i 0)) : Cm (k * xs.length + 1 + k) xs:=by
 have h0:=zgB xs xs.length
 have h1:=zhm h xs.length
 refine ⟨zfU xs xs.length,h0,h1.mono (by omega),Cm.get_of h0 (h1.mono (by omega)) fun j hj=>?_⟩
 exact ⟨_,(zh8 h0 (zgo xs _ j hj)).symm,((h j).t.mul (zjJ (den_pos _) h0 h1)).mono (by omega)⟩
def zoo (a b : Rat) (xs : List Rat) : Nat -> List Rat
 | 0=>xs
 | k + 1=>zrn a b (zoo a b xs k)
def zoV (a b : Rat) (xs : List Rat) : Nat -> Rat
 | 0=>0
 | k + 1=>zoV a b xs k + (1 - zpk (zoo a b xs k))
end GM
namespace GM
structure zsV (l : List Rat) : Prop where
 pw : l.Pairwise (· > ·)
 nn : ∀ y ∈ l,0 <= y
structure zov (xs row : List Rat) (fl : Nat -> Nat) : Prop where
 at' : ∀ w,w < xs.length -> xs.getD w 0 = row.getD (fl w) 0
 lt : ∀ w,w < xs.length -> fl w < row.length
def zs8 (n : Nat) (fl : Nat -> Nat) (c : Nat) : List Nat:=(List.range n).filter fun w=>decide (fl w = c)
end GM
namespace GM
structure ztl (xs row : List Rat) (fl : Nat -> Nat) (ns : List Int) : Prop where
 pl : zov xs row fl
 fall : zsV row
 one : row.getD 0 0 < 1
 len : ns.length = row.length
 some : ∀ c,c < row.length -> ∃ w,w < xs.length /\ fl w = c
 size : ∀ c,c < row.length -> (ns.getD c 0).toNat = (zs8 xs.length fl c).length
end GM
namespace GM
def zmx (xs : List Rat) (v : Rat) : List Nat:=(List.range xs.length).filter fun w=>decide (xs.getD w 0 = v)
def zj7 : Nat -> List Rat -> List Rat
 | 0,_=>[]
 | _ + 1,[]=>[]
 | n + 1,x :: l=>zpk (x :: l) :: zj7 n ((x :: l).filter fun y=>!decide (y = zpk (x :: l)))
def zb2 (xs : List Rat) : List Rat:=zj7 xs.length xs
end GM
namespace GM
def zp3 (xs : List Rat) (w : Nat) : Nat:=(zb2 xs).idxOf (xs.getD w 0)
def zg8 (xs : List Rat) : List Int:=(zb2 xs).map fun v=>((zmx xs v).length : Int)
end GM
namespace GM
def zq0 (a b : Rat) (ns : List Int) (row : List Rat) : Nat -> Rat
 | 0=>0
 | k + 1=>zq0 a b ns row k + (1 - (zaS a b ns row k).getD k 0)
end GM
namespace GM
structure zte (xs : List Rat) : Prop where
 nn : ∀ x ∈ xs,0 <= x
 lt : ∀ x ∈ xs,x < 1
structure ztg (a b : Rat) (xs : List Rat) : Prop where
 waves : ∀ t,t < (zb2 xs).length -> zm8 a b (zoo a b xs t) = [zmx xs ((zb2 xs).getD t 0)]
 vals : zb2 (zoo a b xs (zb2 xs).length) = zaS a b (zg8 xs) (zb2 xs) (zb2 xs).length
 sizes : zg8 (zoo a b xs (zb2 xs).length) = zg8 xs
 hour : zoV a b xs (zb2 xs).length = zq0 a b (zg8 xs) (zb2 xs) (zb2 xs).length
end GM
namespace GM
def zkI : List Int -> List Rat -> List Rat
 | n :: ns,x :: xs=>List.replicate n.toNat x ++ zkI ns xs
 | _,_=>[]
structure ztf (zs : List Rat) (ns : List Int) (row : List Rat) : Prop where
 perm : zs.Perm (zkI ns row)
 len : ns.length = row.length
 pos : ∀ n ∈ ns,1 <= n
 fall : row.Pairwise (· > ·)
end GM
set_option linter.all false
namespace GM
def seg (n : Nat) (fl : Nat -> Nat) (s t : Nat) : List Nat:=(List.range n).filter fun w=>decide (s <= fl w) && decide (fl w < t)
inductive zqd (n : Nat) (fl : Nat -> Nat) : Nat -> List (List Nat) -> Nat -> Prop
 | nil (t : Nat) : zqd n fl t [] t
 | cons {t u v : Nat} {ws : List (List Nat)} : t < u -> zqd n fl u ws v -> zqd n fl t (seg n fl t u :: ws) v
theorem zpR {row : List Rat} (F : row.Pairwise (· > ·)) {c d : Nat} (h : c < d) (hd : d < row.length) : row.getD d 0 < row.getD c 0:=by
 have:=List.pairwise_iff_getElem.mp F c d (by omega) hd h
 rw [List.getD_eq_getElem?_getD,List.getElem?_eq_getElem hd,List.getD_eq_getElem?_getD,List.getElem?_eq_getElem (by omega)]
 exact this
structure zs7 (xs ys : List Rat) (waves : List (List Nat)) (v : Nat) : Prop where
 v1 : 1 <= v
 vm : v <= (zb2 xs).length
 first : ∃ ws,waves = seg xs.length (zp3 xs) 0 1 :: ws /\ zqd xs.length (zp3 xs) 1 ws v
 vals : ∃ (A B : Rat),0 < A /\ zb2 ys = ((zb2 xs).drop v).map (fun x=>A * x + B) ++ [0] /\ (∀ x ∈ (zb2 xs).drop v,0 < A * x + B)
 at' : zov ys (zb2 ys) (fun w=>if zp3 xs w < v then (zb2 xs).length - v else zp3 xs w - v)
 len : ys.length = xs.length
end GM
namespace GM
theorem zi6 (F s : Rat) : ∀ n : Nat,shf F s n = shf F 1 n * s
 | 0=>by show (0 : Rat) = 0 * s; rw [Rat.zero_mul]
 | n + 1=>by
   show F * shf F s n + s = (F * shf F 1 n + 1) * s
   rw [zi6 F s n]
   grind
theorem zkh {k : Nat} {F : Rat} (h : Bdr k F) : ∀ i : Nat,∃ T : Int,shf F 1 i = Rat.divInt T ((F.den : Int) ^ i) /\ Bd ((k + 1) * i + 1) T /\ Bd (k * i + 1) ((F.den : Int) ^ i)
 | 0=>⟨0,by simp [shf],⟨by simp⟩,⟨by simp⟩⟩
 | i + 1=>by
   obtain ⟨T,e,bT,bd⟩:=zkh h i
   have hd : (F.den : Int) ^ i ≠ 0:=Int.pow_ne_zero (zby F)
   have hd1 : (F.den : Int) ^ (i + 1) ≠ 0:=Int.pow_ne_zero (zby F)
   have ed : (F.den : Int) ^ (i + 1) = (F.den : Int) ^ i * (F.den : Int):=Int.pow_succ ..
   have bd1 : Bd (k * (i + 1) + 1) ((F.den : Int) ^ (i + 1)):=by
     rw [ed]; exact (bd.mul h.b).mono (by rw [Nat.mul_succ]; omega)
   refine ⟨F.num * T + (F.den : Int) ^ (i + 1),?_,?_,bd1⟩
   . symm
     refine zbc hd1 ?_
     show (F * shf F 1 i + 1) * _ = _
     rw [e]
     have k1:=zap T hd
     have k2:=zbi F
     have e1 : ((F.num * T + (F.den : Int) ^ (i + 1) : Int) : Rat) = (F.num : Rat) * (T : Rat) + (((F.den : Int) ^ (i + 1) : Int) : Rat):=by
       rw [Rat.intCast_add,Rat.intCast_mul]
     rw [e1,<- k1,<- k2,ed,Rat.intCast_mul]
     generalize (((F.den : Int) ^ i : Int) : Rat) = D
     generalize ((F.den : Int) : Rat) = d
     generalize Rat.divInt T ((F.den : Int) ^ i) = y
     grind
   . have h1 : (k + 1) * (i + 1) = (k + 1) * i + (k + 1):=Nat.mul_succ ..
     have h2 : k * (i + 1) <= (k + 1) * i + k:=by rw [Nat.mul_succ]; have:=Nat.mul_le_mul_right i (show k <= k + 1 by omega); omega
     exact ((h.t.mul bT).add bd1).mono (by omega)
theorem zjg {k : Nat} {F : Rat} (h : Bdr k F) (i : Nat) : Bdr ((k + 1) * i + 1) (shf F 1 i):=by
 obtain ⟨T,e,bT,bd⟩:=zkh h i
 rw [e]
 exact Bdr.divInt (Int.pow_ne_zero (zby F)) bT (bd.mono (by have:=Nat.mul_le_mul_right i (show k <= k + 1 by omega); omega))
def zfB (F s : Rat) (n : Nat) (x : Rat) : Rat:=F ^ n * x + shf F 1 n * s
theorem zcY (F s : Rat) (n : Nat) (x : Rat) : zfB F s n x = push F s n x:=by
 unfold zfB
 rw [zdj,<- zi6]
theorem zoZ (F s : Rat) (m n : Nat) (x : Rat) : zfB F s (m + n) x = zfB F s n (zfB F s m x):=by
 rw [zcY,zcY,zcY,zo5]
theorem zmU (F s x : Rat) : zfB F s 0 x = x:=by rw [zcY]; rfl
theorem zhX (F s x : Rat) : zfB F s 1 x = F * x + s:=by rw [zcY]; rfl
theorem zkw {F s r : Rat} (h : r * (1 - F) = s) : ∀ k : Nat,shf F s k = r - F ^ k * r
 | 0=>by rw [Rat.pow_zero,Rat.one_mul]; show (0 : Rat) = r - r; grind
 | k + 1=>by
   show F * shf F s k + s = _
   rw [zkw h k,Rat.pow_succ]
   grind
theorem zku {F s r : Rat} (h : r * (1 - F) = s) (n : Nat) (x : Rat) : zfB F s n x = r + F ^ n * (x - r):=by
 unfold zfB
 rw [<- zi6,zkw h]
 grind
theorem zoA {k m j : Nat} {F s x : Rat} (bF : Bdr k F) (bs : Bdr j s) (bx : Bdr m x) (n : Nat) : Bdr ((k * n + 1 + m) + ((k + 1) * n + 1 + j) + 1) (zfB F s n x):=((bF.pow n).mul bx).add ((zjg bF n).mul bs)
end GM
namespace GM
def znq (c : Rat) (xs ys : List Rat) : List Rat:=List.zipWith (fun x y=>x + c * (y - x)) xs ys
theorem zjI {c : Rat} {xs ys : List Rat} (h : xs.length = ys.length) : (znq c xs ys).length = xs.length:=by unfold znq; rw [List.length_zipWith]; omega
theorem zi1 {c : Rat} {xs ys : List Rat} (h : xs.length = ys.length) {i : Nat} (hi : i < xs.length) : (znq c xs ys).getD i 0 = xs.getD i 0 + c * (ys.getD i 0 - xs.getD i 0):=by
 unfold znq
 rw [List.getD_eq_getElem?_getD,List.getElem?_eq_getElem (by rw [List.length_zipWith]; omega),List.getElem_zipWith,List.getD_eq_getElem?_getD,List.getElem?_eq_getElem hi,List.getD_eq_getElem?_getD,List.getElem?_eq_getElem (by omega)]
 rfl
theorem zeE {xs ys : List Rat} (hl : xs.length = ys.length) (h : ∀ i,i < xs.length -> xs.getD i 0 = ys.getD i 0) : xs = ys:=List.ext_getElem hl fun i h1 h2=>by
 have:=h i h1
 rw [List.getD_eq_getElem?_getD,List.getD_eq_getElem?_getD,List.getElem?_eq_getElem h1,List.getElem?_eq_getElem h2] at this
 exact this
end GM
set_option Elab.async false
set_option linter.all false
set_option maxRecDepth 100000
namespace L2
open PySem PySem.Spec PyProof.Rows GM
section
variable {K : PySem.W.Frag} {H H' H2 : Hp} {a p : Addr} {xs ys : List V} {o : HO}
theorem zai.upd (h : H p = none) : zai H (upd H p o):=fun b u e=>by
 rw [zbX (zba e h)]
 exact e
theorem zai.sqT (s : zai H H') (h : SqT K H a xs) : SqT K H' a xs:=by
 rcases h with (h | ⟨o,h⟩) | h
 . exact .inl (.inl (s _ _ h))
 . exact .inl (.inr ⟨o,s _ _ h⟩)
 . exact .inr h
structure zaY (H H' : Hp) : Prop where
 t : ∀ b xs,H b = some (.tup xs) -> H' b = some (.tup xs)
 f : ∀ b o u,H b = some (.frz o u) -> H' b = some (.frz o u)
theorem zai.keep (s : zai H H') : zaY H H':=⟨fun b xs h=>s _ _ h,fun b o u h=>s _ _ h⟩
theorem zaY.refl (H : Hp) : zaY H H:=(zai.refl H).keep
theorem zaY.trans (a : zaY H H') (b : zaY H' H2) : zaY H H2:=⟨fun c xs h=>b.t _ _ (a.t _ _ h),fun c o u h=>b.f _ _ _ (a.f _ _ _ h)⟩
theorem zaY.sqT (k : zaY H H') (h : SqT K H a xs) : SqT K H' a xs:=by
 rcases h with (h | ⟨o,h⟩) | h
 . exact .inl (.inl (k.t _ _ h))
 . exact .inl (.inr ⟨o,k.f _ _ _ h⟩)
 . exact .inr h
def SqF (K : PySem.W.Frag) (H : Hp) (a : Addr) (xs : List V) : Prop :=
 (∃ o,H a = some (.frz o (.lst xs))) \/
   ∃ (o : Obj) (its : Array Value) (n : Nat),K.lookup a = some o /\ o.cls = .type "list" /\ o.dict = none /\ o.data = .seq its n /\ its.size <= sizeLine /\ zaZ xs its.toList
theorem SqF.sq (h : SqF K H a xs) : SqL K H a xs:=by
 rcases h with ⟨o,h⟩ | h
 . exact .inl (.inr ⟨o,h⟩)
 . exact .inr h
theorem zaY.sqF (k : zaY H H') (h : SqF K H a xs) : SqF K H' a xs:=by
 rcases h with ⟨o,h⟩ | h
 . exact .inl ⟨o,k.f _ _ _ h⟩
 . exact .inr h
def Exc (p : Addr) (H H' : Hp) : Prop:=∀ b o,b ≠ p -> H b = some o -> H' b = some o
theorem Exc.keep (e : Exc p H H') (h : H p = some (.lst xs)) : zaY H H' :=
 ⟨fun b ys hb=>e b _ (zqJ hb h (by intro z; cases z)) hb,fun b o u hb=>e b _ (zqJ hb h (by intro z; cases z)) hb⟩
theorem zai.exc (s : zai H H') : Exc p H H':=fun b o _ h=>s b o h
theorem Exc.refl (p : Addr) (H : Hp) : Exc p H H:=fun _ _ _ h=>h
theorem Exc.trans (a : Exc p H H') (b : Exc p H' H2) : Exc p H H2:=fun c o n h=>b c o n (a c o n h)
theorem Exc.upd (p : Addr) (H : Hp) (o : HO) : Exc p H (upd H p o):=fun b u n h=>by
 rw [zbX n]
 exact h
theorem Exc.at (e : Exc p H H') {q : Addr} {u : HO} (n : q ≠ p) (h : H q = some u) : H' q = some u:=e q u n h
end
mutual
def Is (K : PySem.W.Frag) (H : Hp) : V -> PyData -> Prop
 | v,.none=>v = .non
 | v,.bool b=>v = .bl b
 | v,.int i=>v = .int i
 | v,.str x=>v = .str x
 | v,.tuple ds=>∃ a xs,v = .ref a /\ SqT K H a xs /\ IsAll K H xs ds
 | v,.list ds=>∃ a xs,v = .ref a /\ SqL K H a xs /\ IsAll K H xs ds
 | v,.dict _=>∃ a kvs,v = .ref a /\ H a = some (.dK kvs)
def IsAll (K : PySem.W.Frag) (H : Hp) : List V -> List PyData -> Prop
 | xs,[]=>xs = []
 | xs,d :: ds=>∃ x r,xs = x :: r /\ Is K H x d /\ IsAll K H r ds
end
section
variable {K : PySem.W.Frag} {H H' : Hp} {v : V} {xs : List V} {ds : List PyData} {d : PyData}
theorem za5 {i : Int} : Is K H v (.int i) ↔ v = .int i:=by rw [Is]
theorem zdO {b : Bool} : Is K H v (.bool b) ↔ v = .bl b:=by rw [Is]
theorem zb1 {x : Str} : Is K H v (.str x) ↔ v = .str x:=by rw [Is]
theorem zfO : Is K H v .none ↔ v = .non:=by rw [Is]
theorem zaT : Is K H v (.tuple ds) ↔ ∃ a xs,v = .ref a /\ SqT K H a xs /\ IsAll K H xs ds:=by rw [Is]
theorem zbp : Is K H v (.list ds) ↔ ∃ a xs,v = .ref a /\ SqL K H a xs /\ IsAll K H xs ds:=by rw [Is]
theorem zlM {kv : List (PyData × PyData)} : Is K H v (.dict kv) ↔ ∃ a kvs,v = .ref a /\ H a = some (.dK kvs):=by rw [Is]
theorem zbh : IsAll K H xs [] ↔ xs = []:=by rw [IsAll]
theorem zaB : IsAll K H xs (d :: ds) ↔ ∃ x r,xs = x :: r /\ Is K H x d /\ IsAll K H r ds:=by rw [IsAll]
theorem IsAll.cons (h : Is K H v d) (t : IsAll K H xs ds) : IsAll K H (v :: xs) (d :: ds):=zaB.mpr ⟨v,xs,rfl,h,t⟩
theorem IsAll.nil : IsAll K H [] []:=zbh.mpr rfl
theorem IsAll.length : ∀ {ds : List PyData} {xs : List V},IsAll K H xs ds -> xs.length = ds.length
 | [],_,h=>by rw [zbh.mp h]; rfl
 | d :: ds,_,h=>by
   obtain ⟨x,r,rfl,_,t⟩:=zaB.mp h
   rw [List.length_cons,List.length_cons,IsAll.length t]
theorem IsAll.get : ∀ {ds : List PyData} {xs : List V} {i : Nat} {d : PyData},IsAll K H xs ds -> ds[i]? = some d -> ∃ x,xs[i]? = some x /\ Is K H x d
 | [],_,_,_,_,e=>by simp at e
 | d :: ds,_,0,_,h,e=>by
   obtain ⟨x,r,rfl,q,_⟩:=zaB.mp h
   simp at e; subst e
   exact ⟨x,rfl,q⟩
 | d :: ds,_,i + 1,d',h,e=>by
   obtain ⟨x,r,rfl,_,t⟩:=zaB.mp h
   obtain ⟨y,h1,h2⟩:=IsAll.get (i:=i) t (by simpa using e)
   exact ⟨y,by simpa using h1,h2⟩
theorem IsAll.append : ∀ {ds es : List PyData} {xs ys : List V},IsAll K H xs ds -> IsAll K H ys es -> IsAll K H (xs ++ ys) (ds ++ es)
 | [],_,_,_,h,t=>by rw [zbh.mp h]; exact t
 | d :: ds,_,_,_,h,t=>by
   obtain ⟨x,r,rfl,q,u⟩:=zaB.mp h
   exact .cons q (IsAll.append u t)
mutual
theorem Is.same (s : zai H H') : ∀ (d : PyData) (v : V),Is K H v d -> Is K H' v d
 | .none,v,h=>by rw [zfO] at h ⊢; exact h
 | .bool _,v,h=>by rw [zdO] at h ⊢; exact h
 | .int _,v,h=>by rw [za5] at h ⊢; exact h
 | .str _,v,h=>by rw [zb1] at h ⊢; exact h
 | .tuple ds,v,h=>by
   obtain ⟨a,xs,e,q,t⟩:=zaT.mp h
   exact zaT.mpr ⟨a,xs,e,s.sqT q,IsAll.same s ds xs t⟩
 | .list ds,v,h=>by
   obtain ⟨a,xs,e,q,t⟩:=zbp.mp h
   exact zbp.mpr ⟨a,xs,e,s.seq q,IsAll.same s ds xs t⟩
 | .dict _,v,h=>by
   obtain ⟨a,kvs,e,q⟩:=zlM.mp h
   exact zlM.mpr ⟨a,kvs,e,s _ _ q⟩
theorem IsAll.same (s : zai H H') : ∀ (ds : List PyData) (xs : List V),IsAll K H xs ds -> IsAll K H' xs ds
 | [],xs,h=>by rw [zbh] at h ⊢; exact h
 | d :: ds,xs,h=>by
   obtain ⟨x,r,e,q,t⟩:=zaB.mp h
   exact zaB.mpr ⟨x,r,e,Is.same s d x q,IsAll.same s ds r t⟩
end
end
/- no list and no dict within -/
mutual
def Imm : PyData -> Bool
 | .none=>true
 | .bool _=>true
 | .int _=>true
 | .str _=>true
 | .tuple ds=>ImmAll ds
 | .list _=>false
 | .dict _=>false
def ImmAll : List PyData -> Bool
 | []=>true
 | d :: ds=>Imm d && ImmAll ds
end
section
variable {K : PySem.W.Frag} {H H' : Hp}
mutual
theorem Is.keep (k : zaY H H') : ∀ (d : PyData) (v : V),Imm d = true -> Is K H v d -> Is K H' v d
 | .none,v,_,h=>by rw [zfO] at h ⊢; exact h
 | .bool _,v,_,h=>by rw [zdO] at h ⊢; exact h
 | .int _,v,_,h=>by rw [za5] at h ⊢; exact h
 | .str _,v,_,h=>by rw [zb1] at h ⊢; exact h
 | .tuple ds,v,i,h=>by
   obtain ⟨a,xs,e,q,t⟩:=zaT.mp h
   exact zaT.mpr ⟨a,xs,e,k.sqT q,IsAll.keep k ds xs (by rw [Imm] at i; exact i) t⟩
 | .list ds,v,i,h=>by rw [Imm] at i; cases i
 | .dict _,v,i,h=>by rw [Imm] at i; cases i
theorem IsAll.keep (k : zaY H H') : ∀ (ds : List PyData) (xs : List V),ImmAll ds = true -> IsAll K H xs ds -> IsAll K H' xs ds
 | [],xs,_,h=>by rw [zbh] at h ⊢; exact h
 | d :: ds,xs,i,h=>by
   obtain ⟨x,r,e,q,t⟩:=zaB.mp h
   rw [ImmAll,Bool.and_eq_true] at i
   exact zaB.mpr ⟨x,r,e,Is.keep k d x i.1 q,IsAll.keep k ds r i.2 t⟩
end
end
def N (r : Rat) : PyData:=.tuple [.int r.num,.int (r.den : Int)]
theorem zmq (r : Rat) : Imm (N r) = true:=by simp [N,Imm,ImmAll]
section
variable {K : PySem.W.Frag} {H H' : Hp} {v : V} {r : Rat}
theorem znb : Is K H v (N r) ↔ ∃ a,v = .ref a /\ SqT K H a [.int r.num,.int (r.den : Int)]:=by
 unfold N
 rw [zaT]
 constructor
 . rintro ⟨a,xs,e,q,t⟩
   obtain ⟨x,r1,rfl,q1,t⟩:=zaB.mp t
   obtain ⟨y,r2,rfl,q2,t⟩:=zaB.mp t
   rw [zbh.mp t,za5.mp q1,za5.mp q2] at q
   exact ⟨a,e,q⟩
 . rintro ⟨a,e,q⟩
   exact ⟨a,_,e,q,.cons (za5.mpr rfl) (.cons (za5.mpr rfl) .nil)⟩
end
section
variable {X : Cx} {pins : List (Addr × Obj)} {σ : St} {H : Hp} {s : Shared}
mutual
theorem Inv.reads (I : Inv X pins σ H s) : ∀ (d : PyData) (v : V) (u : Value),d.canLay0 = true -> Is X.K H v d -> zbf v u -> ∃ as,Reads s.heap u d as
 | .none,v,u,_,h,r=>by
   cases zfO.mp h
   cases (show u = Value.none from r)
   exact ⟨_,.none⟩
 | .bool b,v,u,_,h,r=>by
   cases zdO.mp h
   cases (show u = Value.bool b from r)
   exact ⟨_,.bool b⟩
 | .int i,v,u,_,h,r=>by
   cases za5.mp h
   obtain ⟨t,e⟩:=(show ∃ t,u = Value.int i t from r)
   cases e
   exact ⟨_,.int i t⟩
 | .str x,v,u,_,h,r=>by
   cases zb1.mp h
   obtain ⟨t,e⟩:=(show ∃ t,u = Value.str x t from r)
   cases e
   exact ⟨_,.str x t⟩
 | .tuple ds,v,u,c,h,r=>by
   obtain ⟨a,xs,e,q,t⟩:=zaT.mp h
   subst e
   cases (show u = Value.ref a from r)
   obtain ⟨its,rv,⟨o,e1,e2,n,e3⟩,_⟩:=I.tuple q
   obtain ⟨as,ra⟩:=Inv.readsAll I ds xs its (by rw [PyData.canLay0] at c; exact c) t rv
   exact ⟨_,.tuple e1 e2 e3 (by simpa using ra)⟩
 | .list ds,v,u,c,h,r=>by
   obtain ⟨a,xs,e,q,t⟩:=zbp.mp h
   subst e
   cases (show u = Value.ref a from r)
   obtain ⟨its,rv,⟨o,n,e1,e2,_,e3⟩,_⟩:=I.list q
   obtain ⟨as,ra⟩:=Inv.readsAll I ds xs its (by rw [PyData.canLay0] at c; exact c) t rv
   exact ⟨_,.list e1 e2 e3 (by simpa using ra)⟩
 | .dict _,v,u,c,h,r=>by rw [PyData.canLay0] at c; cases c
theorem Inv.readsAll (I : Inv X pins σ H s) : ∀ (ds : List PyData) (xs : List V) (us : List Value),PyData.canLayAll0 ds = true -> IsAll X.K H xs ds -> zaZ xs us -> ∃ as,ReadsAll s.heap us ds as
 | [],xs,us,_,h,r=>by
   rw [zbh.mp h] at r
   cases r
   exact ⟨_,.nil⟩
 | d :: ds,xs,us,c,h,r=>by
   obtain ⟨x,l,e,q,t⟩:=zaB.mp h
   subst e
   rw [PyData.canLayAll0,Bool.and_eq_true] at c
   cases r with
   | cons r1 r2 =>
     obtain ⟨as,h1⟩:=Inv.reads I d x _ c.1 q r1
     obtain ⟨bs,h2⟩:=Inv.readsAll I ds l _ c.2 t r2
     exact ⟨_,.cons h1 h2⟩
end
end
section
variable {X : Cx}
open PySem.SeqAt (shaped)
def zcL (K : PySem.W.Frag) : R2:=fun x y H Q=>∃ d e,Is K H x d /\ Is K H y e /\ shaped d = true /\ shaped e = true /\ Q (.bl (PyData.eqv d e)) H
def zfu (K : PySem.W.Frag) : R2:=fun x y H Q=>∃ d e,Is K H x d /\ Is K H y e /\ shaped d = true /\ shaped e = true /\ Q (.bl (!PyData.eqv d e)) H
theorem zbC (hu : X.A.units + 64 < cLine) : OpR X (compareOp .Eq) (zcL X.K):=by
 intro pins s σ H x y v u Q I rx ry h
 obtain ⟨d,e,hd,he,sd,se,q⟩:=h
 obtain ⟨as,h1⟩:=I.reads d x v (PySem.SeqAt.canLay_of_shaped sd) hd rx
 obtain ⟨bs,h2⟩:=I.reads e y u (PySem.SeqAt.canLay_of_shaped se) he ry
 exact eq_dataH h1 h2 sd se hu ⟨.bl _,H,I,rfl,q⟩
theorem zfK (hu : X.A.units + 64 < cLine) : OpR X (compareOp .NotEq) (zfu X.K):=by
 intro pins s σ H x y v u Q I rx ry h
 obtain ⟨d,e,hd,he,sd,se,q⟩:=h
 obtain ⟨as,h1⟩:=I.reads d x v (PySem.SeqAt.canLay_of_shaped sd) hd rx
 obtain ⟨bs,h2⟩:=I.reads e y u (PySem.SeqAt.canLay_of_shaped se) he ry
 exact ne_dataH h1 h2 sd se hu ⟨.bl _,H,I,rfl,q⟩
theorem zbf.beq_bool {x : V} {v : Value} (r : zbf x v) (c : Bool) : (v == Value.bool c) = decide (x = .bl c):=by
 cases x with
 | non=>cases (show v = Value.none from r); rfl
 | bl b=>cases (show v = Value.bool b from r); cases b <;> cases c <;> rfl
 | int _=>obtain ⟨t,rfl⟩:=r; rfl
 | str _=>obtain ⟨t,rfl⟩:=r; rfl
 | byt _=>obtain ⟨t,rfl⟩:=r; rfl
 | flt _=>obtain ⟨t,rfl⟩:=r; rfl
 | ref _=>cases r; rfl
 | ty _=>cases r; rfl
theorem zbf.plain_bool {x : V} {v : Value} (r : zbf x v) (c : Bool) : plainIs v (Value.bool c) = true:=by
 cases x with
 | non=>cases (show v = Value.none from r); rfl
 | bl b=>cases (show v = Value.bool b from r); rfl
 | int _=>obtain ⟨t,rfl⟩:=r; rfl
 | str _=>obtain ⟨t,rfl⟩:=r; rfl
 | byt _=>obtain ⟨t,rfl⟩:=r; rfl
 | flt _=>obtain ⟨t,rfl⟩:=r; rfl
 | ref _=>cases r; rfl
 | ty _=>cases r; rfl
def rIs : R2:=fun x y H Q=>(∃ c,y = .bl c /\ Q (.bl (decide (x = .bl c))) H) \/ (y = .non /\ Q (.bl (decide (x = .non))) H)
def zsX : R2:=fun x y H Q=>(∃ c,y = .bl c /\ Q (.bl (!decide (x = .bl c))) H) \/ (y = .non /\ Q (.bl (!decide (x = .non))) H)
theorem zjU : OpR X (compareOp .Is) rIs:=by
 intro pins s σ H x y v u Q I rx ry h
 rcases h with ⟨c,e,q⟩ | h
 . subst e
   cases (show u = Value.bool c from ry)
   exact wpAny_is_plain (rx.plain_bool c) (zi3 I q (rx.beq_bool c).symm)
 . exact zrv pins s σ H x y v u Q I rx ry h
theorem zoE : OpR X (compareOp .IsNot) zsX:=by
 intro pins s σ H x y v u Q I rx ry h
 rcases h with ⟨c,e,q⟩ | h
 . subst e
   cases (show u = Value.bool c from ry)
   exact wpAny_isNot_plain (rx.plain_bool c) (zi3 I q (congrArg not (rx.beq_bool c).symm))
 . exact zpx pins s σ H x y v u Q I rx ry h
def kindOf : PyData -> String
 | .none=>"NoneType"
 | .bool _=>"bool"
 | .int _=>"int"
 | .str _=>"str"
 | .tuple _=>"tuple"
 | .list _=>"list"
 | .dict _=>"dict"
def zgM (K : PySem.W.Frag) : List V -> Hp -> VK -> Prop:=fun xs H Q=>∃ x T d b,xs = [x,.ty T] /\ Is K H x d /\ PySem.W.kitOne K (.type (kindOf d)) (.type T) = some b /\ Q (.bl b) H
theorem ziT : zaP X (.builtin "isinstance") (zgM X.K):=by
 intro pins s σ H xs us Q I r h
 obtain ⟨x,T,d,b,rfl,hd,e,q⟩:=h
 obtain ⟨u,w',rfl,rx,rt⟩:=ziR r
 cases (show w' = Value.type T from rt)
 have fin : ∀ tk,EP X pins σ Q (.bool b) { s with toks:=tk }:=fun tk=>⟨.bl b,H,I.tok _,rfl,q⟩
 cases d with
 | none =>
   cases zfO.mp hd
   cases (show u = Value.none from rx)
   exact PySem.W.kia_one PySem.W.kitx_none I.kIn True.intro e (fun z=>nomatch z) fin
 | bool y =>
   cases zdO.mp hd
   cases (show u = Value.bool y from rx)
   exact PySem.W.kia_one PySem.W.kitx_bool I.kIn True.intro e (fun z=>nomatch z) fin
 | int i =>
   cases za5.mp hd
   obtain ⟨t,q⟩:=(show ∃ t,u = Value.int i t from rx)
   cases q
   exact PySem.W.kia_one PySem.W.kitx_int I.kIn True.intro e (fun z=>nomatch z) fin
 | str y =>
   cases zb1.mp hd
   obtain ⟨t,q⟩:=(show ∃ t,u = Value.str y t from rx)
   cases q
   exact PySem.W.kia_one PySem.W.kitx_str I.kIn True.intro e (fun z=>nomatch z) fin
 | tuple ds =>
   obtain ⟨a,xs,e1,hq,_⟩:=zaT.mp hd
   subst e1
   cases (show u = Value.ref a from rx)
   obtain ⟨its,_,⟨o,h1,h2,_⟩,_⟩:=I.tuple hq
   exact PySem.W.kia_one PySem.W.kitx_tuple I.kIn ⟨o,h1,h2⟩ e (fun z=>nomatch z) fin
 | list ds =>
   obtain ⟨a,xs,e1,hq,_⟩:=zbp.mp hd
   subst e1
   cases (show u = Value.ref a from rx)
   obtain ⟨its,_,⟨o,n,h1,h2,_⟩,_⟩:=I.list hq
   exact PySem.W.kia_one PySem.W.kitx_list I.kIn ⟨o,h1,h2⟩ e (fun z=>nomatch z) fin
 | dict kv =>
   obtain ⟨a,kvs,e1,hq⟩:=zlM.mp hd
   subst e1
   cases (show u = Value.ref a from rx)
   obtain ⟨_,_,vs,_,o,es,ep,h1,h2,_⟩:=(show zcJ X.prog X.w H s.heap a (.dK kvs) from I.hok a _ hq)
   exact PySem.W.kia_one PySem.W.kitx_dict I.kIn ⟨o,h1,h2.1⟩ e (fun z=>nomatch z) fin
def isA (T : String) (d : PyData) : Bool:=(kindOf d == T) || (kindOf d == "bool" && T == "int")
theorem zqj {K : PySem.W.Frag} (d : PyData) : PySem.W.kitOne K (.type (kindOf d)) (.type "int") = some (isA "int" d):=by cases d <;> rfl
theorem znI {K : PySem.W.Frag} (d : PyData) : PySem.W.kitOne K (.type (kindOf d)) (.type "bool") = some (isA "bool" d):=by cases d <;> rfl
theorem MulBd {m n : Nat} {i j : Int} (h : Bd m i) (k : Bd n j) (hm : m <= 1000000) (hn : n <= 1000000) : IntMulOk i j:=by
 have f : ∀ {m : Nat} {i : Int},Bd m i -> m <= 1000000 -> Builtin.Int.intBits i <= 2 ^ 20:=by
   intro m i h hm
   have e : (2 : Nat) ^ 20 = 1048576:=by decide
   have l:=(h.mono (Nat.le_succ m)).log (Nat.succ_pos m)
   unfold Builtin.Int.intBits
   split <;> omega
 exact .of_bits (f h hm) (f k hn)
theorem zav : OpR X (binaryOp .Mult) (rI IntMulOk fun i j=>.int (i * j)):=opI fun _ _ _ _ _ _ _ hc q=>mul_int q hc
def zfg (_ j : Int) : Prop:=j ≠ 0 /\ Bd 8999 j
theorem zbm : OpR X (binaryOp .FloorDiv) (rI zfg fun i j=>.int (i.fdiv j)):=opI fun _ _ _ _ _ _ _ hc q =>
 floordiv_int hc.1 q (.inl (PyProof.noPylong_of_log2 (Nat.lt_succ_of_lt (hc.2.log (by decide)))))
theorem zqH : OpR X (binaryOp .Add) (fun x y H Q=>(rI0 fun i j=>.int (i + j)) x y H Q \/ (zrr x y H Q \/ ∃ i j,x = .str i /\ y = .str j /\ i.length + j.length <= sizeLine /\ Q (.str (i ++ j)) H)):=zsd.or (zrg.or zlo)
end
end L2
set_option Elab.async false
set_option linter.all false
set_option maxRecDepth 100000
namespace L2
open PySem PySem.Spec PyProof.Rows GM
theorem zeG : bootBuiltins "len" = some (.builtin "len"):=by decide +kernel
theorem zhQ : bootBuiltins "abs" = some (.builtin "abs"):=by decide +kernel
theorem zaW : bootBuiltins "isinstance" = some (.builtin "isinstance"):=by decide +kernel
theorem zoj : bootBuiltins "int" = some (.type "int"):=by decide +kernel
theorem zqv : bootBuiltins "bool" = some (.type "bool"):=by decide +kernel
theorem zbY : bootBuiltins "tuple" = some (.type "tuple"):=by decide +kernel
theorem zha : bootBuiltins "list" = some (.type "list"):=by decide +kernel
def mkT (K : PySem.W.Frag) (xs : List V) (H : Hp) (Q : VK) : Prop:=xs.length <= sizeLine /\ ∀ p,H p = none -> Q (.ref p) (upd H p (.tup xs))
def mkL (K : PySem.W.Frag) (xs : List V) (H : Hp) (Q : VK) : Prop:=xs.length <= sizeLine /\ ∀ p,H p = none -> Q (.ref p) (upd H p (.lst xs))
def zq5 (K : PySem.W.Frag) (t : TA) : TE:=fun σ H Q=>t σ H fun xs H1=>mkT K xs H1 Q
def znJ (K : PySem.W.Frag) (t : TA) : TE:=fun σ H Q=>t σ H fun xs H1=>mkL K xs H1 Q
def zpe : R2:=fun x y H Q=>(rI0 fun i j=>.int (i + j)) x y H Q \/ (zrr x y H Q \/ ∃ i j,x = .str i /\ y = .str j /\ i.length + j.length <= sizeLine /\ Q (.str (i ++ j)) H)
def zsR : List V -> Hp -> VK -> Prop:=fun xs H Q=>∃ i : Int,xs = [.int i] /\ Q (.int (if i < 0 then -i else i)) H
def zgt (K : PySem.W.Frag) : List V -> Hp -> VK -> Prop:=fun xs H Q=>∃ p ys,xs = [.ref p] /\ (SqL K H p ys \/ SqT K H p ys) /\ Q (.int ys.length) H
def zsL : List V -> Hp -> VK -> Prop:=fun xs H Q=>(∃ i,xs = [.int i] /\ Q (.int i) H) \/ ∃ k,xs = [.bl k] /\ Q (.int (if k then 1 else 0)) H
section
variable {X : Cx} {e : Expr} {es : List Expr} {te : TE} {t : TA} {pos : Pos}
theorem zay {x1} (h : PA X es t) : PE X (.Tuple es x1 pos) (zq5 X.K t):=zrE h
theorem za2 (h : PA X es t) : PE X (.List es pos) (znJ X.K t):=zrp h
theorem zau : OpR X (binaryOp .Add) zpe:=zqH
theorem zd7 : zaP X (.builtin "abs") zsR:=znN
theorem zcA : zaP X (.builtin "len") (zgt X.K):=zjB
theorem znp : zaP X (.type "int") zsL:=znu
theorem zoi {x : Str} {i : Int} {pos : Pos} (hg : Gl X x) (hm : ∃ t,X.mg x = some (.int i t)) (hd : (x == ("__debug__" : Str)) = false:=by decide) : PE X (.Name x pos) (tC (.int i)):=by
 obtain ⟨t,hm⟩:=hm
 exact zaM hg hm ⟨t,rfl⟩ hd
end
section
variable {K : PySem.W.Frag} {σ : St} {H H' : Hp} {Q : VK} {QA : List V -> Hp -> Prop} {QB : Bool -> Hp -> Prop} {QS : St -> Hp -> Prop} {QH : Hp -> Prop} {D : zcE} {ta tb te : TE} {tt tu : TT} {t tr : TA} {s1 s2 : TS} {g : TG} {gs : TGs} {r : R2} {v w : V} {xs ys : List V} {i : Nat} {m n : Int}
theorem zln (h : σ[i]? = some (some v)) (q : Q v H) : zi8 i σ H Q:=⟨v,h,q⟩
theorem ztb (q : Q v H) : tC v σ H Q:=q
theorem zsj (h : ta σ H fun x H1=>tb σ H1 fun y H2=>r x y H2 Q) : tOp r ta tb σ H Q:=h
theorem zso {u : V -> Hp -> VK -> Prop} (h : ta σ H fun x H1=>u x H1 Q) : tUn u ta σ H Q:=h
theorem zsg (h : t σ H fun xs H1=>mkT K xs H1 Q) : zq5 K t σ H Q:=h
theorem zrm (h : t σ H fun xs H1=>mkL K xs H1 Q) : znJ K t σ H Q:=h
theorem zrJ (q : QA [] H) : znK σ H QA:=q
theorem zpZ (h : te σ H fun x H1=>tr σ H1 fun xs H2=>QA (x :: xs) H2) : zhO te tr σ H QA:=h
theorem zpn {sp : Sp} {E : XK} (h : t σ H fun vs H1=>sp vs H1 Q E) : zkW sp [] E t σ H Q:=by
 simpa only [zkW,List.append_nil] using h
theorem zsU {u : List V -> Hp -> VK -> Prop} (h : t σ H fun vs H1=>u vs H1 Q) : tCB u t σ H Q:=h
theorem zqh (h : te σ H fun x H'=>∃ k,x = .bl k /\ QB k H') : zqQ te σ H QB:=h
theorem zq2 (h : te σ H fun x H'=>∃ k,x = .bl k /\ QB k H') : tB te σ H QB:=h
theorem zoQ {R : Bool -> Prop} {k : Bool} (q : R k) : ∃ k',V.bl k = V.bl k' /\ R k':=⟨k,rfl,q⟩
theorem zr5 (h : tt σ H fun c H1=>if c = true then tu σ H1 QB else QB false H1) : zsZ tt tu σ H QB:=h
theorem zsK (h : tt σ H fun c H1=>if c = true then QB true H1 else tu σ H1 QB) : tOr tt tu σ H QB:=h
theorem zrd (h : tt σ H fun c H1=>QB (!c) H1) : zsk tt σ H QB:=h
theorem zpW (h : ta σ H fun x H1=>∃ c,x = .bl c /\ if c = true then tb σ H1 Q else Q (.bl false) H1) : zq7 ta tb σ H Q:=h
theorem zrO (h : ta σ H fun x H1=>∃ c,x = .bl c /\ if c = true then Q (.bl true) H1 else tb σ H1 Q) : zsm ta tb σ H Q:=h
theorem zqg (h : ta σ H fun x H1=>∃ c,x = .bl c /\ Q (.bl (!c)) H1) : zqS ta σ H Q:=h
theorem zrA (h : tt σ H fun c H1=>if c = true then ta σ H1 Q else tb σ H1 Q) : tIf tt ta tb σ H Q:=h
-- statements
theorem zrB (h : s1 { D with nx:=s2 D } σ H) : zrF s1 s2 D σ H:=h
theorem zqC (h : D.nx σ H) : zqN D σ H:=h
theorem zr2 (h : te σ H D.rt) : zs0 te D σ H:=h
theorem zrH (h : tt σ H fun b H1=>if b = true then s1 D σ H1 else s2 D σ H1) : zsq tt s1 s2 D σ H:=h
theorem zrK (h : te σ H fun x H1=>g x σ H1 D.nx) : zkZ te g D σ H:=h
theorem zqx (h : te σ H fun _ H1=>D.nx σ H1) : zqO te D σ H:=h
theorem zrl {i j : Nat} (h : t σ H fun vs H1=>∃ v w,vs = [v,w] /\ D.nx ((σ.set i (some v)).set j (some w)) H1) : zsr i j t D σ H:=h
theorem zqa {i j : Nat} (q : QS ((σ.set i (some v)).set j (some w)) H) : ∃ v' w',[v,w] = [v',w'] /\ QS ((σ.set i (some v')).set j (some w')) H:=⟨v,w,rfl,q⟩
-- targets
theorem zhI (q : QS (σ.set i (some v)) H) : zeH i v σ H QS:=q
theorem zmr (q : QS σ H) : zre [] σ H QS:=⟨rfl,q⟩
theorem zhF (q : g v σ H fun σ' H'=>gs xs σ' H' QS) : zmb g gs (v :: xs) σ H QS:=⟨v,xs,rfl,q⟩
theorem ze8 {a : Addr} {n : Nat} (h : SqT K H a xs) (e : xs.length = n) (q : gs xs σ H QS) : zij K n gs (.ref a) σ H QS:=⟨a,xs,rfl,h,e,q⟩
theorem zqA {tset : zpw} (h : ta σ H fun o H1=>tb σ H1 fun i H2=>tset o i v H2 fun H3=>QS σ H3) : zsO ta tb tset v σ H QS:=h
theorem zg9 {p : Addr} {k : Int} {j : Nat} (h : H p = some (.lst xs)) (e : ixN xs.length k = some j) (q : ∀ H',Exc p H H' -> H' p = some (.lst (xs.set j v)) -> QH H') : zqR (.ref p) (.int k) v H QH :=
 ⟨p,xs,k,j,rfl,rfl,h,e,q _ (Exc.upd p H _) zaV⟩
-- ints
theorem zrV {f : Int -> Int -> V} (q : Q (f m n) H) : rI0 f (.int m) (.int n) H Q:=⟨m,n,rfl,rfl,q⟩
theorem zko {C : Int -> Int -> Prop} {f : Int -> Int -> V} (c : C m n) (q : Q (f m n) H) : rI C f (.int m) (.int n) H Q:=⟨m,n,rfl,rfl,c,q⟩
theorem zsB {f : Int -> V} (q : Q (f m) H) : rU f (.int m) H Q:=⟨m,rfl,q⟩
theorem zqz (q : Q (.int (m + n)) H) : zpe (.int m) (.int n) H Q:=.inl ⟨m,n,rfl,rfl,q⟩
theorem zfV {p b : Addr} (h : H p = some (.lst xs)) (k : H b = some (.lst ys)) (z : xs.length + ys.length <= sizeLine)
   (q : ∀ c H',H c = none -> zai H H' -> H' c = some (.lst (xs ++ ys)) -> Q (.ref c) H') : zpe (.ref p) (.ref b) H Q :=
 .inr (.inl ⟨p,b,xs,ys,rfl,rfl,h,k,z,fun c hc=>q c _ hc (zai.upd hc) zaV⟩)
theorem zr6 (q : Q (.int (if m < 0 then -m else m)) H) : zsR [.int m] H Q:=⟨m,rfl,q⟩
theorem zpT {p : Addr} (h : SqT K H p xs) (q : Q (.int xs.length) H) : zgt K [.ref p] H Q:=⟨p,xs,rfl,.inr h,q⟩
theorem zf4 {p : Addr} (h : SqL K H p xs) (q : Q (.int xs.length) H) : zgt K [.ref p] H Q:=⟨p,xs,rfl,.inl h,q⟩
theorem zqi {b : Bool} (q : Q (.int (if b then 1 else 0)) H) : zsL [.bl b] H Q:=.inr ⟨b,rfl,q⟩
-- comparisons
theorem zrw (q : Q (.bl (decide (v = .non))) H) : rIs v .non H Q:=.inr ⟨rfl,q⟩
theorem zpB (q : Q (.bl (!decide (v = .non))) H) : zsX v .non H Q:=.inr ⟨rfl,q⟩
theorem zrs (q : Q (.bl (decide (m = n))) H) : zcL K (.int m) (.int n) H Q :=
 ⟨.int m,.int n,za5.mpr rfl,za5.mpr rfl,rfl,rfl,by
   have e : PyData.eqv (.int m) (.int n) = decide (m = n):=by
     rw [PyData.eqv,Bool.beq_eq_decide_eq]
   rw [e]; exact q⟩
theorem zrc (q : Q (.bl (!decide (m = n))) H) : zfu K (.int m) (.int n) H Q :=
 ⟨.int m,.int n,za5.mpr rfl,za5.mpr rfl,rfl,rfl,by
   have e : PyData.eqv (.int m) (.int n) = decide (m = n):=by
     rw [PyData.eqv,Bool.beq_eq_decide_eq]
   rw [e]; exact q⟩
theorem zfG {d e : PyData} (h : Is K H v d) (k : Is K H w e) (sd : PySem.SeqAt.shaped d = true) (se : PySem.SeqAt.shaped e = true) (q : Q (.bl (PyData.eqv d e)) H) : zcL K v w H Q:=⟨d,e,h,k,sd,se,q⟩
theorem zjM {d e : PyData} (h : Is K H v d) (k : Is K H w e) (sd : PySem.SeqAt.shaped d = true) (se : PySem.SeqAt.shaped e = true) (q : Q (.bl (!PyData.eqv d e)) H) : zfu K v w H Q:=⟨d,e,h,k,sd,se,q⟩
theorem zmt {T : String} {d : PyData} (h : Is K H v d) (e : PySem.W.kitOne K (.type (kindOf d)) (.type T) = some (isA T d)) (q : Q (.bl (isA T d)) H) : zgM K [v,.ty T] H Q:=⟨v,T,d,_,rfl,h,e,q⟩
def znE : PyData -> Bool
 | .int _=>true
 | .bool _=>true
 | _=>false
def zsE : PyData -> Bool
 | .bool _=>true
 | _=>false
theorem zkj {d : PyData} (h : Is K H v d) (q : Q (.bl (znE d)) H) : zgM K [v,.ty "int"] H Q:=zmt h (zqj d) (by have e : isA "int" d = znE d:=(by cases d <;> rfl); rw [e]; exact q)
theorem zkp {d : PyData} (h : Is K H v d) (q : Q (.bl (zsE d)) H) : zgM K [v,.ty "bool"] H Q:=zmt h (znI d) (by have e : isA "bool" d = zsE d:=(by cases d <;> rfl); rw [e]; exact q)
theorem zhx {p : Addr} {m : Int} (h : SqT K H p xs) (e : atI xs m = some v) (q : Q v H) : rIx K (.ref p) (.int m) H Q:=.inr (.inl ⟨p,xs,m,v,rfl,rfl,h,e,q⟩)
theorem zeN {p : Addr} {m : Int} (h : SqL K H p xs) (e : atI xs m = some v) (q : Q v H) : rIx K (.ref p) (.int m) H Q:=.inl ⟨p,xs,m,v,rfl,rfl,h,e,q⟩
theorem zr1 {α : Type} {xs : List α} {m : Int} (h0 : 0 <= m) (h1 : m < xs.length) : ∃ v,atI xs m = some v /\ v ∈ xs:=by
 obtain ⟨k,rfl⟩ : ∃ k : Nat,m = (k : Int):=⟨m.toNat,by omega⟩
 have l : k < xs.length:=by omega
 exact ⟨xs[k],zdM (by simp [l]),List.getElem_mem l⟩
theorem zjQ {p : Addr} {m : Int} (P : V -> Prop) (h : SqL K H p xs) (h0 : 0 <= m) (h1 : m < xs.length) (hP : ∀ x ∈ xs,P x) (q : ∀ x,P x -> Q x H) : rIx K (.ref p) (.int m) H Q:=by
 obtain ⟨x,e,hx⟩:=zr1 h0 h1
 exact zeN h e (q x (hP x hx))
theorem zpP {r : Rat} (h : Is K H v (N r)) (q : Q (.int r.num) H) : rIx K v (.int 0) H Q:=by
 obtain ⟨a,rfl,h'⟩:=znb.mp h
 exact zhx h' rfl q
theorem zqs {r : Rat} (h : Is K H v (N r)) (q : Q (.int (r.den : Int)) H) : rIx K v (.int 1) H Q:=by
 obtain ⟨a,rfl,h'⟩:=znb.mp h
 exact zhx h' rfl q
theorem zcl {ds : List PyData} {d : PyData} {j : Nat} (h : Is K H v (.tuple ds)) (e : ds[j]? = some d) (q : ∀ x,Is K H x d -> Q x H) : rIx K v (.int (j : Int)) H Q:=by
 obtain ⟨a,xs,rfl,h,t⟩:=zaT.mp h
 obtain ⟨x,e1,hx⟩:=t.get e
 exact zhx h (zdM e1) (q x hx)
theorem zpJ {ds : List PyData} (h : Is K H v (.tuple ds)) (q : Q (.int ds.length) H) : zgt K [v] H Q:=by
 obtain ⟨a,xs,rfl,h,t⟩:=zaT.mp h
 exact zpT h (by rw [t.length]; exact q)
theorem zhT {ds : List PyData} {n : Nat} (h : Is K H v (.tuple ds)) (e : ds.length = n) (q : ∀ xs,IsAll K H xs ds -> gs xs σ H QS) : zij K n gs v σ H QS:=by
 obtain ⟨a,xs,rfl,h,t⟩:=zaT.mp h
 exact ze8 h (by rw [t.length]; exact e) (q xs t)
theorem zod {r : Rat} (h : Is K H v (N r)) (q : gs [.int r.num,.int (r.den : Int)] σ H QS) : zij K 2 gs v σ H QS:=by
 obtain ⟨a,rfl,h'⟩:=znb.mp h
 exact ze8 h' rfl q
-- new tuples and lists
theorem zfR {α : Type} {l : List α} (h : l.length <= 1000) : l.length <= sizeLine:=Nat.le_of_lt (zcv h)
theorem zo9 (z : xs.length <= 1000) (q : ∀ p H',H p = none -> zai H H' -> H' p = some (.tup xs) -> Q (.ref p) H') : mkT K xs H Q:=⟨zfR z,fun p hp=>q p _ hp (zai.upd hp) zaV⟩
theorem zcm (z : xs.length <= 1000) (q : ∀ p H',H p = none -> zai H H' -> H' p = some (.lst xs) -> Q (.ref p) H') : mkL K xs H Q:=⟨zfR z,fun p hp=>q p _ hp (zai.upd hp) zaV⟩
theorem zcp {ds : List PyData} (z : xs.length <= 1000) (h : IsAll K H xs ds) (q : ∀ v H',zai H H' -> Is K H' v (.tuple ds) -> Q v H') : mkT K xs H Q :=
 zo9 z fun p H' _ s e=>q _ H' s (zaT.mpr ⟨p,xs,rfl,.of e,IsAll.same s ds xs h⟩)
theorem zdk {r : Rat} (e1 : m = r.num) (e2 : n = (r.den : Int)) (q : ∀ v H',zai H H' -> Is K H' v (N r) -> Q v H') : mkT K [.int m,.int n] H Q:=by
 subst e1 e2
 exact zo9 (by show 2 <= 1000; decide) fun p H' _ s e=>q _ H' s (znb.mpr ⟨p,rfl,.of e⟩)
-- tests
theorem zpq {p : Prop} [Decidable p] {A B : Prop} (h1 : p -> A) (h2 : ¬ p -> B) : if decide p = true then A else B:=by
 by_cases h : p
 . rw [decide_eq_true h,if_pos rfl]; exact h1 h
 . rw [decide_eq_false h,if_neg Bool.false_ne_true]; exact h2 h
theorem zo3 {p : Prop} [Decidable p] {A B : Prop} (h1 : ¬ p -> A) (h2 : p -> B) : if (!decide p) = true then A else B:=by
 by_cases h : p
 . rw [decide_eq_true h]; exact zoq (h2 h)
 . rw [decide_eq_false h]; exact zoG (h1 h)
theorem zqu {b : Bool} {A B : Prop} (h1 : b = true -> A) (h2 : b = false -> B) : if b = true then A else B:=by
 cases b
 . exact zoq (h2 rfl)
 . exact zoG (h1 rfl)
theorem zn7 {b : Bool} {A B : Prop} (h1 : b = false -> A) (h2 : b = true -> B) : if (!b) = true then A else B:=by
 cases b
 . exact zoG (h1 rfl)
 . exact zoq (h2 rfl)
end
section
variable {c : TT} {tb : TS} {D : zcE} {σ : St} {H : Hp}
def ixI (σ : St) (i : Nat) : Int:=match σ[i]? with
 | some (some (.int y))=>y
 | _=>0
def znV (Pv : St -> Hp -> Prop) (μ : St -> Nat) (tb : TS) (D : zcE) (σ' : St) (H1 : Hp) : Prop :=
 ∃ M : St -> Hp -> Prop,(∀ σ2 H2,M σ2 H2 -> ∃ m',m' < μ σ' /\ (m' = μ σ2 /\ Pv σ2 H2)) /\ tb { D with nx:=M,ct:=M,bk:=D.nx } σ' H1
theorem zkn (Pv : St -> Hp -> Prop) (μ : St -> Nat) (h0 : Pv σ H)
   (hs : ∀ σ' H',Pv σ' H' -> c σ' H' fun b H1=>if b = true then znV Pv μ tb D σ' H1 else D.nx σ' H1) : zlQ c tb D σ H:=by
 refine ⟨fun m σ H=>m = μ σ /\ Pv σ H,⟨_,rfl,h0⟩,?_⟩
 rintro m σ H ⟨rfl,p⟩
 exact hs σ H p
theorem zmi {Pv : St -> Hp -> Prop} {μ : St -> Nat} {σ' : St} {H1 : Hp} (h : tb { D with nx:=fun σ2 H2=>μ σ2 < μ σ' /\ Pv σ2 H2,ct:=fun σ2 H2=>μ σ2 < μ σ' /\ Pv σ2 H2,bk:=D.nx } σ' H1) : znV Pv μ tb D σ' H1 :=
 ⟨_,fun σ2 H2 q=>⟨_,q.1,rfl,q.2⟩,h⟩
def zst (g : TG) (tb : TS) (D : zcE) (σ : St) (vs : List V) (H1 : Hp) : Prop:=∃ j : Int,vs = [.int j] /\ -(2 ^ 62) <= j /\ j < 2 ^ 62 /\
 ∃ W : Nat -> Nat -> St -> Hp -> Prop,(∃ m,W 0 m σ H1) /\ ∀ i m σ H,W i m σ H ->
   ((Itr 0 j.toNat).stop i H /\ D.nx σ H) \/ ((Itr 0 j.toNat).go i H /\ ∃ M : St -> Hp -> Prop,(∀ σ' H',M σ' H' -> ∃ m',m' < m /\ W (i + 1) m' σ' H') /\ ∀ x H',(Itr 0 j.toNat).yld i H x H' -> g x σ H' fun σ2 H2=>tb { D with nx:=M,ct:=M,bk:=D.nx } σ2 H2)
theorem zpH {ta : TA} {g : TG} (h : ta σ H fun vs H1=>zst g tb D σ vs H1) : zlE (zoS ta) g tb D σ H:=h
theorem zec {g : TG} {n : Int} (h0 : -1000000000 <= n) (h1 : n < 1000000000) (Pv : Nat -> St -> Hp -> Prop) (p : Pv 0 σ H)
   (hs : ∀ (i : Nat) σ H,i < n.toNat -> Pv i σ H -> g (.int (i : Int)) σ H fun σ2 H2=>tb { D with nx:=Pv (i + 1),ct:=Pv (i + 1),bk:=D.nx } σ2 H2)
   (hd : ∀ σ H,Pv n.toNat σ H -> D.nx σ H) : zst g tb D σ [.int n] H:=by
 refine ⟨n,rfl,by omega,by omega,ziP (lo:=0) Pv p (fun i σ H hi q=>?_) hd⟩
 have e : (0 : Int) + (i : Int) = (i : Int):=by omega
 rw [e]
 exact hs i σ H hi q
end
def zsA (K : PySem.W.Frag) (g : TG) (tb : TS) (D : zcE) (σ : St) (x : V) (H1 : Hp) : Prop:=∃ a,x = .ref a /\ (∃ xs,SqL K H1 a xs) /\
 ∃ W : Nat -> Nat -> St -> Hp -> Prop,(∃ m,W 0 m σ H1) /\ ∀ i m σ H,W i m σ H ->
   ((Itl K a).stop i H /\ D.nx σ H) \/ ((Itl K a).go i H /\ ∃ M : St -> Hp -> Prop,(∀ σ' H',M σ' H' -> ∃ m',m' < m /\ W (i + 1) m' σ' H') /\ ∀ x H',(Itl K a).yld i H x H' -> g x σ H' fun σ2 H2=>tb { D with nx:=M,ct:=M,bk:=D.nx } σ2 H2)
def zsl (K : PySem.W.Frag) (g : TG) (tb : TS) (D : zcE) (σ : St) (x : V) (H1 : Hp) : Prop:=∃ a,x = .ref a /\ (∃ xs,SqT K H1 a xs) /\
 ∃ W : Nat -> Nat -> St -> Hp -> Prop,(∃ m,W 0 m σ H1) /\ ∀ i m σ H,W i m σ H ->
   ((Itt K a).stop i H /\ D.nx σ H) \/ ((Itt K a).go i H /\ ∃ M : St -> Hp -> Prop,(∀ σ' H',M σ' H' -> ∃ m',m' < m /\ W (i + 1) m' σ' H') /\ ∀ x H',(Itt K a).yld i H x H' -> g x σ H' fun σ2 H2=>tb { D with nx:=M,ct:=M,bk:=D.nx } σ2 H2)
section
variable {K : PySem.W.Frag} {te : TE} {g : TG} {tb : TS} {D : zcE} {σ : St} {H : Hp} {a : Addr} {xs : List V}
theorem zpX (h : te σ H fun x H1=>zsA K g tb D σ x H1) : zlE (zmk K te) g tb D σ H:=h
theorem zpQ (h : te σ H fun x H1=>zsl K g tb D σ x H1) : zlE (zrZ K te) g tb D σ H:=h
theorem zm3 (hx : SqL K H a xs) (Pv : Nat -> St -> Hp -> Prop) (h0 : Pv 0 σ H) (hl : ∀ i σ H,i <= xs.length -> Pv i σ H -> SqL K H a xs)
   (hs : ∀ i x σ H,xs[i]? = some x -> Pv i σ H -> g x σ H fun σ2 H2=>tb { D with nx:=Pv (i + 1),ct:=Pv (i + 1),bk:=D.nx } σ2 H2) (hd : ∀ σ H,Pv xs.length σ H -> D.nx σ H) : zsA K g tb D σ (.ref a) H :=
 ⟨a,rfl,⟨xs,hx⟩,zoR Pv h0 hl hs hd⟩
theorem zgn (hx : SqT K H a xs) (Pv : Nat -> St -> Hp -> Prop) (h0 : Pv 0 σ H) (hl : ∀ i σ H,i <= xs.length -> Pv i σ H -> SqT K H a xs)
   (hs : ∀ i x σ H,xs[i]? = some x -> Pv i σ H -> g x σ H fun σ2 H2=>tb { D with nx:=Pv (i + 1),ct:=Pv (i + 1),bk:=D.nx } σ2 H2) (hd : ∀ σ H,Pv xs.length σ H -> D.nx σ H) : zsl K g tb D σ (.ref a) H :=
 ⟨a,rfl,⟨xs,hx⟩,zqy Pv h0 hl hs hd⟩
end
theorem zro {K : PySem.W.Frag} {H : Hp} {a : Addr} {xs : List V} (hO : zp5 H) (h : SqL K H a xs) : SqF K H a xs:=by
 rcases h with (h | ⟨o,h⟩) | h
 . rcases hO a with z | ⟨ob,ys,z⟩
   . rw [h] at z; cases z
   . rw [h] at z; cases z
 . exact .inl ⟨o,h⟩
 . exact .inr h
theorem znR {K : PySem.W.Frag} {H : Hp} {Q : VK} {a : Addr} {ns : List Int} {m : Int} (h : SqF K H a (ns.map V.int)) (h0 : 0 <= m) (h1 : m < ((ns.map V.int).length : Int)) (q : ∀ z,Q (.int z) H) : rIx K (.ref a) (.int m) H Q:=by
 refine zjQ (fun v=>∃ z,v = .int z) h.sq h0 h1 (fun x hx=>?_) (fun x hx=>?_)
 . obtain ⟨z,_,rfl⟩:=List.mem_map.mp hx
   exact ⟨z,rfl⟩
 . obtain ⟨z,rfl⟩:=hx
   exact q z
section
variable {K : PySem.W.Frag} {H H' : Hp} {v : V} {d : PyData} {a : Addr} {xs : List V} {o : HO}
theorem zai.at (s : zai H H') (h : H a = some o) : H' a = some o:=s _ _ h
theorem zai.back {H2 : Hp} (b : zai H' H2) (s : zai H H') : zai H H2:=s.trans b
theorem zaY.back {H2 : Hp} (b : zaY H' H2) (s : zaY H H') : zaY H H2:=s.trans b
theorem Is.by (s : zai H H') (h : Is K H v d) : Is K H' v d:=Is.same s d v h
theorem Is.thru (h : Is K H v d) (s : zai H H') : Is K H' v d:=Is.same s d v h
theorem Is.thruN {r : Rat} (h : Is K H v (N r)) (s : zaY H H') : Is K H' v (N r):=Is.keep s _ v (zmq r) h
theorem Is.byN {r : Rat} (s : zaY H H') (h : Is K H v (N r)) : Is K H' v (N r):=Is.keep s _ v (zmq r) h
end
end L2
set_option Elab.async false
set_option linter.all false
set_option maxRecDepth 100000
namespace L2
open PySem PySem.Spec PyProof.Rows GM
def zbk (X : Cx) (N' : List Str) (scope : Scope) (cl : List (Str × Addr)) (C : Addr) (s₀ : Shared) (H₀ : Hp) (fp : List Addr) (pins : List (Addr × Obj)) : Cx where
 prog:=X.prog
 w:=X.w
 K:=X.K
 mg:=X.mg
 base:=X.base
 A:=X.A
 N:=N'
 s₀:=s₀
 H₀:=H₀
 env:=compEnvC scope cl C X.env
 outer:=X.stack
 stack:=X.stack
 ex:=fp
 fn:=fun _=>false
 calm:=X.calm
 pn:=X.pn ++ pins
 xe:=fun _ _=>False
structure znv (X : Cx) (scope : Scope) (cl : List (Str × Addr)) : Prop where
 clos : closureFor scope X.env = pure cl
 sub : ∀ x c,cl.lookup x = some c -> X.env.cells.lookup x = some c
 has : ∀ x,((relabel scope X.env).names.lookup x = some .cell \/ (relabel scope X.env).names.lookup x = some .free) -> ∃ c,cl.lookup x = some c
def zbo (src : List (Option Nat)) (σ : St) : St:=src.map fun o=>match o with
 | none=>none
 | some j=>(σ[j]?).join
def zqL (X : Cx) (N' : List Str) (src : List (Option Nat)) : Prop :=
 N'.length = src.length /\ ∀ (i j : Nat) (x : Str),N'[i]? = some x -> src[i]? = some (some j) -> X.N[j]? = some x /\ X.env.scope.names.lookup x = some .cell
section
variable {X : Cx} {pins : List (Addr × Obj)} {σ : St} {H : Hp} {s : Shared} {N' : List Str} {scope : Scope} {cl : List (Str × Addr)} {src : List (Option Nat)} {fp : List Addr}
theorem Inv.block {h₁ : Heap} {tk : Nat} (I : Inv X pins σ H s) (hk : scope.kind = .function) (cok : znv X scope cl) (sok : zqL X N' src) (hf : ∀ b ∈ fp,zen X pins H b) (hlt : ∀ b ∈ fp,b < s.heap.objs.size)
   (hns : h₁.Ns s.heap.objs.size fun _=>none) (old : ∀ b o,s.heap.get? b = some o -> h₁.get? b = some o)
   (hvis : ∀ (i : Nat) x,N'[i]? = some x -> src[i]? ≠ some none -> (relabel scope X.env).names.lookup x = some .cell \/ (relabel scope X.env).names.lookup x = some .free) :
   Inv (zbk X N' scope cl s.heap.objs.size s H fp pins) [] (zbo src σ) H { s with heap:=h₁,toks:=tk }:=by
 have hfr : H s.heap.objs.size = none:=I.hok.fresh (Nat.le_refl _)
 have cne : ∀ x c,cl.lookup x = some c -> c < s.heap.objs.size:=fun x c e=>by
   obtain ⟨v,q⟩:=I.cell x c (cok.sub x c e)
   exact q.lt
 have fplt : ∀ b ∈ fp,b ∉ frs X.stack:=fun b hb z=>by
   obtain ⟨_,f1,f2,_⟩:=hf b hb
   exact (List.mem_cons.mp (I.stkSub b z)).elim f1 f2
 refine ⟨⟨I.ok.mod,?_,I.ok.glob,I.ok.blt,Nat.le_refl _,fun x y c h1 h2=>?_,fun x hx=>?_,fun x c hx=>?_,I.ok.hd,I.ok.frames,.inl rfl,fun b hb=>⟨?_,fun x c e=>?_⟩,I.bs,Nat.le_trans I.ok.bsz I.sz,fun b o e=>?_,fplt,I.stack,I.stkFree⟩,
   rfl,I.bare,Un.kept old,⟨_,hns,fun i x v h1 h2 h3=>?_⟩,fun x c e=>?_,hfr,fun x c e=>?_,fun p hp=>?_,I.hok.kept old,?_⟩
 . show (relabel scope X.env).kind = .function
   exact hk
 . exact I.ok.inj x y c (cok.sub x c h1) (cok.sub y c h2)
 . exact cok.has x hx
 . exact absurd (show false = true from hx) Bool.false_ne_true
 . exact Nat.ne_of_lt (hlt b hb)
 . exact (hf b hb).2.2.2.2.1 x c (cok.sub x c e)
 . intro hb
   obtain ⟨_,_,_,f3,_⟩:=hf b hb
   rcases f3 with z | z
   . exact I.ok.noex b o e z
   . exact absurd (Nat.lt_of_lt_of_le (Heap.lt_size e) (Nat.le_trans I.ok.bsz z)) (Nat.lt_irrefl _)
 . -- a name of the frame around
   have hsrc : ∃ j,src[i]? = some (some j) /\ σ[j]? = some (some v):=by
     unfold zbo at h2
     rw [List.getElem?_map] at h2
     cases q : src[i]? with
     | none=>rw [q] at h2; cases h2
     | some o =>
       rw [q] at h2
       cases o with
       | none=>cases h2
       | some j =>
         refine ⟨j,rfl,?_⟩
         have h2' : (σ[j]?).join = some v:=Option.some.inj h2
         cases q2 : σ[j]? with
         | none=>rw [q2] at h2'; cases h2'
         | some z=>rw [q2] at h2'; exact congrArg some h2'
   obtain ⟨j,hj,hv⟩:=hsrc
   obtain ⟨hN,hc⟩:=sok.2 i j x h1 hj
   obtain ⟨m,_,hl⟩:=I.loc
   obtain ⟨u,ru,lk⟩:=hl j x v hN hv (.inr (.inl hc))
   refine ⟨u,ru,.inr ⟨hvis i x h1 (by rw [hj]; intro z; cases z),?_⟩⟩
   rcases lk with ⟨k,_⟩ | ⟨_,c,ec,hcell⟩
   . have k' : X.env.scope.names.lookup x = some .local:=k
     rw [hc] at k'; cases k'
   . obtain ⟨c',ec'⟩:=cok.has x (hvis i x h1 (by rw [hj]; intro z; cases z))
     have:=cok.sub x c' ec'
     rw [ec] at this; cases this
     obtain ⟨o,ho,hd⟩:=hcell
     exact ⟨c,ec',o,old c o ho,hd⟩
 . obtain ⟨v,o,ho,hd⟩:=I.cell x c (cok.sub x c e)
   exact ⟨v,o,old c o ho,hd⟩
 . exact I.freeC x c (cok.sub x c e)
 . have hp' : p ∈ (X.pn ++ pins) ++ []:=hp
   rw [List.append_nil] at hp'
   obtain ⟨e,n,ne,nf,d⟩:=I.pin p hp'
   refine ⟨old _ _ e,n,Nat.ne_of_lt (Heap.lt_size e),fun z=>?_,d⟩
   exact (List.mem_cons.mp (I.stkSub p.1 z)).elim ne nf
 . show (zbo src σ).length = N'.length
   unfold zbo
   rw [List.length_map,sok.1]
end
def zqX : TT:=fun _ H Q=>Q true H
def PTs (X : Cx) (ifs : List Expr) (t : TT) : Prop :=
 ∀ (pins : List (Addr × Obj)) (s : Shared) (σ : St) (H : Hp) (Q : Bool -> Hp -> Prop),Inv X pins σ H s -> t σ H Q ->
   wpAny (model X.prog X.w) X.A (forIn ifs true fun c r=>if r = true then do let ok <- isTrue c X.env (eval c X.env); pure (ForInStep.yield ok) else pure (ForInStep.yield r)) (TP X pins σ Q) X.xe s
theorem zb5 {X : Cx} : PTs X [] zqX:=fun _ _ _ H _ I h=>wpAny_tests_nil ⟨H,I,h⟩
theorem zpi {X : Cx} {c : Expr} {t : TT} (hc : PT X c t) : PTs X [c] t:=fun pins s σ H Q I h=>wpAny_tests_one (hc pins s σ H Q I h)
section
variable {prog : Program} {w : World} {A : Around} {R : Result -> Shared -> Prop} {s : Shared}
theorem zjm {elt target iter : Expr} {ifs : List Expr} {scope : Scope} {pos : Pos} {it acc : Value} {env : Env} (I : Nat -> Shared -> Prop)
   (turn : ∀ n s,I n s -> wpAny (model prog w) A (pyNext it) (fun r s₁=>match r with
     | none=>R (.ok .next) s₁
     | some v=>wpAny (model prog w) A (letOwnedTupleGo target it v) (fun _ s₁'=>wpAny (model prog w) A (assign target env v) (fun _ s₂ =>
         wpAny (model prog w) A (forIn ifs true fun c r=>if r = true then do let ok <- isTrue c env (eval c env); pure (ForInStep.yield ok) else pure (ForInStep.yield r)) (fun ok s₃ =>
           if ok = true then wpAny (model prog w) A (eval elt env) (fun x s₄ =>
             wpAny (model prog w) A (call (.builtin "list.append") [acc,x]) (fun _ s₅=>∃ m,m < n /\ I m s₅) (fun _ _=>False) s₄) (fun _ _=>False) s₃
           else ∃ m,m < n /\ I m s₃) (fun _ _=>False) s₂) (fun _ _=>False) s₁') (fun _ _=>False) s₁) (fun _ _=>False) s)
   (n : Nat) (h : I n s) : codeAny (model prog w) A (.compLoop (.ListComp elt [⟨target,iter,ifs,0⟩] scope pos) 0 it acc env) R s:=by
 refine codeAny_loop rfl I (fun n s hI=>?_) n h
 show wpAny _ A ((compTurn (.ListComp elt [⟨target,iter,ifs,0⟩] scope pos) 0 it acc env).onRaise (fun x=>do noteFrame x env; theTreesLotGoes x)) _ _ s
 refine wpAny_noted ?_
 rw [compTurn_list]
 refine wpAny_bind (wpAny_standAt (wpAny_bind (wpAny_mono (turn n s hI) (fun r s₁ h₁=>?_) fun _ _ h'=>h'.elim)))
 cases r with
 | none=>exact wpAny_pure h₁
 | some v =>
   refine wpAny_bind (wpAny_mono h₁ (fun _ s₁' h₁'=>?_) fun _ _ h'=>h'.elim)
   refine wpAny_bind (wpAny_mono h₁' (fun _ s₂ h₂=>wpAny_bind (wpAny_mono h₂ (fun ok s₃ h₃=>?_) fun _ _ h'=>h'.elim)) fun _ _ h'=>h'.elim)
   cases ok with
   | false=>exact wpAny_pure ⟨rfl,h₃⟩
   | true=>exact wpAny_bind (wpAny_bind (wpAny_mono h₃ (fun x s₄ h₄=>wpAny_bind (wpAny_mono h₄ (fun _ s₅ h₅=>wpAny_pure (wpAny_pure ⟨rfl,h₅⟩)) fun _ _ h'=>h'.elim)) fun _ _ h'=>h'.elim))
end
def zfI (g : TG) (tt : TT) (te : TE) (J : It) (D : Addr) (σ0 : St) (H0 : Hp) (Q : Hp -> Prop) : Prop :=
 ∃ W : Nat -> Nat -> St -> Hp -> Prop,(∃ m,W 0 m σ0 H0) /\ ∀ i m σ' H',W i m σ' H' ->
   (J.stop i H' /\ Q H') \/ (J.go i H' /\ ∃ M : St -> Hp -> Prop,(∀ σ2 H2,M σ2 H2 -> ∃ m',m' < m /\ W (i + 1) m' σ2 H2) /\
     ∀ x H2,J.yld i H' x H2 -> g x σ' H2 fun σ3 H3=>tt σ3 H3 fun ok H4=>if ok = true then te σ3 H4 fun y H5=>∃ ys,H5 D = some (.lst ys) /\ ys.length < sizeLine /\ M σ3 (upd H5 D (.lst (ys ++ [y]))) else M σ3 H4)
def zh2 (src : List (Option Nat)) (wi : TI) (g : TG) (tt : TT) (te : TE) : TE:=fun σ H Q=>wi σ H fun J H1=>∀ D,H1 D = none -> zfI g tt te J D (zbo src σ) (upd H1 D (.lst [])) (fun H'=>Q (.ref D) H')
structure zl9 (Y : Cx) (tg : Expr) (J : It) (fp : List Addr) (it : Addr) (tn : Nat -> Heap -> Prop) : Prop where
 item : ∀ (i : Nat) (pins : List (Addr × Obj)) (s : Shared) (σ : St) (H : Hp) (E : Value -> Shared -> Prop),Inv Y pins σ H s -> (∀ b ∈ fp,zen Y pins H b) -> tn i s.heap -> J.go i H ->
   wpAny (model Y.prog Y.w) Y.A (pyNext (.ref it)) (fun r s1=>∃ u,r = some u /\ wpAny (model Y.prog Y.w) Y.A (letOwnedTupleGo tg (.ref it) u) (fun _ s2=>∃ x H',Inv Y pins σ H' s2 /\ zbf x u /\ J.yld i H x H' /\ tn (i + 1) s2.heap /\ ∀ b ∈ fp,H' b = none) E s1) E s
 done : ∀ (i : Nat) (pins : List (Addr × Obj)) (s : Shared) (σ : St) (H : Hp) (E : Value -> Shared -> Prop),Inv Y pins σ H s -> (∀ b ∈ fp,zen Y pins H b) -> tn i s.heap -> J.stop i H ->
   wpAny (model Y.prog Y.w) Y.A (pyNext (.ref it)) (fun r s1=>r = none /\ Inv Y pins σ H s1) E s
theorem zie.toC {P : Program} {w : World} {K : PySem.W.Frag} {tg : Expr} {J : It} {fp : List Addr} {it : Addr} {tn : Nat -> Heap -> Prop} (T : zie P w K tg J fp it tn) {Y : Cx} (h1 : Y.prog = P) (h2 : Y.w = w) (h3 : Y.K = K) (hc : Y.calm = true) : zl9 Y tg J fp it tn:=by
 subst h1 h2 h3
 exact ⟨T.item Y rfl rfl rfl hc,T.done Y rfl rfl rfl hc⟩
section
variable {X : Cx} {pins : List (Addr × Obj)} {σ : St} {H : Hp} {s : Shared} {N' : List Str} {scope : Scope} {cl : List (Str × Addr)} {src : List (Option Nat)} {elt tgt iter : Expr} {ifs : List Expr} {pos : Pos} {wi : TI} {g : TG} {tt : TT} {te : TE}
structure zbG (X : Cx) (N' : List Str) (scope : Scope) (cl : List (Str × Addr)) (src : List (Option Nat)) : Prop where
 kind : scope.kind = .function
 cell : ∀ y ∈ scope.names,y.2 ≠ .cell
 names : ∀ y ∈ scope.names,y.2 = .local -> scope.names.lookup y.1 = some .local
 clos : znv X scope cl
 srco : zqL X N' src
 vis : ∀ (i : Nat) x,N'[i]? = some x -> src[i]? ≠ some none -> (relabel scope X.env).names.lookup x = some .cell \/ (relabel scope X.env).names.lookup x = some .free
theorem zgm {it : Addr} {fp : List Addr} {tn : Nat -> Heap -> Prop} {J : It} {RQ : Addr -> Hp -> Prop} {E : Value -> Shared -> Prop} {RR : Value -> Addr -> Result -> Shared -> Prop}
   (TC : ∀ C s₀ H₀,zl9 (zbk X N' scope cl C s₀ H₀ fp pins) tgt J fp it tn) (ok : zbG X N' scope cl src)
   (hg : ∀ C s₀ H₀ fp pins,PG (zbk X N' scope cl C s₀ H₀ fp pins) tgt g) (ht : ∀ C s₀ H₀ fp pins,PTs (zbk X N' scope cl C s₀ H₀ fp pins) ifs tt) (he : ∀ C s₀ H₀ fp pins,PE (zbk X N' scope cl C s₀ H₀ fp pins) elt te)
   (I : Inv X pins σ H s) (T : zie X.prog X.w X.K tgt J fp it tn) (st : tn 0 s.heap) (hf : ∀ b ∈ fp,zen X pins H b)
   (rd : ∀ D,H D = none -> zfI g tt te J D (zbo src σ) (upd H D (.lst [])) (fun H'=>RQ D H'))
   (hRR : ∀ D C H' s' m,Inv X pins σ H' s' -> s'.heap.Ns C m -> zen X pins H' C -> RQ D H' -> RR (.ref D) C (.ok .next) s') :
   wpAny (model X.prog X.w) X.A (newList []) (fun acc s₃=>wpAny (model X.prog X.w) X.A (newFunctionEnv scope X.env.globals cl [] X.env.qual none .none (some X.env)) (fun cenv s₄ =>
     codeAny (model X.prog X.w) X.A (.compStart (.ListComp elt [⟨tgt,iter,ifs,0⟩] scope pos) 0 (.ref it) acc { cenv with scope:=relabel scope X.env }) (RR acc cenv.locals) s₄) E s₃) E s:=by
 -- the list
 refine wpAny_newObj_type ?_ (by show 0 <= sizeLine; exact Nat.zero_le _)
 have hD : H s.heap.objs.size = none:=I.hok.fresh (Nat.le_refl _)
 have I3 : Inv X pins σ (upd H s.heap.objs.size (.lst [])) { s with heap:=s.heap.push { cls:=.type "list",data:=.seq ([] : List Value).toArray } } :=
   I.lnew (ys:=[]) (its:=[]) (t':=s.toks) .nil (Nat.zero_le _)
 have old3 : ∀ b o,s.heap.get? b = some o -> (s.heap.push { cls:=.type "list",data:=.seq ([] : List Value).toArray }).get? b = some o:=fun b o e=>Heap.get?_push_of_some _ e
 have lt0 : ∀ b ∈ fp,b < s.heap.objs.size:=fun b hb=>by
   obtain ⟨o,e,_⟩:=T.obj 0 _ st b hb
   exact Heap.lt_size e
 have hf3 : ∀ b ∈ fp,zen X pins (upd H s.heap.objs.size (.lst [])) b:=fun b hb=>⟨by rw [zbX (Nat.ne_of_lt (lt0 b hb))]; exact (hf b hb).1,(hf b hb).2⟩
 have lt3 : ∀ b ∈ fp,b < (s.heap.push { cls:=.type "list",data:=.seq ([] : List Value).toArray }).objs.size:=fun b hb=>by
   rw [Heap.size_push]; exact Nat.lt_succ_of_lt (lt0 b hb)
 have st3 : tn 0 (s.heap.push { cls:=.type "list",data:=.seq ([] : List Value).toArray }):=T.keep _ _ _ st fun b _ o e=>old3 b o e
 obtain ⟨W,⟨m0,w0⟩,turn⟩:=rd _ hD
 generalize hs3 : ({ s with heap:=s.heap.push { cls:=.type "list",data:=.seq ([] : List Value).toArray } } : Shared) = s3 at I3 ⊢
 have hh3 : s3.heap = s.heap.push { cls:=.type "list",data:=.seq ([] : List Value).toArray }:=by rw [<- hs3]
 rw [<- hh3] at lt3 st3
 clear old3 hs3 hh3
 generalize hD' : s.heap.objs.size = D at *
 -- the block's dict
 refine wpAny_newFunctionEnv ok.cell (by intro y hy; cases hy) (fun h₁ hns₁ hsb₁=>?_) ok.kind
 have old : ∀ b o,s3.heap.get? b = some o -> h₁.get? b = some o:=fun b o e=>hsb₁.extBut b o (Nat.ne_of_lt (Heap.lt_size e)) (Heap.get?_push_of_some _ e)
 have hC : zen X pins (upd H D (.lst [])) s3.heap.objs.size:=I3.fpOk (Nat.le_refl _) (I3.hok.fresh (Nat.le_refl _))
 have IB : ∀ tk,Inv (zbk X N' scope cl s3.heap.objs.size s3 (upd H D (.lst [])) fp pins) [] (zbo src σ) (upd H D (.lst [])) { s3 with heap:=h₁,toks:=tk }:=fun tk =>
   I3.block ok.kind ok.clos ok.srco hf3 lt3 hns₁ old ok.vis
 have stB : tn 0 h₁:=T.keep _ _ _ st3 fun b _ o e=>old b o e
 -- what is true of the iterator's records within
 have stat : ∀ {H' : Hp} ,(∀ b ∈ fp,H' b = none) -> ∀ b ∈ fp,zen (zbk X N' scope cl s3.heap.objs.size s3 (upd H D (.lst [])) fp pins) [] H' b:=fun hn b hb=>by
   obtain ⟨_,f1,f2,f3,f4,f5⟩:=hf3 b hb
   refine ⟨hn b hb,Nat.ne_of_lt (lt3 b hb),fun z=>(List.mem_cons.mp (I3.stkSub b z)).elim f1 f2,.inl hb,fun x c e=>f4 x c (ok.clos.sub x c e),fun p hp=>?_⟩
   have hp' : p ∈ (X.pn ++ pins) ++ []:=hp
   rw [List.append_nil] at hp'
   exact f5 p hp'
 -- from within back to the frame around
 have back : ∀ {σ' : St} {H' : Hp} {s' : Shared},Inv (zbk X N' scope cl s3.heap.objs.size s3 (upd H D (.lst [])) fp pins) [] σ' H' s' -> Inv X pins σ H' s' /\ (∃ m,s'.heap.Ns s3.heap.objs.size m) /\ zen X pins H' s3.heap.objs.size:=fun {σ' H' s'} J=>by
   obtain ⟨m,hn,_⟩:=J.loc
   refine ⟨I3.call' (ch:=fp) J.os J.base J.hok J.bare (fun b hb=>?_),⟨m,hn⟩,⟨J.free,hC.2⟩⟩
   obtain ⟨_,f1,_,f3,f4,f5⟩:=hf3 b hb
   exact ⟨f3,f1,f4,f5⟩
 have loop : ∀ tk,codeAny (model X.prog X.w) X.A (.compLoop (.ListComp elt [⟨tgt,iter,ifs,0⟩] scope pos) 0 (.ref it) (.ref D) (compEnvC scope cl s3.heap.objs.size X.env)) (RR (.ref D) s3.heap.objs.size) { s3 with heap:=h₁,toks:=tk }:=by
   intro tk
   refine zjm (fun n s'=>∃ i σ' H',Inv (zbk X N' scope cl s3.heap.objs.size s3 (upd H D (.lst [])) fp pins) [] σ' H' s' /\ tn i s'.heap /\ (∀ b ∈ fp,H' b = none) /\ W i n σ' H') ?_ m0
     ⟨0,_,_,IB tk,stB,fun b hb=>(hf3 b hb).1,w0⟩
   rintro n s4 ⟨i,σ4,H4,I4,st4,fr4,w4⟩
   rcases turn i n σ4 H4 w4 with ⟨stop,q⟩ | ⟨go,M,hM,step⟩
   . refine thn ((TC _ _ _).done i [] s4 σ4 H4 (fun _ _=>False) I4 (stat fr4) st4 stop) fun r s5 ⟨hr,I5⟩=>?_
     subst hr
     obtain ⟨J,⟨m,hn⟩,hCf⟩:=back I5
     exact hRR D _ H4 s5 m J hn hCf q
   . refine thn ((TC _ _ _).item i [] s4 σ4 H4 (fun _ _=>False) I4 (stat fr4) st4 go) fun r s5 ⟨u,hr,h5⟩=>?_
     subst hr
     refine thn h5 fun _ s6 ⟨x,H6,I6,r6,y6,st6,fr6⟩=>?_
     have I6':=I6.pinned (stat fr6) (T.obj _ _ st6)
     have again : ∀ {σ7 : St} {H7 : Hp} {s7 : Shared},Inv (zbk X N' scope cl s3.heap.objs.size s3 (upd H D (.lst [])) fp pins) ([] ++ zhp fp s6.heap) σ7 H7 s7 -> M σ7 H7 ->
         ∃ m,m < n /\ ∃ i σ' H',Inv (zbk X N' scope cl s3.heap.objs.size s3 (upd H D (.lst [])) fp pins) [] σ' H' s7 /\ tn i s7.heap /\ (∀ b ∈ fp,H' b = none) /\ W i m σ' H':=fun {σ7 H7 s7} I7 n7=>by
       obtain ⟨m',hm,w7⟩:=hM σ7 H7 n7
       refine ⟨m',hm,i + 1,σ7,H7,I7.unpinned,T.keep _ _ _ st6 fun b hb o e=>(I7.pin (b,o) (List.mem_append_right _ (List.mem_append_right _ (zeu hb e)))).1,fun b hb=>?_,w7⟩
       obtain ⟨o,e,d⟩:=T.obj _ _ st6 b hb
       exact (I7.pin (b,o) (List.mem_append_right _ (List.mem_append_right _ (zeu hb e)))).2.1
     refine thn (hg _ _ _ _ _ _ s6 σ4 H6 x u _ I6' r6 (step x H6 y6)) fun _ s7 ⟨σ7,H7,I7,q7⟩=>?_
     refine thn (ht _ _ _ _ _ _ s7 σ7 H7 _ I7 q7) fun k s8 ⟨H8,I8,q8⟩=>?_
     cases k with
     | false=>exact again I8 q8
     | true =>
       rw [if_pos rfl] at q8 ⊢
       refine thn (he _ _ _ _ _ _ s8 σ7 H8 _ I8 q8) fun y s9 ⟨yv,H9,I9,r9,ys,hys,hz,q9⟩=>?_
       exact thn (zcx _ s9 σ7 H9 (.ref D) [yv] (.ref D) [y] (fun _ H'=>M σ7 H') I9 rfl (.cons r9 .nil) ⟨D,ys,yv,rfl,rfl,hys,hz,q9⟩) fun _ s10 ⟨_,H10,I10,_,q10⟩=>again I10 q10
 exact codeAny_compStart_list (loop _) (T.self _ _ _ _ _ stB (loop _))
theorem zcK (hc : X.calm = true) (ok : zbG X N' scope cl src) (hi : PI X tgt iter wi)
   (hg : ∀ C s₀ H₀ fp pins,PG (zbk X N' scope cl C s₀ H₀ fp pins) tgt g) (ht : ∀ C s₀ H₀ fp pins,PTs (zbk X N' scope cl C s₀ H₀ fp pins) ifs tt) (he : ∀ C s₀ H₀ fp pins,PE (zbk X N' scope cl C s₀ H₀ fp pins) elt te)
   (hs : ∀ x,foldedSetIterable iter X.env x = pure x:=by intro _; rfl) : PE X (.ListComp elt [⟨tgt,iter,ifs,0⟩] scope pos) (zh2 src wi g tt te):=by
 intro pins s σ H Q I h
 rw [eval_ListComp]
 refine wpAny_comprehension_free (use:=none) rfl hs ok.clos.clos ok.kind ok.names (thn (hi pins s σ H _ I h) fun v s1 h1=>thn h1 fun itv s2 h2=>?_)
 obtain ⟨it,fp,tn,J,H2,e,I2,T,st2,f2,rd⟩:=h2
 subst e
 refine zgm (RQ:=fun D H'=>Q (.ref D) H') (RR:=fun acc C=>compPost (model X.prog X.w) X.A X.xe none (EP X pins σ Q) acc C) (fun _ _ _=>T.toC rfl rfl rfl hc) ok hg ht he I2 T st2 f2 rd ?_
 intro D C H' s' m J hn hC q
 obtain ⟨c0,c1,_,c3,c4,c5⟩:=hC
 exact ⟨m,hn,fun h' sb=>⟨.ref D,H',J.turned (t':=s'.toks) (fun b o hb e=>(sb.2 b hb).trans e) c0 c1 c3 c4 c5,rfl,q⟩⟩
theorem zfE {i : Nat} {y : Str} {py spos : Pos} (hN : X.N.Nodup) (hy : X.N[i]? = some y) (hly : Loc X.env.scope y) (hc : X.calm = true) (ok : zbG X N' scope cl src) (hi : PI X tgt iter wi)
   (hg : ∀ C s₀ H₀ fp pins,PG (zbk X N' scope cl C s₀ H₀ fp pins) tgt g) (ht : ∀ C s₀ H₀ fp pins,PTs (zbk X N' scope cl C s₀ H₀ fp pins) ifs tt) (he : ∀ C s₀ H₀ fp pins,PE (zbk X N' scope cl C s₀ H₀ fp pins) elt te)
   (hsw : swapsWith (.ListComp elt [⟨tgt,iter,ifs,0⟩] scope pos) (some (.Name y py)) spos.line X.env = pure true:=by rfl)
   (hs : ∀ x,foldedSetIterable iter X.env x = pure x:=by intro _; rfl) (hf : X.fn y = true \/ X.env.scope.names.lookup y = some .local:=by first | exact .inl rfl | exact .inr rfl | assumption) :
   PS X (.Assign [.Name y py] (.ListComp elt [⟨tgt,iter,ifs,0⟩] scope pos) spos) (zkZ (zh2 src wi g tt te) (zeH i)):=by
 intro pins s σ H D0 I h
 rw [exec_Assign_Name_used _ _ _ _ hsw]
 refine wpAny_bind (wpAny_standAt (wpAny_bind ?_))
 show wpAny _ X.A (do let _ <- comprehension (.ListComp elt [⟨tgt,iter,ifs,0⟩] scope pos) scope X.env _ (newList []) false (eval iter X.env) (some (assign (.Name y py) X.env))) _ _ s
 refine wpAny_bind (wpAny_mono (wpAny_comprehension_free (Q:=fun _ s'=>SP X pins D0 .next s') rfl hs ok.clos.clos ok.kind ok.names (thn (hi pins s σ H _ I h) fun v s1 h1=>thn h1 fun itv s2 h2=>?_))
   (fun _ s' hq=>wpAny_pure (wpAny_pure hq)) fun _ _ e=>e)
 obtain ⟨it,fp,tn,J,H2,e,I2,T,st2,f2,rd⟩:=h2
 subst e
 refine zgm (RQ:=fun D H'=>zeH i (.ref D) σ H' D0.nx) (RR:=fun acc C=>compPost (model X.prog X.w) X.A X.xe (some (assign (.Name y py) X.env)) (fun _ s'=>SP X pins D0 .next s') acc C) (fun _ _ _=>T.toC rfl rfl rfl hc) ok hg ht he I2 T st2 f2 rd ?_
 intro D C H' s' m J hn hC q
 obtain ⟨c0,c1,_,c3,c4,c5⟩:=hC
 show wpAny _ _ (assign (.Name y py) X.env (.ref D)) _ _ s'
 refine wpAny_assign_Name (zgx J hN hy hly (v:=.ref D) rfl (fun s'' J2 ⟨a,sb,ha⟩=>?_) hf)
 have hCa : C ≠ a:=by
   rcases ha with z | z
   . rw [z]; exact c1
   . exact (c4 y a z).symm
 exact ⟨m,hn.sameBut sb hCa,fun h' sb'=>⟨_,H',J2.turned (t':=s''.toks) (fun b o hb e=>(sb'.2 b hb).trans e) c0 c1 c3 c4 c5,q⟩⟩
end
end L2
set_option Elab.async false
set_option linter.all false
set_option maxRecDepth 100000
namespace L2
open PySem PySem.Spec PyProof.Rows GM
abbrev Tr0 (h B : Heap) (e : Addr) (cls : Value) : Prop :=
 ∃ oe vs,h.get? e = some oe /\ oe.cls = cls /\ oe.data = .fields vs /\ vs[1]? = some .none /\ vs[2]? = some .none /\ oe.dict = none /\ B.get? e = none
abbrev Tr1 (h B : Heap) (e : Addr) (cls fl : Value) : Prop :=
 ∃ oe vs T oT ts,h.get? e = some oe /\ oe.cls = cls /\ oe.data = .fields vs /\ vs[1]? = some (.ref T) /\ vs[2]? = some .none /\ oe.dict = none /\ B.get? e = none /\ B.get? T = none /\ T ≠ e /\ h.get? T = some oT /\ oT.data = .fields ts /\ ts[3]? = some fl
structure Fly (B : Heap) (l : List Env) (e : Addr) (cls fl : Value) (h : Heap) : Prop where
 st : B.StaysIn h
 fr : h.FunFrames B l
 tr : Tr1 h B e cls fl
theorem zkQ {f : Array Value -> Array Value} (o : Obj) : (Obj.mapFields f o).dict = o.dict:=by
 obtain ⟨c,d,dt,sl⟩:=o
 cases dt <;> rfl
theorem zdw {h : Heap} {T : Addr} {f : Obj -> Obj} {b : Addr} (n : b ≠ T) : (h.update T f).get? b = h.get? b:=Heap.get?_update_other _ _ (Ne.symm n)
theorem zeU {h : Heap} {T b : Addr} {oT o : Obj} {ts : Array Value} (hT : h.get? T = some oT) (dT : oT.data = .fields ts) (hb : h.get? b = some o) (hn : ∀ vs,o.data ≠ .fields vs) : b ≠ T:=by
 rintro rfl
 rw [hT] at hb
 cases hb
 exact hn _ dT
theorem zlj {B : Heap} {T b : Addr} {o : Obj} (n : B.get? T = none) (q : B.get? b = some o) : b ≠ T:=by
 rintro rfl
 rw [n] at q
 cases q
section
variable {M : Model} {A : Around} {E : Value -> Shared -> Prop} {s : Shared} {B : Heap} {l outer : List Env} {env : Env} {L e : Addr} {cls fl : Value} {Q : Unit -> Shared -> Prop}
theorem Fly.land (F : Fly B l e cls fl s.heap) (k : ∀ h',Fly B l e cls .none h' -> s.heap.UpToSlots h' -> Q () { s with heap:=h' }) : wpAny M A (setFlight (.ref e) none) Q E s:=by
 obtain ⟨st,fr,oe,vs,T,oT,ts,he,hc,hd,h1,h2,hdi,be,bT,ne,hT,dT,h3⟩:=F
 have sz : 3 < ts.size:=(Array.getElem?_eq_some_iff.mp h3).1
 unfold setFlight
 refine wpAny_bind (wpAny_field he hd h1 ?_)
 rw [if_pos (by simp)]
 have at3 : ∀ b,b ≠ T -> (s.heap.update T (Obj.mapFields (·.setIfInBounds 3 Value.none))).get? b = s.heap.get? b:=fun b n=>zdw n
 have tr : Tr1 (s.heap.update T (Obj.mapFields (·.setIfInBounds 3 Value.none))) B e cls .none :=
   ⟨oe,vs,T,Obj.mapFields (·.setIfInBounds 3 Value.none) oT,ts.setIfInBounds 3 Value.none,(at3 e ne.symm).trans he,hc,hd,h1,h2,hdi,be,bT,ne,
     Heap.get?_update_self _ hT (Obj.isFreed_of_fields (Obj.data_mapFields dT _)),Obj.data_mapFields dT _,by simp [sz]⟩
 refine wpAny_setField hT dT sz (k _ ⟨fun b o q=>(at3 b (zlj bT q)).trans (st b o q),fr.of_keeps fun b o hb hn=>⟨o,(at3 b (zeU hT dT hb hn)).trans hb,rfl⟩,tr⟩ fun b o hb hn=>⟨o.slots,(at3 b (zeU hT dT hb hn)).trans hb⟩)
theorem ziJ {oe : Obj} {vs : Array Value} {head : Value} {had : Bool} (hfr : A.frames = some (env :: outer)) (hf : env.frame = some L) (st : B.StaysIn s.heap) (fr : s.heap.FunFrames B (env :: outer)) (he : s.heap.get? e = some oe)
   (hd : oe.data = .fields vs) (sz : 1 < vs.size) (h2 : vs[2]? = some .none) (hdi : oe.dict = none) (be : B.get? e = none) (k : ∀ h',Fly B (env :: outer) e oe.cls (rawInt L) h' -> s.heap.UpToSlots h' -> Q () { s with heap:=h' }) :
   wpAny M A (do let a <- frameOf env; let pl <- entryPlaceOf L had; let b <- EntryCells.newEntry head a .none (rawInt L) .none pl; setField (.ref e) 1 b) Q E s:=by
 have nfr : e ∉ (env :: outer).filterMap (·.frame):=fun z=>by
   obtain ⟨_,o,ho,hnf⟩:=fr.mem z
   rw [he] at ho
   cases ho
   exact hnf vs hd
 refine wpAny_bind (wpAny_frameOf_fun hfr fr hf fun g sg=>wpAny_bind (wpAny_entryPlaceOf fun pl hpl=>?_))
 unfold EntryCells.newEntry newFields
 refine wpAny_bind (wpAny_newObj_type ?_ (hpl.sizeOk5 _ _ _ _ _))
 have eg : g.get? e = some oe:=(sg.2.1 e nfr).trans he
 have stg : B.StaysIn g:=fun b o q=>by
   rw [sg.2.1 b fun z=>?_]
   . exact st b o q
   . rw [(fr.mem z).1] at q; cases q
 generalize hob : ({ cls:=.type "traceback",data:=.fields ([head,.ref L,.none,rawInt L,.none] ++ (if pl.isEmpty then List.replicate 6 Value.none else pl)).toArray } : Obj) = tb
 have dtb : tb.data = .fields ([head,.ref L,.none,rawInt L,.none] ++ (if pl.isEmpty then List.replicate 6 Value.none else pl)).toArray:=by rw [<- hob]
 have ftb : tb.isFreed = false:=Obj.isFreed_of_fields dtb
 have e2:=Heap.get?_push_of_some (h:=g) tb eg
 have neT : g.objs.size ≠ e:=Nat.ne_of_gt (Heap.lt_size eg)
 have at3 : ∀ b o,b ≠ e -> g.get? b = some o -> ((g.push tb).update e (Obj.mapFields (·.setIfInBounds 1 (.ref g.objs.size)))).get? b = some o:=fun b o n q=>by
   rw [zdw n]
   exact Heap.get?_push_of_some _ q
 refine wpAny_setField e2 hd sz (k _ ?_ ?_)
 . have d3:=Obj.data_mapFields hd (·.setIfInBounds 1 (Value.ref g.objs.size))
   refine ⟨fun b o q=>at3 b o (zlj be q) (stg b o q),fr.of_keeps fun b o hb hn=>?_,_,_,g.objs.size,tb,_,Heap.get?_update_self _ e2 (Obj.isFreed_of_fields d3),Obj.cls_mapFields _ _,d3,by simp [sz],?_,?_,be,stg.fresh,neT,?_,dtb,?_⟩
   . obtain ⟨sl,q⟩:=sg.2.2 b o hb
     exact ⟨_,at3 b _ (zeU he hd hb hn) q,rfl⟩
   . rw [Array.getElem?_setIfInBounds_ne (by decide)]; exact h2
   . exact (zkQ oe).trans hdi
   . rw [zdw neT]; exact Heap.get?_push_size _ ftb
   . first | (simp; done) | (rcases hpl with rfl | ⟨_,_,_,_,_,_,_,rfl⟩ <;> simp)
 . exact fun b o hb hn=>by
     obtain ⟨sl,q⟩:=sg.2.2 b o hb
     exact ⟨sl,at3 b _ (zeU he hd hb hn) q⟩
theorem zmH (hfr : A.frames = some (env :: outer)) (hf : env.frame = some L) (st : B.StaysIn s.heap) (fr : s.heap.FunFrames B (env :: outer)) (t : Tr0 s.heap B e cls)
   (k : ∀ h',Fly B (env :: outer) e cls (rawInt L) h' -> s.heap.UpToSlots h' -> Q () { s with heap:=h' }) : wpAny M A (noteFrame (.ref e) env) Q E s:=by
 obtain ⟨oe,vs,he,hc,hd,h1,h2,hdi,be⟩:=t
 subst hc
 unfold noteFrame
 simp only [hf]
 refine wpAny_bind (wpAny_field he hd h1 ?_)
 rw [if_neg (by decide)]
 exact ziJ hfr hf st fr he hd (Array.getElem?_eq_some_iff.mp h1).1 h2 hdi be k
theorem Fly.note (F : Fly B (env :: outer) e cls .none s.heap) (hfr : A.frames = some (env :: outer)) (hf : env.frame = some L)
   (k : ∀ h',Fly B (env :: outer) e cls (rawInt L) h' -> s.heap.UpToSlots h' -> Q () { s with heap:=h' }) : wpAny M A (noteFrame (.ref e) env) Q E s:=by
 obtain ⟨st,fr,oe,vs,T,oT,ts,he,hc,hd,h1,h2,hdi,be,bT,ne,hT,dT,h3⟩:=F
 subst hc
 unfold noteFrame
 simp only [hf]
 refine wpAny_bind (wpAny_field he hd h1 ?_)
 rw [if_pos (by simp)]
 refine wpAny_bind (wpAny_field hT dT h3 ?_)
 rw [if_neg (by simp [rawInt])]
 refine wpAny_bind (wpAny_setField hT dT (Array.getElem?_eq_some_iff.mp h3).1 ?_)
 refine ziJ hfr hf (fun b o q=>?_) (fr.of_keeps fun b o hb hn=>⟨o,?_,rfl⟩) ?_ hd (Array.getElem?_eq_some_iff.mp h1).1 h2 hdi be fun h' F' sm=>k h' F' fun b o hb hn=>sm b o ?_ hn
 . show (Heap.update _ _ _).get? b = _
   rw [zdw (zlj bT q)]; exact st b o q
 . show (Heap.update _ _ _).get? b = _
   rw [zdw (zeU hT dT hb hn)]; exact hb
 . show (Heap.update _ _ _).get? e = _
   rw [zdw ne.symm]; exact he
 . show (Heap.update _ _ _).get? b = _
   rw [zdw (zeU hT dT hb hn)]; exact hb
theorem zlA (hfr : A.frames = some (env :: outer)) (hf : env.frame = some L) (st : B.StaysIn s.heap) (fr : s.heap.FunFrames B (env :: outer)) (t : Tr0 s.heap B e cls)
   (k : ∀ h',Fly B outer e cls .none h' -> s.heap.UpToSlots h' -> Q () { s with heap:=h' }) : wpAny M A (leaving env (.ref e)) Q E s:=by
 unfold leaving
 refine wpAny_bind (zmH hfr hf st fr t fun h1 F1 s1=>Fly.land F1 fun h2 F2 s2=>k h2 ⟨F2.st,F2.fr.2.2,F2.tr⟩ (s1.trans s2))
end
theorem zcJ.there {P : Program} {w : World} {H : Hp} {h : Heap} {a : Addr} {o : HO} (x : zcJ P w H h a o) : ∃ u,h.get? a = some u:=by
 cases o with
 | lst xs=>obtain ⟨_,_,_,_,e⟩:=x; exact ⟨_,e⟩
 | tup xs=>obtain ⟨_,_,_,_,e,_⟩:=x; exact ⟨_,e⟩
 | dK kvs=>obtain ⟨_,_,_,_,o,_,_,e,_⟩:=x; exact ⟨_,e⟩
 | dT kvs=>obtain ⟨_,_,_,_,o,_,_,e,_⟩:=x; exact ⟨_,e⟩
 | set S n=>obtain ⟨o,_,_,_,e,_⟩:=x; exact ⟨_,e⟩
 | ins C dx fs=>obtain ⟨_,_,_,e,_⟩:=x; exact ⟨_,e⟩
 | own y=>exact x
 | xd fs=>obtain ⟨_,⟨_,_,_,e,_⟩,_⟩:=x; exact ⟨_,e⟩
 | rng lo hi=>obtain ⟨_,_,_,e⟩:=x; exact ⟨_,e⟩
 | frz ob u=>obtain ⟨e,_⟩:=x; exact ⟨_,e⟩
 | tbl ps=>exact ⟨_,x⟩
 | met f y=>exact ⟨_,x⟩
 | ext φ=>obtain ⟨_,e,_⟩:=x; exact e
structure znc (B : Heap) (fs : List Addr) (H H' : Hp) (h : Heap) : Prop where
 trk : ∀ a o,H' a = some o -> ∃ u,B.get? a = some u
 old : ∀ b o,h.get? b = some o -> H b = none -> b ∉ fs -> B.get? b = some o
 thr : ∀ b o,h.get? b = some o -> b ∉ fs -> ∃ u,B.get? b = some u
def CX1 (P : Program) (w : World) : CXT:=fun outer H s E e s'=>∃ (ex : Addr) (C : Value) (H' : Hp) (B : Heap),e = .ref ex /\ s'.os = s.os /\ AllBare s'.gens /\ Un (frs outer) [] H H' s.heap s'.heap /\ HOk P w H' s'.heap /\
 Fly B outer ex C .none s'.heap /\ znc B (frs outer) H H' s.heap /\ E C none H'
section
variable {B h h1 h' : Heap} {fs : List Addr} {H H' : Hp} {P : Program} {w : World}
theorem znc.un (ov : znc B fs H H' h) (un : Un fs [] H H' h h1) (hfs : ∀ b ∈ fs,H b = none /\ ∃ o,h.get? b = some o /\ ∀ vs,o.data ≠ .fields vs) (st : B.StaysIn h') (sm : h1.UpToSlots h') : Un fs [] H H' h h':=by
 have slot : ∀ b o,h.get? b = some o -> b ∈ fs -> ∃ sl,h'.get? b = some { o with slots:=sl }:=fun b o e hb=>by
   obtain ⟨n,o',ho',nr⟩:=hfs b hb
   rw [e] at ho'
   cases ho'
   obtain ⟨sl,e1⟩:=un.any e n (by simp)
   obtain ⟨sl2,e2⟩:=sm b _ e1 nr
   exact ⟨sl2,e2⟩
 refine ⟨fun b o e n nf _=>st b o (ov.old b o e n nf),fun b o e _ hb _=>slot b o e hb,un.free,fun b o e _=>?_,un.tups,un.frzs,un.tbls⟩
 by_cases hb : b ∈ fs
 . obtain ⟨sl,e1⟩:=slot b o e hb
   exact ⟨_,e1⟩
 . obtain ⟨u,e1⟩:=ov.thr b o e hb
   exact ⟨u,st b u e1⟩
theorem znc.hok (ov : znc B fs H H' h) (hok : HOk P w H' h1) (st1 : B.StaysIn h1) (st : B.StaysIn h') : HOk P w H' h':=fun a o e=>by
 refine (hok a o e).stay (fun b u hb r=>?_) (fun _ z=>z) fun _ _ z=>z
 have : ∃ v,B.get? b = some v:=by
   rcases hb with rfl | hb
   . exact ov.trk _ _ e
   . exact ov.trk _ _ hb
 obtain ⟨v,ev⟩:=this
 have e2:=st1 b v ev
 rw [r] at e2
 cases e2
 exact st b u ev
end
section
variable {X : Cx} {pins : List (Addr × Obj)} {σ : St} {H H' : Hp} {s s' : Shared} {B : Heap} {ex : Addr} {C : Value} {E : XK} {E' : Value -> Shared -> Prop}
theorem zkE (I : Inv X pins σ H s) (hx : X.ex = []) (os : s'.os = s.os) (bare : AllBare s'.gens) (un : Un (frs X.stack) [] H H' s.heap s'.heap) (hok : HOk X.prog X.w H' s'.heap) (stB : B.StaysIn s'.heap) (ov : znc B (frs X.stack) H H' s.heap)
   (q : E C none H') (fly : ∀ (Q : Unit -> Shared -> Prop),(∀ h',Fly B X.outer ex C .none h' -> s'.heap.UpToSlots h' -> Q () { s' with heap:=h' }) -> wpAny (model X.prog X.w) X.A (leaving X.env (.ref ex)) Q E' s') :
   wpAny (model X.prog X.w) X.A (leaving X.env (.ref ex)) (fun _ s''=>CX1 X.prog X.w X.outer X.H₀ X.s₀ E (.ref ex) s'') E' s':=by
 have base : Un X.fs [] X.H₀ H X.s₀.heap s.heap:=by have:=I.base; rwa [hx] at this
 have nL : ∀ b o,X.s₀.heap.get? b = some o -> b ∉ X.fs -> b ∉ frs X.stack:=fun b o e n z=>by
   rcases List.mem_cons.mp (I.stkSub b z) with r | r
   . exact Nat.ne_of_lt (Nat.lt_of_lt_of_le (Heap.lt_size e) I.ok.above) r
   . exact n r
 have old : ∀ b o,X.s₀.heap.get? b = some o -> X.H₀ b = none -> b ∉ X.fs -> B.get? b = some o:=fun b o e n nf =>
   ov.old b o (base.keep b o e n nf (by simp)) (base.free b o e n (by simp)) (nL b o e nf)
 have thr : ∀ b o,X.s₀.heap.get? b = some o -> b ∉ X.fs -> ∃ u,B.get? b = some u:=fun b o e nf=>by
   obtain ⟨o',e1⟩:=base.there b o e (by simp)
   exact ov.thr b o' e1 (nL b o e nf)
 refine fly _ fun h' F sm=>⟨ex,C,H',B,rfl,os.trans I.os,bare,⟨fun b o e n nf _=>F.st b o (old b o e n nf),fun b o e n hb _=>?_,fun b o e n _=>?_,fun b o e _=>?_,fun b xs e=>un.tups b xs (base.tups b xs e),
   fun b o u e=>un.frzs b o u (base.frzs b o u e),fun b ps e=>?_⟩,fun a o e=>?_,F,⟨ov.trk,old,thr⟩,q⟩
 . obtain ⟨sl,e1⟩:=base.slot b o e n hb (by simp)
   obtain ⟨sl',e2⟩:=un.any e1 (base.free b o e n (by simp)) (by simp)
   obtain ⟨_,o',ho',nr⟩:=I.ok.funs.mem hb
   rw [e] at ho'
   cases ho'
   obtain ⟨sl2,e3⟩:=sm b _ e2 nr
   exact ⟨sl2,e3⟩
 . obtain ⟨o',e1⟩:=base.there b o e (by simp)
   exact un.free b o' e1 (base.free b o e n (by simp)) (by simp)
 . by_cases hb : b ∈ X.fs
   . obtain ⟨_,o',ho',nr⟩:=I.ok.funs.mem hb
     rw [e] at ho'
     cases ho'
     have n : X.H₀ b = none:=I.ok.frf b hb
     obtain ⟨sl,e1⟩:=base.slot b o e n hb (by simp)
     obtain ⟨sl',e2⟩:=un.any e1 (base.free b o e n (by simp)) (by simp)
     obtain ⟨sl2,e3⟩:=sm b _ e2 nr
     exact ⟨_,e3⟩
   . obtain ⟨u,e1⟩:=thr b o e hb
     exact ⟨u,F.st b u e1⟩
 . obtain ⟨m1,e1⟩:=base.tbls b ps e
   obtain ⟨m2,e2⟩:=un.tbls b _ e1
   exact ⟨m1 ++ m2,by rw [e2,Array.append_assoc]⟩
 . refine (hok a o e).stay (fun b u hb r=>?_) (fun _ z=>z) fun _ _ z=>z
   have : ∃ v,B.get? b = some v:=by
     rcases hb with rfl | hb
     . exact ov.trk _ _ e
     . exact ov.trk _ _ hb
   obtain ⟨v,ev⟩:=this
   have e2:=stB b v ev
   rw [r] at e2
   cases e2
   exact F.st b u ev
theorem zlG {h' : Heap} {vs : List Value} (I : Inv X pins σ H s) (hx : X.ex = []) (hs : X.stack = X.env :: X.outer) (hf : X.env.frame = some X.env.locals) (m : Heap.MadeExcOf s.heap h' ex C vs) (q : E C none H) :
   wpAny (model X.prog X.w) X.A (leaving X.env (.ref ex)) (fun _ s''=>CX1 X.prog X.w X.outer X.H₀ X.s₀ E (.ref ex) s'') E' { s with heap:=h' }:=by
 obtain ⟨B,hB⟩ : ∃ B,B = PySem.W.hideAll s.heap (frs X.stack):=⟨_,rfl⟩
 have hin : ∀ env ∈ X.stack,∀ b,env.frame = some b -> b ∈ frs X.stack:=fun env he b hb=>List.mem_filterMap.mpr ⟨env,he,hb⟩
 have frB : s.heap.FunFrames B X.stack:=by rw [hB]; exact PySem.W.funFrames_hide I.stack hin
 have getB : ∀ {b o},s.heap.get? b = some o -> b ∉ frs X.stack -> B.get? b = some o:=fun e n=>by rw [hB]; exact PySem.W.hideAll_get _ e n
 have ofB : ∀ {b o},B.get? b = some o -> s.heap.get? b = some o:=fun r=>by rw [hB] at r; exact PySem.W.of_hideAll _ r
 have nfr : ∀ a o,H a = some o -> a ∉ frs X.stack:=fun a o e z=>by
   have:=I.stkFree a z
   rw [e] at this
   cases this
 obtain ⟨t,he,_,_⟩:=m.there
 refine zkE (B:=B) (s':={ s with heap:=h' }) I hx rfl I.bare (Un.kept m.keeps) (I.hok.kept m.keeps) (fun b o r=>m.keeps b o (ofB r))
   ⟨fun a o e=>?_,fun b o e _ nf=>getB e nf,fun b o e nf=>⟨o,getB e nf⟩⟩ q fun Q k=>?_
 . obtain ⟨u,e1⟩:=(I.hok a o e).there
   exact ⟨u,getB e1 (nfr a o e)⟩
 . rw [hs] at frB
   refine zlA (s:={ s with heap:=h' }) (I.ok.frames.trans (congrArg some hs)) hf (fun b o r=>m.keeps b o (ofB r)) (frB.of_keeps fun b o hb _=>⟨o,m.keeps b o hb,rfl⟩) ⟨_,_,he,rfl,rfl,rfl,rfl,rfl,?_⟩ k
   cases z : B.get? ex with
   | none=>rfl
   | some o =>
     have:=ofB z
     rw [m.new] at this
     cases this
end
def zqP (X : Cx) (C : Value) (E : XK) : Prop:=∀ (pins : List (Addr × Obj)) (σ : St) (H : Hp) (s : Shared) (h' : Heap) (ex : Addr) (vs : List Value),Inv X pins σ H s -> Heap.MadeExcOf s.heap h' ex C vs -> E C none H -> X.xe (.ref ex) { s with heap:=h' }
theorem zr0 {P : Program} {w : World} {K : PySem.W.Frag} {mg : Str -> Option Value} {base : Heap} {N : List Str} {qual : Str} {scope : Scope} {f : Addr} {cd C : Value} {A : Around} {outer : List Env} {s : Shared} {H : Hp} {E : XK} :
   zqP (za8 (CX1 P w) P w K mg base N qual scope f cd A outer s H E) C E:=fun pins σ H1 s1 h' ex vs I m q=>zlG I rfl rfl rfl m q
def zoF : List Value:=[.type "ValueError",.type "Exception",.type "BaseException",.type "object"]
theorem zqF {K : PySem.W.Frag} {h : Heap} {C : Addr} {bmB : List Value} {newId : String} (X : K.In h) (q : PySem.W.excIn K C bmB newId = true) :
   ∃ bm N nm qn bs hd sn sub ab col dd k0 k1 k2 k3 k5 mN,h.get? C = some (excClassObj nm qn C N bs bm hd sn sub ab col dd k0 k1 k2 k3 k5 newId) /\ h.Ns N mN /\ mN "__init__" = none /\ OwnTail h bmB bm:=by
 unfold PySem.W.excIn at q
 split at q
 case h_2=>cases q
 rename_i dd cd sl ho
 split at q
 case h_2=>cases q
 rename_i C' bm k0 k1 k2 k3 n k5 hm hs
 simp only [Bool.and_eq_true,beq_iff_eq,Bool.not_eq_true'] at q
 obtain ⟨⟨⟨⟨⟨rfl,rfl⟩,hdel⟩,ht⟩,hok⟩,hni⟩:=q
 obtain ⟨nm,bs,mro,ns,qn,hd,sn,sub,ab,col,del⟩:=cd
 dsimp only at hm hdel hok hni
 subst hm hdel
 have e : sl = #[k0,k1,k2,k3,some (.builtin n),k5]:=by
   cases sl
   simp only at hs
   rw [hs]
 subst e
 exact ⟨bm,ns,nm,qn,bs,hd,sn,sub,ab,col,dd,k0,k1,k2,k3,k5,_,X _ _ ho,.of_isNs (PySem.W.isNs_of_in X hok),PySem.W.nsMap_none_of_in X hok hni,PySem.W.tail_of_in X ht⟩
section
variable {X : Cx} {x : Str} {C : Addr} {E : XK} {e : Expr} {es : List Expr} {t : TA} {np cpos pos : Pos}
def zoU (C : Value) (E : XK) (t : TA) : TS:=fun _ σ H=>t σ H fun vs H1=>vs.length <= sizeLine /\ E C none H1
theorem zn0 (q : PySem.W.excIn X.K C zoF "ValueError.__new__" = true) (hc : X.calm = true) (hg : Gl X x) (hm : X.mg x = some (.ref C)) (Z : zqP X (.ref C) E) (ha : PA X (e :: es) t) (hdb : (x == ("__debug__" : Str)) = false:=by decide)
   (he : starEach (e :: es) X.env = (false,eval e X.env) :: starEach es X.env:=by rfl) (hpl : (backTo cpos (starEach es X.env)).any (·.1) = false:=by rfl) :
   PS X (.Raise (some (.Call (.Name x np) (e :: es) [] cpos)) none pos) (zoU (.ref C) E t):=by
 intro pins s σ H D I h
 obtain ⟨bm,N,nm,qn,bs,hd,sn,sub,ab,col,dd,k0,k1,k2,k3,k5,mN,hC,hN,hni,T⟩:=zqF I.ok.mod.kin q
 refine wpAny_Raise_call_subU (C:=C) (nm:=nm) (q:=qn) (N:=N) (bs:=bs) (bm:=bm) (hdct:=hd) (sn:=sn) (sub:=sub) (ab:=ab) (col:=col) (dd:=dd) (k0:=k0) (k1:=k1) (k2:=k2) (k3:=k3) (k5:=k5)
   F.excBase_ValueError (by decide) F.excBase_ValueError (mN:=mN) (T.hasType (by decide)) (I.ok.hd hc) (by rw [he]; show (false || (backTo cpos (starEach es X.env)).any (·.1)) = false; rw [hpl]; rfl) hni (ze1 I hg hm ⟨rfl,?_⟩ hdb)
 have ha':=ha cpos pins s σ H _ I h
 rw [he] at ha' ⊢
 refine Calls.evalArgs_plain (wpAny_mono ha' (fun us s2 ⟨vs,H2,I2,r,z,q2⟩=>⟨rfl,by rw [<- r.length]; exact z,I2.bk _ _ hC,hN.keeps I2.bk,T.keeps I2.bk,fun h' ex m=>Z pins σ H2 s2 h' ex us I2 m q2⟩) fun _ _ y=>y)
end
end L2
set_option Elab.async false
set_option linter.all false
set_option maxRecDepth 100000
namespace L2
open PySem PySem.Spec PyProof.Rows GM
abbrev Cx.at (X : Cx) (pn : List (Addr × Obj)) (E : Value -> Shared -> Prop) : Cx:={ X with pn:=pn,xe:=E }
abbrev Cx.inExc (X : Cx) (pn : List (Addr × Obj)) (ex : Addr) (oe : Obj) : Cx:={ X with pn:=pn ++ [(ex,oe)],xe:=fun _ _=>False,A:=X.A.mark (some (.ref ex)),calm:=false }
section
variable {X : Cx} {pins pins' : List (Addr × Obj)} {σ : St} {H : Hp} {s : Shared} {ex : Addr} {oe : Obj}
theorem Inv.toAt (I : Inv X pins σ H s) (E : Value -> Shared -> Prop) : Inv (X.at (X.pn ++ pins) E) [] σ H s :=
 ⟨⟨I.ok.mod,I.ok.kind,I.ok.glob,I.ok.blt,I.ok.above,I.ok.inj,I.ok.has,I.ok.cab,I.ok.hd,I.ok.frames,I.ok.stk,I.ok.exf,I.ok.bs,I.ok.bsz,I.ok.noex,I.ok.exfs,I.ok.funs,I.ok.frf⟩,I.os,I.bare,I.base,I.loc,I.cell,I.free,I.freeC,
   fun p hp=>I.pin p (by rw [List.append_nil] at hp; exact hp),I.hok,I.len⟩
theorem Inv.ofAt {E : Value -> Shared -> Prop} (I : Inv (X.at (X.pn ++ pins) E) pins' σ H s) : Inv X pins σ H s :=
 ⟨⟨I.ok.mod,I.ok.kind,I.ok.glob,I.ok.blt,I.ok.above,I.ok.inj,I.ok.has,I.ok.cab,I.ok.hd,I.ok.frames,I.ok.stk,I.ok.exf,I.ok.bs,I.ok.bsz,I.ok.noex,I.ok.exfs,I.ok.funs,I.ok.frf⟩,I.os,I.bare,I.base,I.loc,I.cell,I.free,I.freeC,
   fun p hp=>I.pin p (List.mem_append_left _ hp),I.hok,I.len⟩
theorem Inv.toExc (I : Inv X pins σ H s) (he : s.heap.get? ex = some oe) (hn : H ex = none) (nl : ex ≠ X.env.locals) (nf : ex ∉ X.fs) (nc : ∀ v,oe.data ≠ .cell v) : Inv (X.inExc (X.pn ++ pins) ex oe) [] σ H s :=
 ⟨⟨I.ok.mod,I.ok.kind,I.ok.glob,I.ok.blt,I.ok.above,I.ok.inj,I.ok.has,I.ok.cab,fun z=>Bool.noConfusion z,I.ok.frames,I.ok.stk,I.ok.exf,I.ok.bs,I.ok.bsz,I.ok.noex,I.ok.exfs,I.ok.funs,I.ok.frf⟩,I.os,I.bare,I.base,I.loc,I.cell,I.free,I.freeC,
   fun p hp=>by
     rw [List.append_nil] at hp
     rcases List.mem_append.mp hp with z | z
     . exact I.pin p z
     . cases List.mem_singleton.mp z
       exact ⟨he,hn,nl,nf,nc⟩,I.hok,I.len⟩
theorem Inv.ofExc (ok : X.Ok) (I : Inv (X.inExc (X.pn ++ pins) ex oe) pins' σ H s) : Inv X pins σ H s :=
 ⟨ok,I.os,I.bare,I.base,I.loc,I.cell,I.free,I.freeC,fun p hp=>I.pin p (List.mem_append_left _ (List.mem_append_left _ hp)),I.hok,I.len⟩
theorem Inv.gone {M : Model} {A : Around} {E : Value -> Shared -> Prop} {Q : Unit -> Shared -> Prop} {i : Nat} {n : Str} {hp : Pos} (I : Inv X pins σ H s) (hN : X.N.Nodup) (hi : X.N[i]? = some n) (hl : X.env.scope.names.lookup n = some .local)
   (k : ∀ s',Inv X pins (σ.set i none) H s' -> Q () s') : wpAny M A (do bindName X.env n .none; unbindBehindTheSuite X.env n hp) Q E s:=by
 obtain ⟨m,hn,hl'⟩:=id I.loc
 have hcls : (X.env.scope.kind == .class || (X.env.scope.kind == .module && X.env.locals != X.env.globals)) = false:=by rw [I.ok.kind]; rfl
 have lt : ∀ b o,X.s₀.heap.get? b = some o -> b ≠ X.env.locals:=fun b o e=>Nat.ne_of_lt (Nat.lt_of_lt_of_le (Heap.lt_size e) I.ok.above)
 refine wpAny_nameGoes_keeps hl hn hcls fun h' v hn' hs=>k _ ⟨I.ok,I.os,I.bare,⟨fun b o e z hb hx=>?_,fun b o e z hb hx=>?_,I.base.free,fun b o e hx=>?_,I.base.tups,I.base.frzs,I.base.tbls⟩,⟨_,hn',fun j y v' e1 e2 e3=>?_⟩,fun y c e=>?_,I.free,I.freeC,fun p hp=>?_,fun b ob e=>?_,?_⟩
 . exact (hs.2 b (lt b o e)).trans (I.base.keep b o e z hb hx)
 . obtain ⟨sl,e1⟩:=I.base.slot b o e z hb hx
   exact ⟨sl,(hs.2 b (lt b o e)).trans e1⟩
 . obtain ⟨o',e1⟩:=I.base.there b o e hx
   exact ⟨o',(hs.2 b (lt b o e)).trans e1⟩
 . have hj : j ≠ i:=fun z=>by
     subst z
     rw [List.getElem?_set] at e2
     split at e2
     . split at e2 <;> cases e2
     . exact absurd rfl ‹_›
   rw [List.getElem?_set_ne (Ne.symm hj)] at e2
   obtain ⟨u',r',q⟩:=hl' j y v' e1 e2 e3
   refine ⟨u',r',?_⟩
   rcases q with ⟨k,e⟩ | ⟨k,c,e,z⟩
   . refine .inl ⟨k,?_⟩
     have ne : y ≠ n:=fun e=>hj (zh0 hN e1 (e ▸ hi))
     simp [ne,e]
   . exact .inr ⟨k,c,e,z.sameBut hs (I.cne y c e)⟩
 . obtain ⟨w',z⟩:=I.cell y c e
   exact ⟨w',z.sameBut hs (I.cne y c e)⟩
 . obtain ⟨e,z,ne,nf,d⟩:=I.pin p hp
   exact ⟨(hs.2 p.1 ne).trans e,z,ne,nf,d⟩
 . refine (I.hok b ob e).stay (fun c w' hc q=>(hs.2 c ?_).trans q) (fun _ q=>q) fun _ _ q=>q
   rintro rfl
   have f:=I.free
   rcases hc with hc | hc
   . rw [hc,e] at f; cases f
   . rw [hc] at f; cases f
 . rw [List.length_set]; exact I.len
end
def zl7 (CX : CXT) (X : Cx) (W : St -> XK) : Prop:=∀ (pins : List (Addr × Obj)) (σ : St) (H : Hp) (s : Shared) (e : Value) (s' : Shared),Inv X pins σ H s -> CX X.stack H s (W σ) e s' -> X.xe e s'
def zli (sp : Sp) (W : St -> XK) (t : TA) : TE:=fun σ H Q=>t σ H fun vs H1=>sp vs H1 Q (W σ)
section
variable {X : Cx} {CX : CXT} {k : Nat} {f : Addr} {fd : FuncData} {ps : List Str} {sp : Sp} {W : St -> XK} {x : Str} {p pos : Pos} {e : Expr} {es : List Expr} {t : TA}
theorem zoz (F : zbd X.prog X.w X.K X.mg X.base CX k f fd ps sp) (hr : zdZ k X.A) (hg : Gl X x) (hm : X.mg x = some (.ref f)) (hk : PySem.W.keepIn X.K (.ref f) = true) (hb : zaN X.K fd ps []) (hx : zl7 CX X W)
   (ha : PA X (e :: es) t) (hdb : (x == ("__debug__" : Str)) = false:=by decide) (he : starEach (e :: es) X.env = (false,eval e X.env) :: starEach es X.env:=by rfl) (hpl : (backTo pos (starEach es X.env)).any (·.1) = false:=by rfl) :
   PE X (.Call (.Name x p) (e :: es) [] pos) (zli sp W t):=by
 intro pins s σ H Q I h
 refine wpAny_Call_Name_kw (ze1 I hg hm ?_ hdb)
 refine PySem.W.callWith_K (h₀:=X.base) I.ok.mod.kin hk (thn (ha pos pins s σ H _ I h) fun us s1 ⟨vs,H1,I1,r,q⟩=>⟨I1.kIn,?_⟩) he hpl
 have hl : us.length = ps.length:=by rw [<- r.length]; exact F.len _ _ _ _ q
 have hbd : BindsTo s1 fd ⟨us,[]⟩ (ps.zip us):=by simpa using hb s1 us I1.kIn (by simpa using hl)
 refine wpAny_call (codeAny_mono (F.run X.A X.stack s1 H1 ⟨us,[]⟩ us vs Q (W σ) hr I1.env0 hbd r q) fun r s' hq=>?_)
 cases r with
 | error e=>exact hx pins σ H1 s1 e s' I1 hq
 | ok fl =>
   cases fl with
   | ret u=>exact I1.after hq
   | next=>exact False.elim hq
   | brk=>exact False.elim hq
   | cont=>exact False.elim hq
end
def zsn (K : PySem.W.Frag) (G : Value) (i : Nat) (tb : (St -> XK) -> TS) (th : Addr -> Value -> TS) : TS:=fun D σ H=>∃ W : St -> XK,tb W D σ H /\ ∀ σ' C o H',W σ' C o H' -> PySem.W.exmOne K C G = some true /\
 ∀ ex,H' ex = none -> th ex C { nx:=fun σ2 H2=>D.nx (σ2.set i none) H2,rt:=D.rt,bk:=fun σ2 H2=>D.bk (σ2.set i none) H2,ct:=fun σ2 H2=>D.ct (σ2.set i none) H2 } (σ'.set i (some (.ref ex))) H'
structure zmp (C : Value) (oe : Obj) : Prop where
 cls : oe.cls = C
 fld : ∃ vs,oe.data = .fields vs /\ vs[2]? = some .none
 dict : oe.dict = none
section
variable {X : Cx} {x n : Str} {G : Value} {i : Nat} {b₀ : Stmt} {body suite : List Stmt} {np hpos pos : Pos} {tb : (St -> XK) -> TS} {th : Addr -> Value -> TS}
theorem zrI (hs : X.stack = X.env :: X.outer) (hf : X.env.frame = some X.env.locals) (hN : X.N.Nodup) (hi : X.N[i]? = some n) (hl : X.env.scope.names.lookup n = some .local) (hg : Gl X x) (hG : X.mg x = some G)
   (hb : ∀ (W : St -> XK) (pn : List (Addr × Obj)) (E' : Value -> Shared -> Prop),zl7 (CX1 X.prog X.w) (X.at pn E') W -> PSs (X.at pn E') body (tb W))
   (hh : ∀ (pn : List (Addr × Obj)) (ex : Addr) (C : Value) (oe : Obj),zmp C oe -> PSs (X.inExc pn ex oe) (b₀ :: suite) (th ex C)) (hdb : (x == ("__debug__" : Str)) = false:=by decide) :
   PS X (.Try body [.ExceptHandler (some (.Name x np)) (some n) (b₀ :: suite) hpos] [] [] pos) (zsn X.K G i tb th):=by
 intro pins s σ H D I h
 obtain ⟨W,hB,hH⟩:=h
 refine wpAny_Try_except ?_
 have I':=I.toAt fun e s1=>∃ σ1 H1 s0,Inv X pins σ1 H1 s0 /\ CX1 X.prog X.w X.stack H1 s0 (W σ1) e s1
 have key:=hb W (X.pn ++ pins) (fun e s1=>∃ σ1 H1 s0,Inv X pins σ1 H1 s0 /\ CX1 X.prog X.w X.stack H1 s0 (W σ1) e s1) (fun pins1 σ1 H1 s0 e s1 I1 q=>⟨σ1,H1,s0,I1.ofAt,q⟩) [] s σ H D I' hB
 refine wpAny_mono key (fun f s1 hq=>?_) fun e s1 he=>?_
 . cases f with
   | next=>obtain ⟨σ',H',J,q⟩:=hq; exact wpAny_execs_nil ⟨σ',H',J.ofAt,q⟩
   | brk=>obtain ⟨σ',H',J,q⟩:=hq; exact ⟨σ',H',J.ofAt,q⟩
   | cont=>obtain ⟨σ',H',J,q⟩:=hq; exact ⟨σ',H',J.ofAt,q⟩
   | ret u=>obtain ⟨v,σ',H',J,r,q⟩:=hq; exact ⟨v,σ',H',J.ofAt,r,q⟩
 obtain ⟨σ1,H1,s0,I1,ex,C,H',B,rfl,os,bare,un,hok,F,ov,q⟩:=he
 obtain ⟨hm,hS⟩:=hH σ1 C none H' q
 have hfs : ∀ b ∈ frs X.stack,H1 b = none /\ ∃ o,s0.heap.get? b = some o /\ ∀ vs,o.data ≠ .fields vs:=fun b hb=>⟨I1.stkFree b hb,(I1.stack.mem hb).2⟩
 have hfr:=I.ok.frames.trans (congrArg some hs)
 have hex : H' ex = none:=by
   obtain ⟨_,_,_,_,_,_,_,_,_,_,_,_,_,be,_⟩:=F
   cases z : H' ex with
   | none=>rfl
   | some o =>
     obtain ⟨u,e1⟩:=ov.trk ex o z
     rw [be] at e1
     cases e1
 have st1:=F.st
 rw [hs] at F
 have exc : ∀ {h4 : Heap},Fly B (X.env :: X.outer) ex C .none h4 -> s1.heap.UpToSlots h4 -> ∃ oe,h4.get? ex = some oe /\ zmp C oe /\ Inv (X.inExc (X.pn ++ pins) ex oe) [] σ1 H' { s1 with heap:=h4 }:=fun {h4} F4 sm=>by
   have J : Inv X pins σ1 H' { s1 with heap:=h4 }:=I1.call' (s':={ s1 with heap:=h4 }) (ch:=[]) os (ov.un un hfs F4.st sm) (ov.hok hok st1 F4.st) bare (fun _ z=>nomatch z)
   obtain ⟨_,_,oe,vs,T,oT,ts,he,hc,hd,h1,h2,hdi,_⟩:=F4
   refine ⟨oe,he,⟨hc,⟨vs,hd,h2⟩,hdi⟩,J.toExc he hex (fun z=>?_) (fun z=>?_) fun v z=>?_⟩
   . obtain ⟨m,⟨o,es,ep,ho,hdd,_⟩,_⟩:=J.loc
     rw [<- z] at ho
     have : (some oe : Option Obj) = some o:=he.symm.trans ho
     cases this
     rw [hd] at hdd
     cases hdd
   . obtain ⟨_,o,ho,nr⟩:=J.funs.mem z
     have : (some oe : Option Obj) = some o:=he.symm.trans ho
     cases this
     exact nr vs hd
   . rw [hd] at z; cases z
 refine F.note hfr hf fun h2 F2 sm2=>F2.land fun h3 F3 sm3=>?_
 obtain ⟨oe3,g3,x3,K3⟩:=exc F3 (sm2.trans sm3)
 refine wpAny_handleBy_cons (codeAny_handlers_test (ze1 K3 hg hG ?_ hdb)) (by intro z; cases z)
 have LT : PySem.W.Looks (model X.prog X.w) h3 (typeOf (.ref ex)) C:=x3.cls ▸ (PySem.W.Looks.ld g3).andThen .now
 refine (PySem.W.exm_one (h:=h3) K3.kIn LT hm).here ?_
 refine codeAny_handlers_suite_as ?_
 refine F3.land fun h4 F4 sm4=>?_
 obtain ⟨oe,g4,x4,K4⟩:=exc F4 ((sm2.trans sm3).trans sm4)
 refine zeL (X:=X.inExc (X.pn ++ pins) ex oe) K4 hN hi (.inl hl) (v:=.ref ex) rfl (fun s5 K5=>?_) (.inr hl)
 refine wpAny_mono (hh _ ex C oe x4 [] s5 _ H' _ K5 (hS ex hex)) (fun f s6 h6=>?_) fun _ _ z=>z.elim
 show wpAny (model X.prog X.w) X.A (do bindName X.env n .none; unbindBehindTheSuite X.env n hpos) _ _ _
 cases f with
 | next=>obtain ⟨σ',H6,J,q6⟩:=h6; exact (J.ofExc I.ok).gone hN hi hl fun s7 J7=>⟨_,H6,J7,q6⟩
 | brk=>obtain ⟨σ',H6,J,q6⟩:=h6; exact (J.ofExc I.ok).gone hN hi hl fun s7 J7=>⟨_,H6,J7,q6⟩
 | cont=>obtain ⟨σ',H6,J,q6⟩:=h6; exact (J.ofExc I.ok).gone hN hi hl fun s7 J7=>⟨_,H6,J7,q6⟩
 | ret u=>obtain ⟨v,σ',H6,J,r,q6⟩:=h6; exact (J.ofExc I.ok).gone hN hi hl fun s7 J7=>⟨v,_,H6,J7,r,q6⟩
end
structure zdQ (k : Nat) (A : Around) : Prop where
 dp : A.depth + 3 * k + 5 < recursionLimit
 un : A.units + 16 * k + 200 < cLine
theorem zdQ.mono {j k : Nat} {A : Around} (r : zdQ k A) (h : j <= k) : zdQ j A:=⟨by have:=r.dp; omega,by have:=r.un; omega⟩
theorem zdQ.deeper {k : Nat} {A : Around} (r : zdQ (k + 1) A) (env : Env) : zdQ k (A.deeper env) :=
 ⟨by have:=r.dp; show A.depth + 1 + 3 * k + 5 < _; omega,by have:=r.un; show A.units + 3 + 16 * k + 200 < _; omega⟩
theorem zdZ.marked {k : Nat} {A : Around} (r : zdZ k A) (v : Option Value) : zdQ k (A.mark v):=⟨r.dp,r.un⟩
theorem zdQ.depth {k : Nat} {A : Around} (r : zdQ k A) : A.depth < recursionLimit:=by have:=r.dp; omega
theorem zdQ.units {k : Nat} {A : Around} (r : zdQ k A) : A.units + 64 < cLine:=by have:=r.un; omega
structure znY (P : Program) (w : World) (K : PySem.W.Frag) (mg : Str -> Option Value) (base : Heap) (k : Nat) (f : Addr) (fd : FuncData) (ps : List Str) (sp : Addr -> Value -> Sp) : Prop where
 len : ∀ ex C vs H Q E,sp ex C vs H Q E -> vs.length = ps.length
 run : ∀ (A : Around) (outer : List Env) (s : Shared) (H : Hp) (args : Args) (us : List Value) (vs : List V) (Q : VK) (E : XK) (ex : Addr) (C : Value) (oe : Obj),zdQ k A -> A.handled = some (.ref ex) -> s.heap.get? ex = some oe -> zmp C oe -> H ex = none -> ex ∉ frs outer ->
   zo4 P w K mg base A outer s H -> BindsTo s fd args (ps.zip us) -> zaZ vs us -> sp ex C vs H Q E -> codeAny (model P w) A (.call (.ref f) args) (CR CX0 outer P w H s Q E) s
def zaQ (P : Program) (w : World) (K : PySem.W.Frag) (mg : Str -> Option Value) (base : Heap) (N : List Str) (qual : Str) (scope : Scope) (f : Addr) (cd : Value) (A : Around) (outer : List Env) (s : Shared) (H : Hp) (ex : Addr) (oe : Obj) : Cx :=
 { za8 CX0 P w K mg base N qual scope f cd A outer s H E0 with calm:=false,pn:=[(ex,oe)],xe:=fun _ _=>False }
structure Hd (X : Cx) (ex : Addr) (C : Value) (oe : Obj) : Prop where
 hd : X.A.handled = some (.ref ex)
 pn : (ex,oe) ∈ X.pn
 ob : zmp C oe
section
variable {P : Program} {w : World} {K : PySem.W.Frag} {mg : Str -> Option Value} {base : Heap}
theorem Fun.okH {x qual : Str} {st : Stmt} {f : Addr} {fd : FuncData} {N ps : List Str} {k : Nat} {sp : Addr -> Value -> Sp} (F : Fun K x qual st f fd) (S : zaq N ps (zae st)) (len : ∀ ex C vs H Q E,sp ex C vs H Q E -> vs.length = ps.length)
   (hbody : ∀ (cdv : Value) (A : Around) (outer : List Env) (s : Shared) (H : Hp) (vs : List V) (Q : VK) (E : XK) (ex : Addr) (C : Value) (oe : Obj),zdQ k (A.deeper (envOfC qual (zae st) s.heap.objs.size f cdv)) -> Hd (zaQ P w K mg base N qual (zae st) f cdv A outer s H ex oe) ex C oe -> sp ex C vs H Q E ->
     ∃ t,PSs (zaQ P w K mg base N qual (zae st) f cdv A outer s H ex oe) (zao st) t /\ t { nx:=fun _ H'=>Q .non H',rt:=Q } (start N vs) H) : znY P w K mg base (k + 1) f fd ps sp:=by
 obtain ⟨oc,od,kV,doc,pm,an,cdv,ct,osl,rfl,lk,hcd⟩:=F.ex
 refine ⟨len,fun A outer s H args us vs Q E ex C oe hr hhd hat hob hfree hnf e0 hb r hsp=>?_⟩
 have hl:=len _ _ _ _ _ _ hsp
 have KX : K.In s.heap:=e0.mod.kin.keeps fun b o e=>(e0.bs b o e).1
 have lim : s.heap.NoLimit:=e0.mod.nolimit.keeps fun b o e=>(e0.bs b o e).1
 have hkind : ∀ y ∈ ps.zip us,(zae st).names.lookup y.1 = some .local \/ ((zae st).names.lookup y.1 = some .cell /\ ((cellsFrom (s.heap.objs.size + 1) (zae st).names []).lookup y.1).isSome = true):=fun ⟨n,v⟩ hy =>
   (S.par n (List.of_mem_zip hy).1).elim .inl fun q=>.inr ⟨q,PySem.W.cellsFrom_some _ _ _ (.inl q)⟩
 refine codeAny_call_function hr.depth (KX _ _ lk) rfl S.co S.gen rfl (PySem.W.codeRec_of KX hcd) (hb _ _ _ _ ?_)
 refine wpAny_newFunctionEnv_cells S.kind hkind fun env he s1 x=>?_
 subst he
 refine ⟨lim.keeps x.toInCall.keep,codeAny_func ?_⟩
 have hA : (A.deeper (envOfC qual (zae st) s.heap.objs.size f cdv)).handled = some (.ref ex):=hhd
 obtain ⟨t,ht,hq⟩:=hbody cdv A outer s H vs Q E ex C oe (hr.deeper _) ⟨hA,List.mem_singleton.mpr rfl,hob⟩ hsp
 -- the start,as if nothing was handled; then the pin
 have I0 : Inv (za8 CX0 P w K mg base N qual (zae st) f cdv { A with handled:=none } outer s H E0) [] (start N vs) H s1:=zi0 S rfl ⟨e0.frames,e0.mod,e0.bs,e0.bsz,e0.funs,e0.frf,e0.hok,e0.bare⟩ hl r x
 obtain ⟨h1,tk,rfl,hk⟩:=x.done
 have I : Inv (zaQ P w K mg base N qual (zae st) f cdv A outer s H ex oe) [] (start N vs) H { s with heap:=h1,toks:=tk } :=
   ⟨⟨I0.ok.mod,I0.ok.kind,I0.ok.glob,I0.ok.blt,I0.ok.above,I0.ok.inj,I0.ok.has,I0.ok.cab,fun z=>Bool.noConfusion z,Around.frames_deeper e0.frames,I0.ok.stk,I0.ok.exf,I0.ok.bs,I0.ok.bsz,I0.ok.noex,I0.ok.exfs,I0.ok.funs,I0.ok.frf⟩,I0.os,I0.bare,I0.base,I0.loc,I0.cell,I0.free,I0.freeC,
     fun p hp=>by
       cases List.mem_singleton.mp (show p ∈ [(ex,oe)] by rw [List.append_nil] at hp; exact hp)
       obtain ⟨vs',hd,_⟩:=hob.fld
       exact ⟨hk _ _ hat,hfree,Nat.ne_of_lt (Heap.lt_size hat),hnf,fun v z=>by rw [hd] at z; cases z⟩,I0.hok,I0.len⟩
 refine wpAny_mono (ht [] _ (start N vs) H _ I hq) (fun fl s' hs=>?_) fun e s' hs=>hs.elim
 have fin : ∀ {σ' : St} {H' : Hp} {v : V} {u : Value},Inv (zaQ P w K mg base N qual (zae st) f cdv A outer s H ex oe) [] σ' H' s' -> zbf v u -> Q v H' -> CE outer P w H s Q u s' :=
   fun {σ' H' v u} J rv q=>⟨v,H',J.os,J.bare,J.base,J.hok,rv,q⟩
 cases fl with
 | ret u=>obtain ⟨v,σ',H',J,rv,q⟩:=hs; exact fin J rv q
 | next=>obtain ⟨σ',H',J,q⟩:=hs; exact fin (v:=V.non) (u:=Value.none) J rfl q
 | brk=>obtain ⟨_,_,_,q⟩:=hs; exact False.elim q
 | cont=>obtain ⟨_,_,_,q⟩:=hs; exact False.elim q
end
section
variable {X : Cx} {k : Nat} {f : Addr} {fd : FuncData} {ps : List Str} {sp : Addr -> Value -> Sp} {x : Str} {p pos : Pos} {e : Expr} {es : List Expr} {t : TA} {ex : Addr} {C : Value} {oe : Obj}
theorem znz (F : znY X.prog X.w X.K X.mg X.base k f fd ps sp) (hr : zdQ k X.A) (hd : Hd X ex C oe) (hg : Gl X x) (hm : X.mg x = some (.ref f)) (hk : PySem.W.keepIn X.K (.ref f) = true) (hb : zaN X.K fd ps [])
   (ha : PA X (e :: es) t) (hdb : (x == ("__debug__" : Str)) = false:=by decide) (he : starEach (e :: es) X.env = (false,eval e X.env) :: starEach es X.env:=by rfl) (hpl : (backTo pos (starEach es X.env)).any (·.1) = false:=by rfl) :
   PE X (.Call (.Name x p) (e :: es) [] pos) (zkW (sp ex C) [] E0 t):=by
 intro pins s σ H Q I h
 refine wpAny_Call_Name_kw (ze1 I hg hm ?_ hdb)
 refine PySem.W.callWith_K (h₀:=X.base) I.ok.mod.kin hk (thn (ha pos pins s σ H _ I h) fun us s1 ⟨vs,H1,I1,r,q⟩=>⟨I1.kIn,?_⟩) he hpl
 have q : sp ex C vs H1 Q E0:=by simpa using q
 have hl : us.length = ps.length:=by rw [<- r.length]; exact F.len _ _ _ _ _ _ q
 have hbd : BindsTo s1 fd ⟨us,[]⟩ (ps.zip us):=by simpa using hb s1 us I1.kIn (by simpa using hl)
 obtain ⟨p1,p2,p3,p4,_⟩:=I1.pin (ex,oe) (List.mem_append_left _ hd.pn)
 have hns : ex ∉ frs X.stack:=fun z=>(List.mem_cons.mp (I1.stkSub ex z)).elim p3 p4
 refine wpAny_call (codeAny_mono (F.run X.A X.stack s1 H1 ⟨us,[]⟩ us vs Q E0 ex C oe hr hd.hd p1 hd.ob p2 hns I1.env0 hbd r q) fun r s' hq=>?_)
 cases r with
 | error e=>exact hq.elim
 | ok fl =>
   cases fl with
   | ret u=>exact I1.after hq
   | next=>exact False.elim hq
   | brk=>exact False.elim hq
   | cont=>exact False.elim hq
end
end L2
set_option Elab.async false
set_option linter.all false
set_option maxRecDepth 100000
namespace L2
open PySem PySem.Spec PyProof.Rows GM
def zg2 (cells : List (Str × Addr)) : List (Str × NameKind) -> List (Str × Addr) -> List (Str × Addr)
 | [],acc=>acc
 | (n,k) :: r,acc=>zg2 cells r (if (k == NameKind.free) = true then (n,(cells.lookup n).getD 0) :: acc else acc)
theorem zgi {scope : Scope} {env : Env} (h : ∀ y ∈ scope.names,y.2 = .free -> ∃ c,env.cells.lookup y.1 = some c) : closureFor scope env = pure (zg2 env.cells scope.names []):=by
 unfold closureFor
 generalize scope.names = names at h
 suffices g : ∀ (names : List (Str × NameKind)) (acc : List (Str × Addr)),(∀ y ∈ names,y.2 = .free -> ∃ c,env.cells.lookup y.1 = some c) ->
     (forIn names acc fun (x : Str × NameKind) (r : List (Str × Addr))=>if (x.2 == NameKind.free) = true then do let c <- cellOf env x.1; pure (ForInStep.yield ((x.1,c) :: r)) else pure (ForInStep.yield r) : Sem (List (Str × Addr))) = pure (zg2 env.cells names acc) by
   have:=g names [] h
   show (_ >>= pure) = _
   rw [bind_pure]
   exact this
 intro names
 induction names with
 | nil=>intro acc _; rfl
 | cons y r ih =>
   intro acc hy
   obtain ⟨n,k⟩:=y
   rw [List.forIn_cons]
   by_cases e : (k == NameKind.free) = true
   . obtain ⟨c,hc⟩:=hy (n,k) List.mem_cons_self (beq_iff_eq.mp e)
     have hcell : cellOf env n = pure c:=by
       unfold cellOf
       rw [hc]
     simp only [e,if_true,hcell,pure_bind]
     rw [ih _ fun z hz=>hy z (List.mem_cons_of_mem _ hz)]
     show _ = pure (zg2 env.cells r _)
     simp only [e,if_true,hc,Option.getD_some]
   . simp only [e,pure_bind]
     rw [if_neg (by simp),pure_bind]
     dsimp only
     rw [ih _ fun z hz=>hy z (List.mem_cons_of_mem _ hz)]
     show _ = pure (zg2 env.cells r _)
     rw [if_neg e]
theorem zgQ {cells : List (Str × Addr)} : ∀ (names : List (Str × NameKind)) (acc : List (Str × Addr)) (x : Str) (c : Addr),(∀ y ∈ names,y.2 = .free -> ∃ c,cells.lookup y.1 = some c) -> (∀ x c,acc.lookup x = some c -> cells.lookup x = some c) ->
   (zg2 cells names acc).lookup x = some c -> cells.lookup x = some c
 | [],acc,x,c,_,ha,h=>ha x c h
 | (n,k) :: r,acc,x,c,hy,ha,h=>by
   unfold zg2 at h
   refine zgQ r _ x c (fun z hz=>hy z (List.mem_cons_of_mem _ hz)) (fun x' c' h'=>?_) h
   split at h'
   . rename_i e
     obtain ⟨c0,hc0⟩:=hy (n,k) List.mem_cons_self (beq_iff_eq.mp e)
     rw [List.lookup_cons] at h'
     split at h'
     . rename_i e2
       rw [beq_iff_eq.mp e2,hc0]
       rw [hc0] at h'
       exact h'
     . exact ha x' c' h'
   . exact ha x' c' h'
theorem zkv {cells : List (Str × Addr)} : ∀ (names : List (Str × NameKind)) (acc : List (Str × Addr)) (x : Str),(∃ c,acc.lookup x = some c) -> ∃ c,(zg2 cells names acc).lookup x = some c
 | [],acc,x,h=>h
 | (n,k) :: r,acc,x,h=>by
   unfold zg2
   refine zkv r _ x ?_
   split
   . rw [List.lookup_cons]
     split
     . exact ⟨_,rfl⟩
     . exact h
   . exact h
theorem zkF {cells : List (Str × Addr)} : ∀ (names : List (Str × NameKind)) (acc : List (Str × Addr)) (x : Str),(x,NameKind.free) ∈ names -> ∃ c,(zg2 cells names acc).lookup x = some c
 | [],acc,x,h=>nomatch h
 | (n,k) :: r,acc,x,h=>by
   unfold zg2
   rcases List.mem_cons.mp h with e | e
   . cases e
     rw [if_pos (by decide)]
     refine zkv r _ _ ?_
     rw [List.lookup_cons]
     simp
   . exact zkF r _ x e
theorem zgH (g : Str -> NameKind -> NameKind) : ∀ (names : List (Str × NameKind)) (x : Str),(names.map fun y=>(y.1,g y.1 y.2)).lookup x = (names.lookup x).map (g x)
 | [],x=>rfl
 | (n,k) :: r,x=>by
   rw [List.map_cons,List.lookup_cons,List.lookup_cons]
   dsimp only
   by_cases e : (x == n) = true
   . have e':=beq_iff_eq.mp e
     subst e'
     simp
   . rw [Bool.not_eq_true] at e
     simp only [e]
     exact zgH g r x
def zpt (env : Env) (x : Str) (k : NameKind) : NameKind:=if (k == .free && env.scope.kind == .function && env.kindOf x == some .cell) = true then .cell else k
theorem zhy {scope : Scope} {env : Env} (x : Str) : (relabel scope env).names.lookup x = (scope.names.lookup x).map (zpt env x):=by
 rw [<- zgH]
 show (scope.names.map _).lookup x = _
 congr 2
 funext ⟨n,k⟩
 dsimp only [zpt]
 split <;> rfl
def zbz (inner outer : List (Str × NameKind)) (N N' : List Str) (src : List (Option Nat)) : Bool :=
 (inner.all fun y=>(y.2 != .cell) && (y.2 != .local || inner.lookup y.1 == some .local) && (y.2 != .free || outer.lookup y.1 == some .cell)) &&
 (N'.length == src.length) && ((N'.zip src).all fun p=>match p.2 with
   | none=>true
   | some j=>N[j]? == some p.1 && outer.lookup p.1 == some .cell && inner.lookup p.1 == some .free)
theorem zbG.by {X : Cx} {N' : List Str} {scope : Scope} {src : List (Option Nat)} (hk : scope.kind = .function) (hc : zbz scope.names X.env.scope.names X.N N' src = true) (hf : ∀ x,X.env.scope.names.lookup x = some .cell -> ∃ c,X.env.cells.lookup x = some c:=by exact fun x h=>zhS h) :
   zbG X N' scope (zg2 X.env.cells scope.names []) src:=by
 unfold zbz at hc
 simp only [Bool.and_eq_true,List.all_eq_true,beq_iff_eq,Bool.or_eq_true,bne_iff_ne,ne_eq] at hc
 obtain ⟨⟨h1,h2⟩,h3⟩:=hc
 have fr : ∀ y ∈ scope.names,y.2 = .free -> ∃ c,X.env.cells.lookup y.1 = some c:=fun y hy e=>hf _ (((h1 y hy).2).elim (fun z=>absurd e z) id)
 have at3 : ∀ (i : Nat) (x : Str) (j : Nat),N'[i]? = some x -> src[i]? = some (some j) -> X.N[j]? = some x /\ X.env.scope.names.lookup x = some .cell /\ scope.names.lookup x = some .free:=fun i x j e1 e2=>by
   have m : (x,some j) ∈ N'.zip src:=by
     rw [List.mem_iff_getElem?]
     exact ⟨i,by rw [List.getElem?_zip_eq_some]; exact ⟨e1,e2⟩⟩
   have:=h3 _ m
   simp only [Bool.and_eq_true,beq_iff_eq] at this
   exact ⟨this.1.1,this.1.2,this.2⟩
 refine ⟨hk,fun y hy=>((h1 y hy).1).1,fun y hy e=>(((h1 y hy).1).2).elim (fun z=>absurd e z) id,⟨zgi fr,fun x c e=>zgQ _ _ x c fr (fun _ _ z=>by simp at z) e,fun x e=>?_⟩,⟨h2,fun i j x e1 e2=>⟨(at3 i x j e1 e2).1,(at3 i x j e1 e2).2.1⟩⟩,fun i x e1 e2=>?_⟩
 . rw [zhy] at e
   cases q : scope.names.lookup x with
   | none=>rw [q] at e; simp at e
   | some k =>
     have hm:=PySem.mem_of_lookup q
     have hk : k = .free:=by
       rw [q] at e
       simp only [Option.map_some,Option.some.injEq,zpt] at e
       have nc : k ≠ .cell:=((h1 _ hm).1).1
       rcases e with e | e
       . split at e
         . rename_i z; simp only [Bool.and_eq_true,beq_iff_eq] at z; exact z.1.1
         . exact absurd e nc
       . split at e
         . cases e
         . exact e
     subst hk
     exact zkF _ _ x hm
 . obtain ⟨o,ho⟩ : ∃ o,src[i]? = some o:=by
     have : i < src.length:=by rw [<- h2]; exact (List.getElem?_eq_some_iff.mp e1).1
     exact ⟨src[i],by simp [this]⟩
   cases o with
   | none=>exact absurd ho e2
   | some j =>
     have:=(at3 i x j e1 ho).2.2
     rw [zhy,this]
     simp only [Option.map_some,Option.some.injEq,zpt]
     split
     . exact .inl rfl
     . exact .inr rfl
theorem zii : entryFor table "proto.unchain" = some Builtin.«proto.unchain»:=by first | exact entryFor_of_fast (by kernel_rfl) | exact entryFor_of_tree (by kernel_rfl)
section
variable {prog : Program} {w : World} {A : Around} {E : Value -> Shared -> Prop} {s : Shared}
theorem zir {α : Type} {Q : α -> Shared -> Prop} {b ex : Addr} {ob oe : Obj} {bs vs : Array Value} (hh : A.handled = some (.ref ex)) (hb : s.heap.get? b = some ob) (db : ob.data = .fields bs) (sz : 2 < bs.size) (he : s.heap.get? ex = some oe)
   (de : oe.data = .fields vs) (h2 : vs[2]? = some .none) (ne : ex ≠ b) (k : E (.ref b) { s with heap:=s.heap.update b (Obj.mapFields (·.setIfInBounds 2 (.ref ex))) }) : wpAny (model prog w) A (raiseNew (.ref b) : Sem α) Q E s:=by
 have nb : (Value.ref ex != Value.ref b) = true:=by simp [ne]
 simp only [raiseNew]
 refine wpAny_bind (wpAny_handled ?_)
 rw [hh]
 dsimp only
 rw [if_pos nb]
 refine wpAny_bind (wpAny_holding (wpAny_runValue (codeAny_builtin zii ?_)))
 unfold Builtin.«proto.unchain»
 dsimp only
 refine wpAny_bind (wpAny_field he de h2 ?_)
 rw [if_pos (by decide)]
 refine wpAny_bind (wpAny_pure (wpAny_pure ?_))
 exact wpAny_bind (wpAny_setField (x:=.ref ex) hb db sz (wpAny_throw k))
structure zkJ (A : Around) (h : Heap) (ex : Addr) : Prop where
 hd : A.handled = some (.ref ex)
 ob : ∃ oe vs,h.get? ex = some oe /\ oe.data = .fields vs /\ vs[2]? = some .none
theorem zfT {α : Type} {ex : Addr} {R : Value -> Shared -> Prop} {Q : α -> Shared -> Prop} (n : zkJ A s.heap ex)
   (k : ∀ b h',(∀ c o,s.heap.get? c = some o -> h'.get? c = some o) -> ({ s with heap:=h' } : Shared).TypeIs (.ref b) "StopIteration" -> R (.ref b) { s with heap:=h' }) :
   wpAny (model prog w) A (newExc (.type "StopIteration") [] >>= fun e=>(raiseNew e : Sem α)) Q R s:=by
 obtain ⟨hd,oe,vs,he,de,h2⟩:=n
 refine wpAny_bind ?_
 simp only [newExc,newTuple]
 refine wpAny_bind (wpAny_newObj_type ?_ (by size_fits))
 refine wpAny_bind (m:=firstArgMember _ _) (wpAny_of_eq (a:=Value.none) (by first | rfl | (simp only [firstArgMember]; rfl)) ?_)
 refine wpAny_newObj_type ?_ (by size_fits)
 have he2:=Heap.get?_push_of_some (h:=s.heap.push { cls:=.type "tuple",data:=.seq ([] : List Value).toArray }) { cls:=.type "StopIteration",data:=.fields (#[.ref s.heap.objs.size,.none,.none,.none,.bool false,.none] ++ ownMembersOf (.type "StopIteration") []) } (Heap.get?_push_of_some _ he)
 have lt : ex < s.heap.objs.size:=Heap.lt_size he
 refine zir hd (Heap.get?_push_size _ rfl) rfl (by simp [ownMembersOf]) he2 de h2 (by rw [Heap.size_push]; exact Nat.ne_of_lt (Nat.lt_succ_of_lt lt)) (k _ _ (fun c o q=>?_) ⟨_,Heap.get?_update_self _ (Heap.get?_push_size _ rfl) rfl,rfl⟩)
 have:=Heap.lt_size q
 rw [Heap.get?_update_other _ _ (by rw [Heap.size_push]; exact Nat.ne_of_gt (Nat.lt_succ_of_lt this))]
 exact Heap.get?_push_of_some _ (Heap.get?_push_of_some _ q)
theorem zmI {it l ex : Addr} {i : Nat} {items} {Q : Option Value -> Shared -> Prop} (n : zkJ A s.heap ex) (hne : ex ≠ it)
   (hit : s.heap.IsListIter it l i) (hl : s.heap.IsList l items) (hx : items[i]? = none) (hQ : ∀ h',Heap.ExtBut it s.heap h' -> Q none { s with heap:=h' }) : wpAny (model prog w) A (pyNext (.ref it)) Q E s:=by
 obtain ⟨o,ho,hc,hd⟩:=id hit
 obtain ⟨ol,hol,_,nl,hdl⟩:=hl
 unfold pyNext
 refine wpAny_bind (wpAny_attempt (wpAny_callSpecial?_slot (name:=Str.ofString "__next__") hit.typeIs slot_listiter_next (wpAny_call_entry slot_listiter_next hit.typeIs entry_listiter_next ?_ (args_listiter_next _))))
 show wpAny _ _ (field (.ref it) 0 >>= _) _ _ s
 refine wpAny_bind (wpAny_field ho hd (x:=.ref l) rfl ?_)
 rw [if_neg (show ¬ ((Value.ref l == Value.none) = true) from Bool.false_ne_true)]
 refine wpAny_bind (wpAny_field ho hd (x:=.int i 0) rfl (wpAny_bind (wpAny_seqItems hol hdl ?_)))
 simp only [Int.toNat_natCast,hx]
 refine wpAny_bind (wpAny_rule (wpAny_bind (wpAny_setField ho hd (by simp) ?_)))
 obtain ⟨hhd,oe,vs,he,de,h2⟩:=n
 refine zfT (A:=A.in1) ⟨hhd,oe,vs,?_,de,h2⟩ fun b h' kp ty=>?_
 . show (Heap.update _ _ _).get? ex = _
   rw [Heap.get?_update_other _ _ (Ne.symm hne)]; exact he
 refine wpAny_bind (wpAny_isInstance (T:="StopIteration") (b:=true) ty isSubtype_stop (wpAny_pure (hQ h' fun c o ne q=>kp c o ?_)))
 show (Heap.update _ _ _).get? c = _
 rw [Heap.get?_update_other _ _ (Ne.symm ne)]; exact q
theorem zlI {it t ex : Addr} {i : Nat} {items} {Q : Option Value -> Shared -> Prop} (n : zkJ A s.heap ex) (hne : ex ≠ it)
   (hit : IsTupIter s.heap it t i) (ht : IsTup s.heap t items) (hx : items[i]? = none) (hQ : ∀ h',Heap.ExtBut it s.heap h' -> Q none { s with heap:=h' }) : wpAny (model prog w) A (pyNext (.ref it)) Q E s:=by
 obtain ⟨o,ho,hc,hd⟩:=id hit
 obtain ⟨ol,hol,_,nl,hdl⟩:=ht
 unfold pyNext
 refine wpAny_bind (wpAny_attempt (wpAny_callSpecial?_slot (name:=Str.ofString "__next__") hit.typeIs slot_tupleiter_next (wpAny_call_entry slot_tupleiter_next hit.typeIs entry_tupleiter_next ?_ (args_tupleiter_next _))))
 show wpAny _ _ (field (.ref it) 0 >>= _) _ _ s
 refine wpAny_bind (wpAny_field ho hd (x:=.ref t) rfl ?_)
 rw [if_neg (show ¬ ((Value.ref t == Value.none) = true) from Bool.false_ne_true)]
 refine wpAny_bind (wpAny_field ho hd (x:=.int i 0) rfl (wpAny_bind (wpAny_seqItems hol hdl ?_)))
 simp only [Int.toNat_natCast,hx]
 refine wpAny_bind (wpAny_rule (wpAny_bind (wpAny_setField ho hd (by simp) ?_)))
 obtain ⟨hhd,oe,vs,he,de,h2⟩:=n
 refine zfT (A:=A.in1) ⟨hhd,oe,vs,?_,de,h2⟩ fun b h' kp ty=>?_
 . show (Heap.update _ _ _).get? ex = _
   rw [Heap.get?_update_other _ _ (Ne.symm hne)]; exact he
 refine wpAny_bind (wpAny_isInstance (T:="StopIteration") (b:=true) ty isSubtype_stop (wpAny_pure (hQ h' fun c o ne q=>kp c o ?_)))
 show (Heap.update _ _ _).get? c = _
 rw [Heap.get?_update_other _ _ (Ne.symm ne)]; exact q
theorem zqr {t ex : Addr} {items : Array Value} {Q : List Value -> Shared -> Prop} (n : zkJ A s.heap ex) (ht : IsTup s.heap t items)
   (hQ : ∀ h',Heap.ExtBut s.heap.objs.size s.heap h' -> Q items.toList { s with heap:=h' }) : wpAny (model prog w) A (unpackItems (.ref t) items.size none) Q E s:=by
 have hlt : t ≠ s.heap.objs.size:=by obtain ⟨o,ho,_⟩:=ht; exact Nat.ne_of_lt (Heap.lt_size ho)
 obtain ⟨hhd,oe,vs,he,de,h2⟩:=n
 have hxl : ex ≠ s.heap.objs.size:=Nat.ne_of_lt (Heap.lt_size he)
 unfold unpackItems
 refine wpAny_bind ?_
 unfold notIterableAtAll
 refine wpAny_bind (wpAny_specialOf ht.typeIs slot_tuple_iter.lookup (wpAny_pure ?_))
 simp only [Bool.false_eq_true,if_false]
 refine wpAny_bind (wpAny_holding (iter_tuple ht (wpAny_bind (wpAny_holding (draw_tuple hlt items.size 0 _ _ ⟨_,Heap.get?_push_size _ rfl,rfl,rfl⟩ (ht.push _) (by omega) fun h₁ hit₁ hs₁=>?_)))))
 have hall : List.take items.size (List.drop 0 items.toList) = items.toList:=by
   rw [List.drop_zero]; exact List.take_of_length_le (by simp)
 rw [hall,if_neg (by simp)]
 have ht₁ : IsTup h₁ t items:=(ht.push _).extBut hs₁.extBut hlt
 refine wpAny_bind (wpAny_holding (zlI (ex:=ex) ⟨hhd,oe,vs,(hs₁.2 ex hxl).trans (Heap.get?_push_of_some _ he),de,h2⟩ hxl hit₁ ht₁ (by simp) fun h₂ he₂=>?_))
 simp only [Option.isSome_none,Bool.false_eq_true,if_false]
 exact wpAny_pure (hQ h₂ fun b o hb e=>he₂ b o hb (hs₁.extBut b o hb (Heap.get?_push_of_some _ e)))
end
section
variable {X : Cx} {ex : Addr} {C : Value} {oe : Obj} {pins : List (Addr × Obj)} {σ : St} {H : Hp} {s : Shared} {pos : Pos}
theorem Hd.noctx (hd : Hd X ex C oe) (I : Inv X pins σ H s) : zkJ X.A s.heap ex:=by
 obtain ⟨e,_⟩:=I.pin (ex,oe) (List.mem_append_left _ hd.pn)
 obtain ⟨vs,d,h2⟩:=hd.ob.fld
 exact ⟨hd.hd,oe,vs,e,d,h2⟩
theorem Hd.block (hd : Hd X ex C oe) {N' : List Str} {scope : Scope} {cl : List (Str × Addr)} {D : Addr} {s₀ : Shared} {H₀ : Hp} {fp : List Addr} : Hd (zbk X N' scope cl D s₀ H₀ fp pins) ex C oe:=⟨hd.hd,List.mem_append_left _ hd.pn,hd.ob⟩
theorem zqk {es : List Expr} {k : Nat} {t : TGs} {n : Nat} (hd : Hd X ex C oe) (h : PGs X es t)
   (hn : (assignEach es X.env).length = n:=by rfl) (hst : (assignEach es X.env).findIdx? (·.1) = none:=by rfl) : PG X (.Tuple es k pos) (zij X.K n t):=by
 intro pins s σ H v u Q I r hw
 obtain ⟨a,xs,e1,hq,hl,hw⟩:=hw
 subst e1
 cases r
 obtain ⟨its,rv,ht,hz⟩:=I.tuple hq
 have hlen : (assignEach es X.env).length = its.toArray.size:=by simp [hn,<- hl,rv.length]
 rw [assign_Tuple]
 refine wpAny_bind (wpAny_standAt ?_)
 unfold unpack
 rw [hlen,hst]
 refine wpAny_bind (wpAny_holding (zqr (hd.noctx I) ht fun h' hx=>?_))
 have I1 : Inv X pins σ H { s with heap:=h' }:=I.kept (t':=s.toks) fun b o e=>hx b o (Nat.ne_of_lt (Heap.lt_size e)) e
 exact h pins _ σ H xs _ Q I1 (by simpa using rv) hw
theorem zj1 {tg : Expr} (hd : Hd X ex C oe) (a it : Addr) : zl9 X tg (Itl X.K a) [it] it (fun i h=>h.IsListIter it a i) where
 item:=by
   intro i pins s σ H E I hf st hg
   obtain ⟨xs,x,hq,hx⟩:=hg
   obtain ⟨its,rv,p,hz⟩:=I.list hq
   obtain ⟨u,hu,ru⟩:=rv.get hx
   obtain ⟨f0,f1,f2,f3,f4,f5⟩:=hf it (by simp)
   refine wpAny_pyNext_list_item st p.isList (x:=u) (by simpa using hu) fun h' st' sb=>?_
   have I1 : Inv X pins σ H { s with heap:=h' }:=I.turned (t':=s.toks) (fun b o hb e=>(sb.2 b hb).trans e) f0 f1 f3 f4 f5
   obtain ⟨o,e,c,d⟩:=id st'
   exact ⟨u,rfl,zmo (s:={ s with heap:=h' }) e c d (by decide) ⟨x,H,I1,ru,⟨rfl,fun ys hy=>by rw [I.list_inj hy hq]; exact hx⟩,st',fun b hb=>(hf b hb).1⟩⟩
 done:=by
   intro i pins s σ H E I hf st hg
   obtain ⟨xs,hq,hx⟩:=hg
   obtain ⟨its,rv,p,hz⟩:=I.list hq
   obtain ⟨f0,f1,f2,f3,f4,f5⟩:=hf it (by simp)
   have hl:=rv.length
   exact zmI (hd.noctx I) (f5 (ex,oe) (List.mem_append_left _ hd.pn)) st p.isList (by simp; omega) fun h' eb=>⟨rfl,I.turned (t':=s.toks) (fun b o hb e=>eb b o hb e) f0 f1 f3 f4 f5⟩
def PIH (X : Cx) (tg iter : Expr) (wi : TI) : Prop :=
 ∀ (pins : List (Addr × Obj)) (s : Shared) (σ : St) (H : Hp) (R : It -> Hp -> Prop),Inv X pins σ H s -> wi σ H R ->
   wpAny (model X.prog X.w) X.A (eval iter X.env) (fun v s1=>wpAny (model X.prog X.w) X.A (pyIter v) (fun itv s2=>∃ (it : Addr) (fp : List Addr) (tn : Nat -> Heap -> Prop) (J : It) (H' : Hp),itv = .ref it /\ Inv X pins σ H' s2 /\ zie X.prog X.w X.K tg J fp it tn /\
     (∀ (Y : Cx) (ex : Addr) (C : Value) (oe : Obj),Y.prog = X.prog -> Y.w = X.w -> Y.K = X.K -> Hd Y ex C oe -> zl9 Y tg J fp it tn) /\ tn 0 s2.heap /\ (∀ b ∈ fp,zen X pins H' b) /\ R J H') X.xe s1) X.xe s
variable {tg l : Expr} {tl : TE}
theorem zn6 (hl : PE X l tl) : PIH X tg l (zmk X.K tl):=by
 intro pins s σ H R I h
 refine thn (hl pins s σ H _ I h) fun v s1 ⟨x,H1,I1,r1,q1⟩=>?_
 obtain ⟨a,e1,⟨xs,hq⟩,q1⟩:=q1
 subst e1
 cases r1
 obtain ⟨its,rv,p,hz⟩:=I1.list hq
 refine wpAny_pyIter_list p.isList ?_
 have I2 : Inv X pins σ H1 { s1 with heap:=s1.heap.push { cls:=.type "list_iterator",data:=.fields #[.ref a,.int 0 0] } }:=I1.kept (t':=s1.toks) fun b o e=>Heap.get?_push_of_some _ e
 refine ⟨s1.heap.objs.size,[s1.heap.objs.size],_,_,H1,rfl,I2,ziB a _,fun Y ex C oe h1 h2 h3 hd=>?_,⟨_,Heap.get?_push_size _ rfl,rfl,rfl⟩,fun b hb=>?_,q1⟩
 . rw [<- h3]
   exact zj1 hd a _
 . have e : b = s1.heap.objs.size:=by simpa using hb
   subst e
   exact I1.fpOk (Nat.le_refl _) (I1.hok.fresh (Nat.le_refl _))
variable {N' : List Str} {scope : Scope} {cl : List (Str × Addr)} {src : List (Option Nat)} {elt tgt iter : Expr} {ifs : List Expr} {wi : TI} {g : TG} {tt : TT} {te : TE}
theorem zkg (hd : Hd X ex C oe) {i : Nat} {y : Str} {py spos : Pos} (hN : X.N.Nodup) (hy : X.N[i]? = some y) (hly : Loc X.env.scope y) (ok : zbG X N' scope cl src) (hi : PIH X tgt iter wi)
   (hg : ∀ C s₀ H₀ fp pins,PG (zbk X N' scope cl C s₀ H₀ fp pins) tgt g) (ht : ∀ C s₀ H₀ fp pins,PTs (zbk X N' scope cl C s₀ H₀ fp pins) ifs tt) (he : ∀ C s₀ H₀ fp pins,PE (zbk X N' scope cl C s₀ H₀ fp pins) elt te)
   (hsw : swapsWith (.ListComp elt [⟨tgt,iter,ifs,0⟩] scope pos) (some (.Name y py)) spos.line X.env = pure true:=by rfl)
   (hs : ∀ x,foldedSetIterable iter X.env x = pure x:=by intro _; rfl) (hf : X.fn y = true \/ X.env.scope.names.lookup y = some .local:=by first | exact .inl rfl | exact .inr rfl | assumption) :
   PS X (.Assign [.Name y py] (.ListComp elt [⟨tgt,iter,ifs,0⟩] scope pos) spos) (zkZ (zh2 src wi g tt te) (zeH i)):=by
 intro pins s σ H D0 I h
 rw [exec_Assign_Name_used _ _ _ _ hsw]
 refine wpAny_bind (wpAny_standAt (wpAny_bind ?_))
 show wpAny _ X.A (do let _ <- comprehension (.ListComp elt [⟨tgt,iter,ifs,0⟩] scope pos) scope X.env _ (newList []) false (eval iter X.env) (some (assign (.Name y py) X.env))) _ _ s
 refine wpAny_bind (wpAny_mono (wpAny_comprehension_free (Q:=fun _ s'=>SP X pins D0 .next s') rfl hs ok.clos.clos ok.kind ok.names (thn (hi pins s σ H _ I h) fun v s1 h1=>thn h1 fun itv s2 h2=>?_))
   (fun _ s' hq=>wpAny_pure (wpAny_pure hq)) fun _ _ e=>e)
 obtain ⟨it,fp,tn,J,H2,e,I2,T,TC,st2,f2,rd⟩:=h2
 subst e
 refine zgm (RQ:=fun D H'=>zeH i (.ref D) σ H' D0.nx) (RR:=fun acc C=>compPost (model X.prog X.w) X.A X.xe (some (assign (.Name y py) X.env)) (fun _ s'=>SP X pins D0 .next s') acc C) (fun _ _ _=>TC _ ex C oe rfl rfl rfl hd.block) ok hg ht he I2 T st2 f2 rd ?_
 intro D C H' s' m J hn hC q
 obtain ⟨c0,c1,_,c3,c4,c5⟩:=hC
 show wpAny _ _ (assign (.Name y py) X.env (.ref D)) _ _ s'
 refine wpAny_assign_Name (zgx J hN hy hly (v:=.ref D) rfl (fun s'' J2 ⟨a,sb,ha⟩=>?_) hf)
 have hCa : C ≠ a:=by
   rcases ha with z | z
   . rw [z]; exact c1
   . exact (c4 y a z).symm
 exact ⟨m,hn.sameBut sb hCa,fun h' sb'=>⟨_,H',J2.turned (t':=s''.toks) (fun b o hb e=>(sb'.2 b hb).trans e) c0 c1 c3 c4 c5,q⟩⟩
end
structure ExcCls (K : PySem.W.Frag) (C : Addr) : Prop where
 ga : PySem.W.findIn K (.ref C) "__getattribute__" = some (some (.builtin "BaseException.__getattribute__"))
 gh : PySem.W.findIn K (.ref C) "__getattr__" = some none
 cl : (PySem.W.clsIn K C).isSome = true
 at_ : PySem.W.findIn K (.ref C) "__class__" = some (some (.builtin "object.__class__"))
 gt : PySem.W.specialIn K (.builtin "object.__class__") "__get__" = some (some (.builtin "getset_descriptor.__get__"))
 tk : PySem.W.takesIn K (.builtin "object.__class__") = some true
 mr : PySem.W.mroIn K C (.type "object") = some true
 be : PySem.W.mroIn K C (.type "BaseException") = some true
theorem zjt {K : PySem.W.Frag} {C : Addr} (c : ExcCls K C) : PySem.W.findObj K C none "__class__" = some (.bind (.builtin "getset_descriptor.__get__") (.builtin "object.__class__")):=by
 obtain ⟨cd,hc⟩:=Option.isSome_iff_exists.mp c.cl
 unfold PySem.W.findObj
 rw [hc,Option.bind_some,c.at_,Option.bind_some]
 simp [c.gt,c.tk]
theorem znt {M : Model} {A : Around} {E : Value -> Shared -> Prop} {s : Shared} {x C : Addr} {nm : Value} {Q : Unit -> Shared -> Prop} (L0 : PySem.W.Looks M s.heap (typeOf (.ref x)) (.ref C)) (L1 : PySem.W.Looks M s.heap (isSubtype (.ref C) (.type "BaseException")) true)
   (hq : Q () s) : wpAny M A (checkBuiltinCall "BaseException.__getattribute__" ⟨[.ref x,nm],[]⟩) Q E s:=by
 have hk : builtinKind "BaseException.__getattribute__" = some .slot:=by decide +kernel
 have hp : splitId "BaseException.__getattribute__" = some ("BaseException","__getattribute__"):=by decide +kernel
 have ha:=F.args_bexc_ga (.ref x) nm
 have LI : PySem.W.Looks M s.heap (isInstance (.ref x) (.type "BaseException")) true:=L0.andThen L1
 simp only [checkBuiltinCall,hk,hp]
 refine wpAny_bind (LI.at ?_)
 repeat (first | exact hq | assumption | wp_step)
theorem znn {prog : Program} {w : World} {A : Around} {E : Value -> Shared -> Prop} {s : Shared} {K : PySem.W.Frag} {x C : Addr} {ox : Obj} {Q : Option Value -> Shared -> Prop} (c : ExcCls K C) (X : K.In s.heap) (I : PySem.W.InstAt s.heap x ox C none)
   (k : Q (some (.ref C)) { s with toks:=s.toks + 1 }) : wpAny (model prog w) A (getAttr? (.ref x) "__class__") Q E s:=by
 obtain ⟨hh,g,d,t,os⟩:=s
 have L0:=I.type (M:=model prog w)
 have L1:=PySem.W.looks_findIn (M:=model prog w) X c.ga
 have L2:=PySem.W.looks_findIn (M:=model prog w) X c.gh
 have L3:=PySem.W.looks_mroIn (M:=model prog w) X c.be
 have LF:=PySem.W.looks_find (M:=model prog w) X I (zjt c)
 unfold getAttr? getAttrBy? getAttrBy
 refine wpAny_bind (wpAny_mkText (wpAny_bind (wpAny_attempt (wpAny_holding (wpAny_bind (L0.at (wpAny_bind (L1.at ?_))))))))
 show wpAny _ _ (getAttrByItsOwn _ _ _ _ _ _) _ _ _
 unfold getAttrByItsOwn
 show wpAny _ _ (typeLookup (.ref C) "__getattr__" >>= _) _ _ _
 refine wpAny_bind (L2.at ?_)
 refine wpAny_bind (wpAny_attempt (wpAny_holding ?_))
 show wpAny _ _ (boundAndCalled _ _ _) _ _ _
 unfold boundAndCalled
 rw [PySem.F.attrBase_ValueError.ga.bind]
 refine wpAny_bind (wpAny_pure ?_)
 show wpAny _ _ (call (.builtin "BaseException.__getattribute__") [.ref x,.str "__class__" t]) _ _ _
 refine wpAny_call (codeAny_call_builtin PySem.F.attrBase_ValueError.ga.plain F.entry_bexc_ga (znt L0 L3 ?_))
 unfold Builtin.«object.__getattribute__»
 refine wpAny_bind (wpAny_pure ?_)
 refine wpAny_bind (wpAny_pure ?_)
 refine wpAny_bind (L0.at (wpAny_bind (LF.at ?_)))
 show wpAny _ _ (holding [_] (call (.builtin "getset_descriptor.__get__") [.builtin "object.__class__",.ref x,.ref C]) >>= ret) _ _ _
 refine wpAny_bind (wpAny_holding (wpAny_call (PySem.W.class_get (ox:=ox) (od:=none) X I c.mr ?_)))
 exact wpAny_pure (wpAny_pure (wpAny_pure k))
theorem zks {K : PySem.W.Frag} {x C : Addr} {ox : Obj} (c : ExcCls K C) : PySem.W.KitX K (.ref x) (.ref C) (fun h=>PySem.W.InstAt h x ox C none) where
 ty:=fun _ _ _ I=>I.type
 it:=fun _ _ X _=>by
   obtain ⟨cd,hc⟩:=Option.isSome_iff_exists.mp c.cl
   unfold PySem.W.clsIn at hc
   split at hc
   . rename_i ho
     intro A' Q' E' s' k q
     unfold isType loadHead
     exact wpAny_bind (wpAny_loadPart (k _ _ (X _ _ ho)) (wpAny_pure q))
   . cases hc
 ne:=fun h tp dd its n sl X htp=>by
   obtain ⟨cd,hc⟩:=Option.isSome_iff_exists.mp c.cl
   refine Bool.eq_false_iff.mpr fun q=>?_
   have e : C = tp:=Value.ref.inj (beq_iff_eq.mp q)
   subst e
   unfold PySem.W.clsIn at hc
   split at hc
   . rename_i ho
     have z:=(X _ _ ho).symm.trans htp
     cases z
   . cases hc
 ca:=fun {_ _ _ _ _ s} X I k=>znn c X I k
def zlR (K : PySem.W.Frag) (ex : Addr) (C : Value) : List V -> Hp -> VK -> Prop:=fun xs H Q=>∃ (C' : Addr) (b : Bool),C = .ref C' /\ ExcCls K C' /\
 ((∃ D,xs = [.ref ex,.ref D] /\ PySem.W.kitOne K (.ref C') (.ref D) = some b) \/ ∃ T,xs = [.ref ex,.ty T] /\ PySem.W.kitOne K (.ref C') (.type T) = some b) /\ Q (.bl b) H
theorem zbE {X : Cx} {ex : Addr} {C : Value} {oe : Obj} (hd : Hd X ex C oe) : zaP X (.builtin "isinstance") (zlR X.K ex C):=by
 intro pins s σ H xs us Q I r h
 obtain ⟨C',b,rfl,c,h,q⟩:=h
 obtain ⟨e,_⟩:=I.pin (ex,oe) (List.mem_append_left _ hd.pn)
 obtain ⟨vs,d,_⟩:=hd.ob.fld
 have J : PySem.W.InstAt s.heap ex oe C' none:=⟨e,hd.ob.cls,by unfold PySem.W.notCls; rw [d],by rw [hd.ob.dict]; trivial⟩
 have fin : ∀ tk,EP X pins σ Q (.bool b) { s with toks:=tk }:=fun tk=>⟨.bl b,H,I.tok _,rfl,q⟩
 rcases h with ⟨D,rfl,k⟩ | ⟨T,rfl,k⟩
 . obtain ⟨u,w',rfl,rx,rt⟩:=ziR r
   cases (show u = Value.ref ex from rx)
   cases (show w' = Value.ref D from rt)
   exact PySem.W.kia_one (zks c) I.kIn J k (fun z=>nomatch z) fin
 . obtain ⟨u,w',rfl,rx,rt⟩:=ziR r
   cases (show u = Value.ref ex from rx)
   cases (show w' = Value.type T from rt)
   exact PySem.W.kia_one (zks c) I.kIn J k (fun z=>nomatch z) fin
end L2
set_option Elab.async false
set_option linter.all false
set_option maxRecDepth 100000
namespace L2
open PySem PySem.Spec PyProof.Rows GM
def zmv (K : PySem.W.Frag) (g : TG) (tt : TT) (te : TE) (src : List (Option Nat)) (σ : St) (x : V) (H1 : Hp) (Q : VK) : Prop :=
 ∃ a,x = .ref a /\ (∃ xs,SqL K H1 a xs) /\ ∀ D,H1 D = none -> zfI g tt te (Itl K a) D (zbo src σ) (upd H1 D (.lst [])) (fun H'=>Q (.ref D) H')
def zox (K : PySem.W.Frag) (g : TG) (tt : TT) (te : TE) (src : List (Option Nat)) (σ : St) (x : V) (H1 : Hp) (Q : VK) : Prop :=
 ∃ a,x = .ref a /\ (∃ xs,SqT K H1 a xs) /\ ∀ D,H1 D = none -> zfI g tt te (Itt K a) D (zbo src σ) (upd H1 D (.lst [])) (fun H'=>Q (.ref D) H')
def znU (g : TG) (tt : TT) (te : TE) (src : List (Option Nat)) (σ : St) (vs : List V) (H1 : Hp) (Q : VK) : Prop :=
 ∃ j : Int,vs = [.int j] /\ -(2 ^ 62) <= j /\ j < 2 ^ 62 /\ ∀ D,H1 D = none -> zfI g tt te (Itr 0 j.toNat) D (zbo src σ) (upd H1 D (.lst [])) (fun H'=>Q (.ref D) H')
section
variable {K : PySem.W.Frag} {g : TG} {tt : TT} {te ta : TE} {tA : TA} {src : List (Option Nat)} {σ : St} {H : Hp} {Q : VK} {a : Addr} {xs : List V} {n : Int}
theorem zn3 (h : ta σ H fun x H1=>zmv K g tt te src σ x H1 Q) : zh2 src (zmk K ta) g tt te σ H Q:=h
theorem zn2 (h : ta σ H fun x H1=>zox K g tt te src σ x H1 Q) : zh2 src (zrZ K ta) g tt te σ H Q:=h
theorem znT (h : tA σ H fun vs H1=>znU g tt te src σ vs H1 Q) : zh2 src (zoS tA) g tt te σ H Q:=h
def zkr (Pv : Addr -> Nat -> List V -> St -> Hp -> Prop) (D : Addr) (i : Nat) (σ3 : St) (y : V) (H5 : Hp) : Prop :=
 ∃ ys,H5 D = some (.lst ys) /\ ys.length < sizeLine /\ ∃ ys',Pv D (i + 1) ys' σ3 (upd H5 D (.lst (ys ++ [y])))
def zff (Pv : Addr -> Nat -> List V -> St -> Hp -> Prop) (g : TG) (tt : TT) (te : TE) (D : Addr) (i : Nat) (x : V) (σ' : St) (H' : Hp) : Prop :=
 g x σ' H' fun σ3 H3=>tt σ3 H3 fun ok H4=>if ok = true then te σ3 H4 fun y H5=>zkr Pv D i σ3 y H5 else ∃ ys',Pv D (i + 1) ys' σ3 H4
theorem zhe {Pv : Addr -> Nat -> List V -> St -> Hp -> Prop} {D : Addr} {i : Nat} {σ3 : St} {y : V} {H5 : Hp} {ys : List V} (h : H5 D = some (.lst ys)) (z : ys.length <= 1000) (q : ∀ H6,Exc D H5 H6 -> H6 D = some (.lst (ys ++ [y])) -> Pv D (i + 1) (ys ++ [y]) σ3 H6) : zkr Pv D i σ3 y H5 :=
 ⟨ys,h,zcv z,_,q _ (Exc.upd D H5 _) zaV⟩
theorem zhY {J : It} {N : Nat} {D : Addr} {σ0 : St} {H0 : Hp} {R : Hp -> Prop} (Pv : Addr -> Nat -> List V -> St -> Hp -> Prop) (item : Nat -> V -> Prop) (h0 : Pv D 0 [] σ0 H0)
   (stop : ∀ i ys σ' H',Pv D i ys σ' H' -> N <= i -> J.stop i H') (go : ∀ i ys σ' H',Pv D i ys σ' H' -> i < N -> J.go i H') (yld : ∀ i ys σ' H' x H2,Pv D i ys σ' H' -> J.yld i H' x H2 -> H2 = H' /\ item i x)
   (hs : ∀ i x ys σ' H',i < N -> item i x -> Pv D i ys σ' H' -> zff Pv g tt te D i x σ' H') (hd : ∀ ys σ' H',Pv D N ys σ' H' -> R H') : zfI g tt te J D σ0 H0 R:=by
 refine ⟨fun i m σ' H'=>i + m = N /\ ∃ ys,Pv D i ys σ' H',⟨N,by omega,[],h0⟩,?_⟩
 rintro i m σ' H' ⟨him,ys,hp⟩
 by_cases hm : m = 0
 . subst hm
   have e : i = N:=by omega
   subst e
   exact .inl ⟨stop _ _ _ _ hp (Nat.le_refl _),hd _ _ _ hp⟩
 . refine .inr ⟨go _ _ _ _ hp (by omega),fun σ2 H2=>∃ ys,Pv D (i + 1) ys σ2 H2,fun σ2 H2 h=>⟨m - 1,by omega,by omega,h⟩,fun x H2 hy2=>?_⟩
   obtain ⟨e,hit⟩:=yld _ _ _ _ _ _ hp hy2
   subst e
   exact hs i x ys σ' H2 (by omega) hit hp
theorem zh3 (hx : SqL K H a xs) (Pv : Addr -> Nat -> List V -> St -> Hp -> Prop) (h0 : ∀ D H',H D = none -> zai H H' -> H' D = some (.lst []) -> Pv D 0 [] (zbo src σ) H') (hl : ∀ D i ys σ' H',Pv D i ys σ' H' -> SqL K H' a xs)
   (hs : ∀ D i x ys σ' H',xs[i]? = some x -> Pv D i ys σ' H' -> zff Pv g tt te D i x σ' H') (hd : ∀ D ys σ' H',Pv D xs.length ys σ' H' -> Q (.ref D) H') : zmv K g tt te src σ (.ref a) H Q:=by
 refine ⟨a,rfl,⟨xs,hx⟩,fun D hD=>zhY (N:=xs.length) Pv (fun i x=>xs[i]? = some x) (h0 D _ hD (zai.upd hD) zaV) (fun i ys σ' H' hp hi=>⟨xs,hl _ _ _ _ _ hp,hi⟩) (fun i ys σ' H' hp hi=>?_) (fun i ys σ' H' x H2 hp hy=>?_)
   (fun i x ys σ' H' _ hit hp=>hs D i x ys σ' H' hit hp) (hd D)⟩
 . exact ⟨xs,xs[i],hl _ _ _ _ _ hp,by simp [hi]⟩
 . obtain ⟨e,hy⟩:=hy
   exact ⟨e,hy xs (hl _ _ _ _ _ hp)⟩
theorem zlS (hx : SqT K H a xs) (Pv : Addr -> Nat -> List V -> St -> Hp -> Prop) (h0 : ∀ D H',H D = none -> zai H H' -> H' D = some (.lst []) -> Pv D 0 [] (zbo src σ) H') (hl : ∀ D i ys σ' H',Pv D i ys σ' H' -> SqT K H' a xs)
   (hs : ∀ D i x ys σ' H',xs[i]? = some x -> Pv D i ys σ' H' -> zff Pv g tt te D i x σ' H') (hd : ∀ D ys σ' H',Pv D xs.length ys σ' H' -> Q (.ref D) H') : zox K g tt te src σ (.ref a) H Q:=by
 refine ⟨a,rfl,⟨xs,hx⟩,fun D hD=>zhY (N:=xs.length) Pv (fun i x=>xs[i]? = some x) (h0 D _ hD (zai.upd hD) zaV) (fun i ys σ' H' hp hi=>⟨xs,hl _ _ _ _ _ hp,hi⟩) (fun i ys σ' H' hp hi=>?_) (fun i ys σ' H' x H2 hp hy=>?_)
   (fun i x ys σ' H' _ hit hp=>hs D i x ys σ' H' hit hp) (hd D)⟩
 . exact ⟨xs,xs[i],hl _ _ _ _ _ hp,by simp [hi]⟩
 . obtain ⟨e,hy⟩:=hy
   exact ⟨e,hy xs (hl _ _ _ _ _ hp)⟩
theorem zid (h0' : -1000000000 <= n) (h1 : n < 1000000000) (Pv : Addr -> Nat -> List V -> St -> Hp -> Prop) (h0 : ∀ D H',H D = none -> zai H H' -> H' D = some (.lst []) -> Pv D 0 [] (zbo src σ) H')
   (hs : ∀ D (i : Nat) ys σ' H',i < n.toNat -> Pv D i ys σ' H' -> zff Pv g tt te D i (.int (i : Int)) σ' H') (hd : ∀ D ys σ' H',Pv D n.toNat ys σ' H' -> Q (.ref D) H') : znU g tt te src σ [.int n] H Q:=by
 refine ⟨n,rfl,by omega,by omega,fun D hD=>zhY (N:=n.toNat) Pv (fun i x=>x = .int (i : Int)) (h0 D _ hD (zai.upd hD) zaV) (fun i ys σ' H' hp hi=>hi) (fun i ys σ' H' hp hi=>hi) (fun i ys σ' H' x H2 hp hy=>?_)
   (fun i x ys σ' H' hi hit hp=>?_) (hd D)⟩
 . obtain ⟨e,hy⟩:=hy
   exact ⟨e,by rw [hy,Int.zero_add]⟩
 . subst hit
   exact hs D i ys σ' H' hi hp
end
structure zjp (u' u : TS) : Prop where
 e : u' = u
theorem zp6 {t u : TS} {D : zcE} {σ : St} {H : Hp} (h : ∀ u',zjp u' u -> t { D with nx:=u' D } σ H) : zrF t u D σ H:=h u ⟨rfl⟩
theorem zjp.go {u' u : TS} {D : zcE} {σ : St} {H : Hp} (e : zjp u' u) (h : u D σ H) : u' D σ H:=by rw [e.e]; exact h
end L2
set_option Elab.async false
set_option linter.all false
set_option maxRecDepth 100000
namespace L2
open PySem PySem.Spec PyProof.Rows GM
theorem ziq : bootBuiltins "ValueError" = some (.type "ValueError"):=by decide +kernel
theorem zoJ {X : Cx} {ex : Addr} {C : Value} {oe : Obj} {N' : List Str} {scope : Scope} {cl : List (Str × Addr)} {D : Addr} {s₀ : Shared} {H₀ : Hp} {fp : List Addr} {pins : List (Addr × Obj)} {es : List Expr} {k : Nat} {pos : Pos} {t : TGs} {n : Nat} (hd : Hd X ex C oe)
   (h : PGs (zbk X N' scope cl D s₀ H₀ fp pins) es t) (hn : (assignEach es (zbk X N' scope cl D s₀ H₀ fp pins).env).length = n:=by rfl) (hst : (assignEach es (zbk X N' scope cl D s₀ H₀ fp pins).env).findIdx? (·.1) = none:=by rfl) :
   PG (zbk X N' scope cl D s₀ H₀ fp pins) (.Tuple es k pos) (zij X.K n t):=zqk hd.block h hn hst
theorem Fun.ok1 {P : Program} {w : World} {K : PySem.W.Frag} {mg : Str -> Option Value} {base : Heap} {x qual : Str} {st : Stmt} {f : Addr} {fd : FuncData} {N ps : List Str} {k : Nat} {sp : Sp} (F : Fun K x qual st f fd) (S : zaq N ps (zae st)) (len : ∀ vs H Q E,sp vs H Q E -> vs.length = ps.length)
   (hbody : ∀ (cdv : Value) (A : Around) (outer : List Env) (s : Shared) (H : Hp) (vs : List V) (Q : VK) (E : XK),zdZ k (A.deeper (envOfC qual (zae st) s.heap.objs.size f cdv)) -> sp vs H Q E ->
     ∃ t,PSs (za8 (CX1 P w) P w K mg base N qual (zae st) f cdv A outer s H E) (zao st) t /\ t { nx:=fun _ H'=>Q .non H',rt:=Q } (start N vs) H) : zbd P w K mg base (CX1 P w) (k + 1) f fd ps sp:=by
 obtain ⟨oc,od,kV,doc,pm,an,cdv,ct,osl,rfl,lk,hcd⟩:=F.ex
 exact zqM lk hcd S len fun A outer s H vs Q E hr hsp=>hbody cdv A outer s H vs Q E hr hsp
theorem Exc.back {p : Addr} {H H' H2 : Hp} (b : Exc p H' H2) (s : Exc p H H') : Exc p H H2:=s.trans b
theorem zg6 {X : Cx} {i j v : Int} {k1 k2 : Nat} {p1 p2 pos : Pos} (hc : zsy i j) (hv : i ^ j.toNat = v) : PE X (.BinOp (.Constant (.int i) k1 p1) .Pow (.Constant (.int j) k2 p2) pos) (tC (.int v)):=by
 subst hv
 exact fun pins s σ H Q I h=>(zal zrS zac zac : PE X _ _) pins s σ H Q I ⟨i,j,rfl,rfl,hc,h⟩
theorem zmJ {α : Type} [DecidableEq α] {x : α} {A B : Prop} (h : B) : if (!decide (x = x)) = true then A else B:=by simpa using h
theorem zmV {α : Type} [DecidableEq α] {x : α} {A B : Prop} (h : A) : if decide (x = x) = true then A else B:=by simpa using h
section
variable {K : PySem.W.Frag} {σ : St} {H H' : Hp} {Q : VK} {QB : Bool -> Hp -> Prop} {D : zcE} {t : TA} {v w : V} {xs ys : List V} {m n : Int} {r : Rat} {p : Addr}
theorem zsi {A B : Prop} (h : B) : if (!true) = true then A else B:=by simpa using h
theorem zsJ {A B : Prop} (h : A) : if (!false) = true then A else B:=by simpa using h
theorem zmF (q : Q (.bl true) H) : zgM K [.int m,.ty "int"] H Q:=zkj (za5.mpr rfl) q
theorem zm7 (q : Q (.bl false) H) : zgM K [.int m,.ty "bool"] H Q:=zkp (za5.mpr rfl) q
theorem zp2 {a b : V} (h : H p = some (.lst [a,b])) (h0 : 0 <= m) (h1 : m < 2) (q : ∀ z,z = a \/ z = b -> Q z H) : rIx K (.ref p) (.int m) H Q :=
 zjQ (fun z=>z = a \/ z = b) (SqL.of h) h0 (by simpa using h1) (by simp) q
theorem zpA {a b : Int} (h : H p = some (.lst [.int a,.int b])) (h0 : 0 <= m) (h1 : m < 2) (q : ∀ z,z = a \/ z = b -> Q (.int z) H) : rIx K (.ref p) (.int m) H Q :=
 zp2 h h0 h1 fun z hz=>by rcases hz with rfl | rfl; exact q _ (.inl rfl); exact q _ (.inr rfl)
theorem zpr {a b c : Int} (h : H p = some (.lst [.int a,.int b,.int c])) (h0 : 0 <= m) (h1 : m < 3) (q : ∀ z,z = a \/ z = b \/ z = c -> Q (.int z) H) : rIx K (.ref p) (.int m) H Q:=by
 refine zjQ (fun v=>∃ z,v = .int z /\ (z = a \/ z = b \/ z = c)) (SqL.of h) h0 (by simpa using h1) (fun x hx=>?_) fun x hx=>?_
 . simp only [List.mem_cons,List.not_mem_nil,or_false] at hx
   rcases hx with rfl | rfl | rfl
   . exact ⟨_,rfl,.inl rfl⟩
   . exact ⟨_,rfl,.inr (.inl rfl)⟩
   . exact ⟨_,rfl,.inr (.inr rfl)⟩
 . obtain ⟨z,rfl,hz⟩:=hx
   exact q z hz
theorem zjC {x y : Rat} (h1 : x.num = y.num) (h2 : (x.den : Int) = y.den) : x = y:=by
 have h2' : x.den = y.den:=by omega
 exact Rat.ext h1 h2'
theorem zqK (x y : Rat) : PyData.eqv (N x) (N y) = decide (x = y):=by
 have e : PyData.eqv (N x) (N y) = (decide (x.num = y.num) && decide ((x.den : Int) = y.den)):=by
   simp only [N,PyData.eqv,PyData.eqvAll,Bool.and_true,Bool.beq_eq_decide_eq]
 rw [e,Bool.eq_iff_iff,Bool.and_eq_true,decide_eq_true_eq,decide_eq_true_eq,decide_eq_true_eq]
 constructor
 . rintro ⟨h1,h2⟩; exact zjC h1 h2
 . rintro rfl; exact ⟨rfl,rfl⟩
theorem zky (x : Rat) : PySem.SeqAt.shaped (N x) = true:=by simp [N,PySem.SeqAt.shaped,PyData.canLay0,PyData.canLayAll0,PyData.depth,PyData.depthAll]
theorem zrR {x y : Rat} (h : Is K H v (N x)) (k : Is K H w (N y)) (q : Q (.bl (decide (x = y))) H) : zcL K v w H Q:=zfG h k (zky x) (zky y) (by rw [zqK]; exact q)
end
def R (a b : Rat) : PyData:=.tuple [N a,N b]
theorem zsD (a b : Rat) : Imm (R a b) = true:=by simp [R,Imm,ImmAll,zmq]
structure zaK (a b : Rat) : Prop where
 a0 : 0 < a
 a4 : a <= 4
 ad : a.den <= 8
 b0 : 0 <= b
 b1 : b <= 1
 bd : b.den <= 12
 ab : 1 <= a + b
theorem zpN {x y : Rat} {z u r w : Int} (e : x = Rat.divInt z u) (h1 : 1 <= u) (h2 : u <= 8) (h3 : 1 <= z) (h4 : z <= 4 * u) (e' : y = Rat.divInt r w) (g1 : 1 <= w) (g2 : w <= 12) (g3 : 0 <= r) (g4 : r <= w)
   (h : x.num * (y.den : Int) + y.num * (x.den : Int) < (x.den : Int) * (y.den : Int)) : zaK x (1 - x):=by
 obtain ⟨a1,a2,a3⟩:=zlW e h1 h2 h3 h4
 obtain ⟨b1,b2,b3⟩:=zmm e' g1 g2 g3 g4
 have hs:=(zic x y).mp h
 have hd:=zkB x
 exact ⟨a1,a2,a3,by grind,by grind,by omega,by grind⟩
theorem zps {x y : Rat} {z u r w : Int} (e : x = Rat.divInt z u) (h1 : 1 <= u) (h2 : u <= 8) (h3 : 1 <= z) (h4 : z <= 4 * u) (e' : y = Rat.divInt r w) (g1 : 1 <= w) (g2 : w <= 12) (g3 : 0 <= r) (g4 : r <= w)
   (h : ¬ x.num * (y.den : Int) + y.num * (x.den : Int) < (x.den : Int) * (y.den : Int)) : zaK x y:=by
 obtain ⟨a1,a2,a3⟩:=zlW e h1 h2 h3 h4
 obtain ⟨b1,b2,b3⟩:=zmm e' g1 g2 g3 g4
 have hs:=fun z=>h ((zic x y).mpr z)
 exact ⟨a1,a2,a3,b1,b2,b3,by grind⟩
theorem zaK.ba {a b : Rat} (h : zaK a b) : Bdr 10 a:=Bdr.small (c:=4) (d:=8) (Rat.le_of_lt h.a0) h.a4 h.ad (by decide) (by decide)
theorem zaK.bb {a b : Rat} (h : zaK a b) : Bdr 10 b:=Bdr.small (c:=1) (d:=12) h.b0 h.b1 h.bd (by decide) (by decide)
section
variable {K : PySem.W.Frag} {H : Hp} {Q : VK} {v : V} {a b : Rat} {σ : St} {gs : TGs} {QS : St -> Hp -> Prop}
theorem zpI (h : Is K H v (R a b)) (q : ∀ x,Is K H x (N a) -> Q x H) : rIx K v (.int 0) H Q:=zcl (j:=0) h rfl q
theorem zpY (h : Is K H v (R a b)) (q : ∀ x,Is K H x (N b) -> Q x H) : rIx K v (.int 1) H Q:=zcl (j:=1) h rfl q
theorem Is.thruR {H' : Hp} (h : Is K H v (R a b)) (s : zaY H H') : Is K H' v (R a b):=Is.keep s _ v (zsD a b) h
theorem znB (h : Is K H v (R a b)) (q : ∀ x y,Is K H x (N a) -> Is K H y (N b) -> gs [x,y] σ H QS) : zij K 2 gs v σ H QS :=
 zhT h rfl fun xs t=>by
   obtain ⟨x,r1,rfl,h1,t⟩:=zaB.mp t
   obtain ⟨y,r2,rfl,h2,t⟩:=zaB.mp t
   rw [zbh.mp t]
   exact q x y h1 h2
theorem zh1 {x y : V} (h1 : Is K H x (N a)) (h2 : Is K H y (N b)) (q : ∀ v H',zai H H' -> Is K H' v (R a b) -> Q v H') : mkT K [x,y] H Q :=
 zcp (by show 2 <= 1000; decide) (.cons h1 (.cons h2 .nil)) q
end
section
variable {K : PySem.W.Frag} {H H' H2 : Hp} {Q : VK} {v w : V} {a b c d : Rat} {D : Addr}
theorem zai.grow (s : zai H H') (n : H D = none) (e : Exc D H' H2) : zai H H2:=fun b o h=>e b o (zba h n) (s b o h)
end
theorem zn1 {σ : St} {H : Hp} {Q : Bool -> Hp -> Prop} (q : Q true H) : zqX σ H Q:=q
theorem zhN {Pv : Addr -> Nat -> List V -> St -> Hp -> Prop} {g : TG} {tt : TT} {te : TE} {D : Addr} {i : Nat} {x : V} {σ' : St} {H' : Hp} (h : g x σ' H' fun σ3 H3=>tt σ3 H3 fun ok H4=>if ok = true then te σ3 H4 fun y H5=>zkr Pv D i σ3 y H5 else ∃ ys',Pv D (i + 1) ys' σ3 H4) :
   zff Pv g tt te D i x σ' H':=h
section
variable {K : PySem.W.Frag} {σ : St} {H : Hp} {Q : VK} {E : XK} {D : zcE} {t : TA} {C G : Value} {i : Nat} {tb : (St -> XK) -> TS} {th : Addr -> Value -> TS} {sp : Sp} {W : St -> XK} {ex C' : Addr} {b : Bool}
theorem zn4 (h : t σ H fun vs H1=>vs.length <= sizeLine /\ E C none H1) : zoU C E t D σ H:=h
theorem zrT (W : St -> XK) (h : tb W D σ H) (k : ∀ σ' C o H',W σ' C o H' -> PySem.W.exmOne K C G = some true /\
   ∀ ex,H' ex = none -> th ex C { nx:=fun σ2 H2=>D.nx (σ2.set i none) H2,rt:=D.rt,bk:=fun σ2 H2=>D.bk (σ2.set i none) H2,ct:=fun σ2 H2=>D.ct (σ2.set i none) H2 } (σ'.set i (some (.ref ex))) H') : zsn K G i tb th D σ H:=⟨W,h,k⟩
theorem znQ (h : t σ H fun vs H1=>sp vs H1 Q (W σ)) : zli sp W t σ H Q:=h
theorem zm0 {D' : Addr} (c : ExcCls K C') (k : PySem.W.kitOne K (.ref C') (.ref D') = some b) (q : Q (.bl b) H) : zlR K ex (.ref C') [.ref ex,.ref D'] H Q:=⟨C',b,rfl,c,.inl ⟨D',rfl,k⟩,q⟩
theorem zna {T : String} (c : ExcCls K C') (k : PySem.W.kitOne K (.ref C') (.type T) = some b) (q : Q (.bl b) H) : zlR K ex (.ref C') [.ref ex,.ty T] H Q:=⟨C',b,rfl,c,.inr ⟨T,rfl,k⟩,q⟩
end
theorem zm2 (s : String) : PyData.strOk (Str.ofString s) = true:=by
 rw [Str.ofString_eq_toList,PyData.strOk]
 simp only [List.all_toArray,List.all_map,List.all_eq_true,Function.comp,decide_eq_true_eq]
 intro c _
 have:=c.valid
 simp only [Char.toNat]
 rcases this with h | h
 . have : c.val.toNat < 0xd800:=h
   omega
 . exact h.2
inductive zbv (K : PySem.W.Frag) (H : Hp) : List V -> List (Str × Bool) -> Prop
 | nil : zbv K H [] []
 | cons {x : V} {xs : List V} {w : Str} {b : Bool} {ws : List (Str × Bool)} : Is K H x (.tuple [.str w,.bool b]) -> zbv K H xs ws -> zbv K H (x :: xs) ((w,b) :: ws)
theorem zbv.get {K : PySem.W.Frag} {H : Hp} {xs : List V} {ws : List (Str × Bool)} (h : zbv K H xs ws) : ∀ (i : Nat) (x : V),xs[i]? = some x -> ∃ w b,ws[i]? = some (w,b) /\ Is K H x (.tuple [.str w,.bool b]):=by
 induction h with
 | nil=>intro i x e; simp at e
 | cons h _ ih =>
   intro i x e
   cases i with
   | zero=>simp at e; subst e; exact ⟨_,_,rfl,h⟩
   | succ i=>exact ih i x (by simpa using e)
theorem zpl {K : PySem.W.Frag} {H H' : Hp} {v : V} {d : PyData} (h : Is K H v d) (s : zai H H') : Is K H' v d:=h.by s
theorem zbv.app {K : PySem.W.Frag} {H : Hp} {xs ys : List V} {ws us : List (Str × Bool)} (h : zbv K H xs ws) (h' : zbv K H ys us) : zbv K H (xs ++ ys) (ws ++ us):=by
 induction h with
 | nil=>exact h'
 | cons h _ ih=>exact .cons h ih
theorem zbv.len {K : PySem.W.Frag} {H : Hp} {xs : List V} {ws : List (Str × Bool)} (h : zbv K H xs ws) : xs.length = ws.length:=by
 induction h with
 | nil=>rfl
 | cons _ _ ih=>simp [ih]
def zfh (ws : List (Str × Bool)) : List V:=(ws.filter (·.2)).map fun p=>V.str p.1
theorem zkG {ws : List (Str × Bool)} {i : Nat} {w : Str} {b : Bool} (e : ws[i]? = some (w,b)) : zfh (ws.take (i + 1)) = zfh (ws.take i) ++ if b = true then [V.str w] else []:=by
 unfold zfh
 rw [List.take_add_one,e]
 cases b <;> simp
theorem zrt (ws : List (Str × Bool)) : (zfh ws).length <= ws.length:=by
 unfold zfh
 rw [List.length_map]
 exact List.length_filter_le _ _
theorem zpd {K : PySem.W.Frag} {H : Hp} {Q : VK} {σ : St} {c : Addr} {xs : List V} {ws : List (Str × Bool)} (h : H c = some (.lst xs)) (hw : zbv K H xs ws) (hl : ws.length <= 100) (q : ∀ D H',zai H H' -> H' D = some (.lst (zfh ws)) -> Q (.ref D) H') :
   zmv K (zij K 2 (zmb (zeH 0) (zmb (zeH 1) zre))) (tB (zi8 1)) (zi8 0) [none,none] σ (.ref c) H Q:=by
 refine zh3 (SqL.of h) (fun D i ys σ' H'=>(∃ o1 o2,σ' = [o1,o2]) /\ H D = none /\ zai H H' /\ H' D = some (.lst ys) /\ ys = zfh (ws.take i)) (fun D H' n s e=>⟨⟨_,_,rfl⟩,n,s,e,by simp [zfh]⟩) (fun D i ys σ' H' h'=>SqL.of (h'.2.2.1 _ _ h)) ?_ ?_
 . rintro D i x ys σ' H' hx ⟨⟨o1,o2,rfl⟩,hn,S,hD,rfl⟩
   obtain ⟨w,b,ew,iw⟩:=hw.get i x hx
   have hz : (zfh (ws.take i)).length <= 1000:=by
     have h1:=zrt (ws.take i)
     have h2 : (ws.take i).length <= ws.length:=by rw [List.length_take]; omega
     omega
   refine zhN (zhT (iw.by S) rfl fun zs t=>?_)
   obtain ⟨z1,r1,rfl,e1,t⟩:=zaB.mp t
   obtain ⟨z2,r2,rfl,e2,t⟩:=zaB.mp t
   cases zbh.mp t
   cases zb1.mp e1
   cases zdO.mp e2
   refine zhF (zhI (zhF (zhI (zmr ?_))))
   refine zq2 (zln rfl (zoQ ?_))
   cases b with
   | false =>
     refine zoq ⟨_,⟨_,_,rfl⟩,hn,S,hD,?_⟩
     rw [zkG ew]; simp
   | true =>
     refine zoG (zln rfl (zhe hD hz fun H6 E6 e6=>⟨⟨_,_,rfl⟩,hn,S.grow hn E6,e6,?_⟩))
     rw [zkG ew]; simp
 . rintro D ys σ' H' ⟨_,hn,S,hD,rfl⟩
   rw [hw.len,List.take_length] at hD
   exact q D H' S hD
theorem zda {K : PySem.W.Frag} {H : Hp} {c : Addr} {p q : Int} (r : Rat) (h : SqT K H c [.int p,.int q]) (e1 : r.num = p) (e2 : (r.den : Int) = q) : Is K H (.ref c) (N r):=by
 subst e1 e2
 exact zaT.mpr ⟨c,_,rfl,h,zaB.mpr ⟨_,_,rfl,za5.mpr rfl,zaB.mpr ⟨_,_,rfl,za5.mpr rfl,zbh.mpr rfl⟩⟩⟩
theorem zeh (s : String) : PySem.SeqAt.shaped (.str (Str.ofString s)) = true:=by
 simp [PySem.SeqAt.shaped,PyData.canLay0,PyData.depth,zm2]
inductive znL (X : Cx) : List Expr -> List TE -> Prop
 | nil : znL X [] []
 | cons {e : Expr} {es : List Expr} {te : TE} {ts : List TE} : (∀ env,starEach (e :: es) env = (false,eval e env) :: starEach es env) -> PE X e te -> znL X es ts -> znL X (e :: es) (te :: ts)
end L2
set_option Elab.async false
set_option linter.all false
set_option maxRecDepth 100000
namespace L2
open PySem PySem.Spec PyProof.Rows GM
section
variable {K : PySem.W.Frag} {H H' H2 : Hp} {Q : VK} {R : Prop} {v w y : V} {p l : Addr} {xs ys zs : List V} {ns : List Int} {m : Int} {σ : St}
end
section
variable {K : PySem.W.Frag} {H H' H2 : Hp} {Q : VK} {R : Prop} {v w y : V} {p l : Addr} {xs ys zs : List V} {ns : List Int} {m : Int} {σ : St} {to : TE} {t : TA} {T : String} {r : V -> List V -> Hp -> VK -> Prop}
theorem zsw (h : to σ H fun x H1=>tyV K T x H1 /\ t σ H1 fun xs H2=>r x xs H2 Q) : tBM K T r to t σ H Q:=h
theorem zfx (h : SqL K H p xs) (q : R) : tyV K "list" (.ref p) H /\ R:=⟨.inl ⟨rfl,xs,h⟩,q⟩
theorem zcX (h : H l = some (.lst xs)) (z : xs.length <= 1000) (q : ∀ H',Exc l H H' -> H' l = some (.lst (xs ++ [y])) -> Q .non H') : zl4 (.ref l) [y] H Q:=⟨l,xs,y,rfl,rfl,h,zcv z,q _ (Exc.upd l H _) zaV⟩
end
def zbl (K : PySem.W.Frag) : List V -> Hp -> VK -> Prop:=fun xs H Q=>∃ p ys,xs = [.ref p] /\ ((SqL K H p ys /\ ∀ l,H l = none -> Q (.ref l) (upd H l (.tup ys))) \/ (SqT K H p ys /\ Q (.ref p) H))
def zdI (K : PySem.W.Frag) : List V -> Hp -> VK -> Prop:=fun xs H Q=>∃ p ys,xs = [.ref p] /\ (SqL K H p ys \/ SqT K H p ys) /\ ∀ l,H l = none -> Q (.ref l) (upd H l (.lst ys))
theorem za3 {X : Cx} : zaP X (.type "tuple") (zbl X.K):=zis
theorem zeo {X : Cx} : zaP X (.type "list") (zdI X.K):=zi2
def znG (K : PySem.W.Frag) : V -> Option Int -> Option Int -> Hp -> VK -> Prop:=fun x lo hi H Q=>zsp K x lo hi H Q \/ zsQ K x lo hi H Q
theorem zgq {X : Cx} : SlR X (znG X.K):=zqe.or zrq
section
variable {K : PySem.W.Frag} {H H' H2 : Hp} {Q : VK} {QO : Option Int -> Hp -> Prop} {R : Prop} {v w y : V} {p l : Addr} {xs ys zs : List V} {ds es : List PyData} {m : Int} {σ : St} {te : TE} {tl th : TO} {r : V -> Option Int -> Option Int -> Hp -> VK -> Prop} {lo hi : Option Int}
theorem ziL (h : SqL K H p ys) (q : ∀ l H',H l = none -> zai H H' -> H' l = some (.tup ys) -> Q (.ref l) H') : zbl K [.ref p] H Q:=⟨p,ys,rfl,.inl ⟨h,fun l hl=>q l _ hl (zai.upd hl) zaV⟩⟩
theorem zbu (h : Is K H v (.list ds)) (q : ∀ w H',zai H H' -> Is K H' w (.tuple ds) -> Q w H') : zbl K [v] H Q:=by
 obtain ⟨a,xs,rfl,hs,t⟩:=zbp.mp h
 exact ziL hs fun l H' _ s e=>q _ H' s (zaT.mpr ⟨l,xs,rfl,.of e,IsAll.same s ds xs t⟩)
theorem zlp (h : Is K H v (.tuple ds)) (q : Q v H) : zbl K [v] H Q:=by
 obtain ⟨a,xs,rfl,hs,t⟩:=zaT.mp h
 exact ⟨a,xs,rfl,.inr ⟨hs,q⟩⟩
theorem zgs (h : Is K H v (.tuple ds)) (q : ∀ l H' ys,H l = none -> zai H H' -> H' l = some (.lst ys) -> IsAll K H' ys ds -> Q (.ref l) H') : zdI K [v] H Q:=by
 obtain ⟨a,xs,rfl,hs,t⟩:=zaT.mp h
 exact ⟨a,xs,rfl,.inr hs,fun l hl=>q l _ xs hl (zai.upd hl) zaV (IsAll.same (zai.upd hl) ds xs t)⟩
theorem znj (h : Is K H v (.list ds)) (q : ∀ l H' ys,H l = none -> zai H H' -> H' l = some (.lst ys) -> IsAll K H' ys ds -> Q (.ref l) H') : zdI K [v] H Q:=by
 obtain ⟨a,xs,rfl,hs,t⟩:=zbp.mp h
 exact ⟨a,xs,rfl,.inl hs,fun l hl=>q l _ xs hl (zai.upd hl) zaV (IsAll.same (zai.upd hl) ds xs t)⟩
theorem znA (h : te σ H fun x H1=>tl σ H1 fun l H2=>th σ H2 fun u H3=>r x l u H3 Q) : tSl r te tl th σ H Q:=h
theorem zmL (q : QO none H) : zmz σ H QO:=q
theorem zp8 (h : te σ H fun x H1=>∃ i,x = .int i /\ QO (some i) H1) : zqW te σ H QO:=h
theorem zn9 {RI : Int -> Prop} (q : RI m) : ∃ i,V.int m = V.int i /\ RI i:=⟨m,rfl,q⟩
def zfc {α : Type} (xs : List α) (lo hi : Option Int) : List α:=(xs.drop (HT.sIx xs.length 0 lo)).take (HT.sIx xs.length xs.length hi - HT.sIx xs.length 0 lo)
theorem IsAll.take : ∀ {ds : List PyData} {xs : List V} (n : Nat),IsAll K H xs ds -> IsAll K H (xs.take n) (ds.take n)
 | _,_,0,h=>by simp [IsAll.nil]
 | [],_,n + 1,h=>by rw [zbh.mp h]; simp [IsAll.nil]
 | d :: ds,_,n + 1,h=>by
   obtain ⟨x,r,rfl,q,t⟩:=zaB.mp h
   rw [List.take_succ_cons,List.take_succ_cons]
   exact .cons q (IsAll.take n t)
theorem IsAll.drop : ∀ {ds : List PyData} {xs : List V} (n : Nat),IsAll K H xs ds -> IsAll K H (xs.drop n) (ds.drop n)
 | _,_,0,h=>by simpa using h
 | [],_,n + 1,h=>by rw [zbh.mp h]; simp [IsAll.nil]
 | d :: ds,_,n + 1,h=>by
   obtain ⟨x,r,rfl,q,t⟩:=zaB.mp h
   rw [List.drop_succ_cons,List.drop_succ_cons]
   exact IsAll.drop n t
theorem IsAll.cut (h : IsAll K H xs ds) : IsAll K H (zit xs lo hi) (zfc ds lo hi):=by
 unfold zit zfc
 rw [h.length]
 exact (h.drop _).take _
theorem znO (h : SqL K H p xs) (q : ∀ l H',H l = none -> zai H H' -> H' l = some (.lst (zit xs lo hi)) -> Q (.ref l) H') : znG K (.ref p) lo hi H Q:=.inl ⟨p,xs,rfl,h,fun l hl=>q l _ hl (zai.upd hl) zaV⟩
theorem zhb (h : Is K H v (.list ds)) (q : ∀ l H' ys,H l = none -> zai H H' -> H' l = some (.lst ys) -> IsAll K H' ys (zfc ds lo hi) -> Q (.ref l) H') : znG K v lo hi H Q:=by
 obtain ⟨a,xs,rfl,hs,t⟩:=zbp.mp h
 exact znO hs fun l H' hl s e=>q l H' _ hl s e (IsAll.same s _ _ t.cut)
theorem zmd (h : Is K H v (.tuple ds)) (hw : ¬ (HT.sIx ds.length 0 lo = 0 /\ HT.sIx ds.length ds.length hi = ds.length)) (q : ∀ w H',zai H H' -> Is K H' w (.tuple (zfc ds lo hi)) -> Q w H') : znG K v lo hi H Q:=by
 obtain ⟨a,xs,rfl,hs,t⟩:=zaT.mp h
 refine .inr ⟨a,xs,rfl,hs,by rw [t.length]; exact hw,fun l hl=>q _ _ (zai.upd hl) (zaT.mpr ⟨l,_,rfl,.of zaV,IsAll.same (zai.upd hl) _ _ t.cut⟩)⟩
theorem zf8 {α : Type} (xs : List α) : zfc xs none (some (-1)) = xs.dropLast:=by
 unfold zfc
 show (xs.drop 0).take (((-1 : Int) + (xs.length : Int)).toNat - 0) = _
 rw [List.drop_zero,List.dropLast_eq_take]
 congr 1
 omega
theorem ziY {α : Type} (xs : List α) : zfc xs (some 1) none = xs.tail:=by
 unfold zfc
 show (xs.drop (min 1 xs.length)).take (xs.length - min 1 xs.length) = _
 cases xs with
 | nil=>rfl
 | cons x xs =>
   have e : min 1 (x :: xs).length = 1:=by rw [List.length_cons]; omega
   rw [e,List.drop_succ_cons,List.drop_zero,List.length_cons,Nat.add_sub_cancel,List.take_length,List.tail_cons]
end
def TN (xs : List Rat) : PyData:=.tuple (xs.map N)
def LN (xs : List Rat) : PyData:=.list (xs.map N)
theorem zbM : ∀ xs : List Rat,ImmAll (xs.map N) = true
 | []=>by simp [ImmAll]
 | x :: xs=>by rw [List.map_cons,ImmAll,zmq,zbM xs]; rfl
theorem znZ (x : Rat) : (N x).canLay0 = true:=by simp [N,PyData.canLay0,PyData.canLayAll0]
theorem zpC (x : Rat) : (N x).depth = 1:=by simp [N,PyData.depth,PyData.depthAll]
theorem zgI : ∀ xs : List Rat,PyData.canLayAll0 (xs.map N) = true
 | []=>by simp [PyData.canLayAll0]
 | x :: xs=>by rw [List.map_cons,PyData.canLayAll0,znZ,zgI xs]; rfl
theorem zhZ : ∀ xs : List Rat,PyData.depthAll (xs.map N) <= 1
 | []=>by simp [PyData.depthAll]
 | x :: xs=>by
   have:=zhZ xs
   rw [List.map_cons,PyData.depthAll,zpC]; omega
theorem zeW (xs : List Rat) : PySem.SeqAt.shaped (TN xs) = true:=by
 unfold PySem.SeqAt.shaped TN
 rw [PyData.canLay0,zgI,PyData.depth,Bool.true_and]
 have:=zhZ xs
 exact decide_eq_true (by omega)
theorem zjY : ∀ xs ys : List Rat,PyData.eqvAll (xs.map N) (ys.map N) = decide (xs = ys)
 | [],[]=>by simp [PyData.eqvAll]
 | [],y :: ys=>by simp [PyData.eqvAll]
 | x :: xs,[]=>by simp [PyData.eqvAll]
 | x :: xs,y :: ys=>by
   rw [List.map_cons,List.map_cons,PyData.eqvAll,zqK,zjY xs ys,Bool.eq_iff_iff,Bool.and_eq_true,decide_eq_true_eq,decide_eq_true_eq,decide_eq_true_eq,List.cons.injEq]
theorem znP (xs ys : List Rat) : PyData.eqv (TN xs) (TN ys) = decide (xs = ys):=by
 unfold TN
 rw [PyData.eqv,zjY]
section
variable {K : PySem.W.Frag} {H H' H2 : Hp} {Q : VK} {v w y : V} {p l : Addr} {vs : List V} {xs ys : List Rat} {m : Int} {σ : St}
theorem zmw (h : Is K H v (TN xs)) (k : Is K H w (TN ys)) (q : Q (.bl (decide (xs = ys))) H) : zcL K v w H Q:=zfG h k (zeW xs) (zeW ys) (by rw [znP]; exact q)
theorem zpy (h : Is K H v (TN xs)) (k : Is K H w (TN ys)) (q : Q (.bl (!decide (xs = ys))) H) : zfu K v w H Q:=zjM h k (zeW xs) (zeW ys) (by rw [znP]; exact q)
theorem zri {i : Nat} (t : IsAll K H vs (xs.map N)) (h : i < xs.length) : ∃ x,vs[i]? = some x /\ Is K H x (N (xs.getD i 0)):=by
 refine t.get ?_
 rw [List.getElem?_map,List.getD_eq_getElem?_getD,List.getElem?_eq_getElem h]
 rfl
theorem zdc {i : Nat} {x : V} (t : IsAll K H vs (xs.map N)) (h : vs[i]? = some x) : i < xs.length /\ Is K H x (N (xs.getD i 0)):=by
 have hl:=t.length
 rw [List.length_map] at hl
 have hi : i < xs.length:=by
   rcases Nat.lt_or_ge i vs.length with z | z
   . omega
   . rw [List.getElem?_eq_none z] at h; cases h
 obtain ⟨x',e,hx⟩:=zri t hi
 rw [h] at e
 cases e
 exact ⟨hi,hx⟩
theorem zp9 (h : Is K H v (TN xs)) (h0 : 0 <= m) (h1 : m < xs.length) (q : ∀ x,Is K H x (N (xs.getD m.toNat 0)) -> Q x H) : rIx K v (.int m) H Q:=by
 obtain ⟨a,vs,rfl,hs,t⟩:=zaT.mp h
 obtain ⟨n,rfl⟩ : ∃ n : Nat,m = (n : Int):=⟨m.toNat,by omega⟩
 obtain ⟨x,e,hx⟩:=zri (i:=n) t (by omega)
 exact zhx hs (zdM e) (q x hx)
theorem zf0 (h : Is K H v (LN xs)) (h0 : 0 <= m) (h1 : m < xs.length) (q : ∀ x,Is K H x (N (xs.getD m.toNat 0)) -> Q x H) : rIx K v (.int m) H Q:=by
 obtain ⟨a,vs,rfl,hs,t⟩:=zbp.mp h
 obtain ⟨n,rfl⟩ : ∃ n : Nat,m = (n : Int):=⟨m.toNat,by omega⟩
 obtain ⟨x,e,hx⟩:=zri (i:=n) t (by omega)
 exact zeN hs (zdM e) (q x hx)
theorem zcn (h : H l = some (.lst vs)) (t : IsAll K H vs (xs.map N)) : Is K H (.ref l) (LN xs):=zbp.mpr ⟨l,vs,rfl,.of h,t⟩
theorem zc6 : ∀ {xs : List Rat} {vs : List V},vs.length = xs.length -> (∀ i x,vs[i]? = some x -> Is K H x (N (xs.getD i 0))) -> IsAll K H vs (xs.map N)
 | [],vs,hl,_=>by
   have : vs = []:=List.eq_nil_of_length_eq_zero hl
   subst this
   exact .nil
 | x :: xs,[],hl,_=>by cases hl
 | x :: xs,u :: vs,hl,h=>by
   rw [List.map_cons]
   exact .cons (h 0 u rfl) (zc6 (by simpa using hl) fun i y e=>h (i + 1) y e)
end
section
variable {K : PySem.W.Frag} {g : TG} {tt : TT} {te : TE} {src : List (Option Nat)} {σ : St} {H : Hp} {Q : VK} {a : Addr} {vs : List V} {n : Int} {tl : St} {o0 : Option V}
def zcU (H : Hp) (tl : St) (Rel : Nat -> V -> Hp -> Prop) (D : Addr) (i : Nat) (ys : List V) (σ' : St) (H' : Hp) : Prop :=
 (∃ o,σ' = o :: tl) /\ H D = none /\ zai H H' /\ H' D = some (.lst ys) /\ ys.length = i /\ ∀ j y,ys[j]? = some y -> Rel j y H'
theorem zcU.same {Rel : Nat -> V -> Hp -> Prop} {D : Addr} {i : Nat} {ys : List V} {σ' : St} {H' : Hp} (h : zcU H tl Rel D i ys σ' H') : zai H H':=h.2.2.1
theorem zb7 {Rel : Nat -> V -> Hp -> Prop} {D : Addr} {i : Nat} {ys : List V} {σ' σ3 : St} {H1 H5 : Hp} {y : V} (inv : zcU H tl Rel D i ys σ' H1) (hi : i <= 1000) (hk : ∀ i v H1 H2,zaY H1 H2 -> Rel i v H1 -> Rel i v H2) (hσ : ∃ o,σ3 = o :: tl) (s : zai H1 H5) (r : Rel i y H5) : zkr (zcU H tl Rel) D i σ3 y H5:=by
 obtain ⟨_,hn,s1,hD,hl,hr⟩:=inv
 have hD5:=s _ _ hD
 refine zhe hD5 (by omega) fun H6 E6 e6=>⟨hσ,hn,(s1.trans s).grow hn E6,e6,by simp [hl],fun j z hz=>?_⟩
 have k6 : zaY H5 H6:=E6.keep hD5
 rcases Nat.lt_or_ge j ys.length with hj | hj
 . rw [List.getElem?_append_left hj] at hz
   exact hk _ _ _ _ (s.keep.trans k6) (hr j z hz)
 . have hj' : j = ys.length:=by
     rcases Nat.lt_or_ge ys.length j with q | q
     . rw [List.getElem?_eq_none (by simp; omega)] at hz; cases hz
     . omega
   subst hj'
   rw [List.getElem?_append_right (Nat.le_refl _),Nat.sub_self] at hz
   cases hz
   rw [hl]
   exact hk _ _ _ _ k6 r
theorem zhd (hx : SqL K H a vs) (hsrc : zbo src σ = o0 :: tl) (Rel : Nat -> V -> Hp -> Prop) (hs : ∀ D i x ys o H1,vs[i]? = some x -> zcU H tl Rel D i ys (o :: tl) H1 -> zff (zcU H tl Rel) g tt te D i x (o :: tl) H1)
   (hd : ∀ D ys H',H D = none -> zai H H' -> H' D = some (.lst ys) -> ys.length = vs.length -> (∀ j y,ys[j]? = some y -> Rel j y H') -> Q (.ref D) H') : zmv K g tt te src σ (.ref a) H Q:=by
 refine zh3 hx (zcU H tl Rel) (fun D H' n s e=>⟨⟨o0,hsrc⟩,n,s,e,rfl,fun j y z=>by simp at z⟩) (fun D i ys σ' H' h=>h.same.seq hx) ?_ fun D ys σ' H' ⟨_,n,s,e,hl,r⟩=>hd D ys H' n s e hl r
 rintro D i x ys σ' H' hx' h
 obtain ⟨⟨o,rfl⟩,_⟩:=id h
 exact hs D i x ys o H' hx' h
theorem zeZ (hx : SqT K H a vs) (hsrc : zbo src σ = o0 :: tl) (Rel : Nat -> V -> Hp -> Prop) (hs : ∀ D i x ys o H1,vs[i]? = some x -> zcU H tl Rel D i ys (o :: tl) H1 -> zff (zcU H tl Rel) g tt te D i x (o :: tl) H1)
   (hd : ∀ D ys H',H D = none -> zai H H' -> H' D = some (.lst ys) -> ys.length = vs.length -> (∀ j y,ys[j]? = some y -> Rel j y H') -> Q (.ref D) H') : zox K g tt te src σ (.ref a) H Q:=by
 refine zlS hx (zcU H tl Rel) (fun D H' n s e=>⟨⟨o0,hsrc⟩,n,s,e,rfl,fun j y z=>by simp at z⟩) (fun D i ys σ' H' h=>h.same.sqT hx) ?_ fun D ys σ' H' ⟨_,n,s,e,hl,r⟩=>hd D ys H' n s e hl r
 rintro D i x ys σ' H' hx' h
 obtain ⟨⟨o,rfl⟩,_⟩:=id h
 exact hs D i x ys o H' hx' h
theorem zp4 (h0 : 0 <= n) (h1 : n < 1000000000) (hsrc : zbo src σ = o0 :: tl) (Rel : Nat -> V -> Hp -> Prop) (hs : ∀ D (i : Nat) ys o H1,i < n.toNat -> zcU H tl Rel D i ys (o :: tl) H1 -> zff (zcU H tl Rel) g tt te D i (.int (i : Int)) (o :: tl) H1)
   (hd : ∀ D ys H',H D = none -> zai H H' -> H' D = some (.lst ys) -> ys.length = n.toNat -> (∀ j y,ys[j]? = some y -> Rel j y H') -> Q (.ref D) H') : znU g tt te src σ [.int n] H Q:=by
 refine zid (by omega) h1 (zcU H tl Rel) (fun D H' n s e=>⟨⟨o0,hsrc⟩,n,s,e,rfl,fun j y z=>by simp at z⟩) ?_ fun D ys σ' H' ⟨_,n,s,e,hl,r⟩=>hd D ys H' n s e hl r
 rintro D i ys σ' H' hi h
 obtain ⟨⟨o,rfl⟩,_⟩:=id h
 exact hs D i ys o H' hi h
theorem zcN {xs : List Rat} : ∀ (i : Nat) (v : V) (H1 H2 : Hp),zaY H1 H2 -> Is K H1 v (N (xs.getD i 0)) -> Is K H2 v (N (xs.getD i 0)):=fun i v H1 H2 k h=>h.byN k
end
theorem zcM {H H' : Hp} {l : Addr} (s : zai H H') (h : H' l = none) : H l = none:=by
 cases e : H l with
 | none=>rfl
 | some o=>rw [s _ _ e] at h; cases h
def TZ (ns : List Int) : PyData:=.tuple (ns.map PyData.int)
def LL (rss : List (List Rat)) : PyData:=.list (rss.map LN)
theorem zkH : ∀ ns : List Int,ImmAll (ns.map PyData.int) = true
 | []=>by simp [ImmAll]
 | n :: ns=>by rw [List.map_cons,ImmAll,zkH ns]; rfl
theorem zrk (ns : List Int) : Imm (TZ ns) = true:=by rw [TZ,Imm]; exact zkH ns
section
variable {K : PySem.W.Frag} {H H' H2 : Hp} {Q : VK} {v w y : V} {p l : Addr} {vs : List V} {ns : List Int} {rss : List (List Rat)} {m : Int} {σ : St}
theorem zeg : ∀ {ns : List Int} {vs : List V},IsAll K H vs (ns.map PyData.int) ↔ vs = ns.map V.int
 | [],vs=>by rw [List.map_nil,zbh]; rfl
 | n :: ns,vs=>by
   rw [List.map_cons,zaB,List.map_cons]
   constructor
   . rintro ⟨x,r,rfl,h,t⟩
     rw [za5.mp h,zeg.mp t]
   . rintro rfl
     exact ⟨_,_,rfl,za5.mpr rfl,zeg.mpr rfl⟩
theorem zkc : Is K H v (TZ ns) ↔ ∃ a,v = .ref a /\ SqT K H a (ns.map V.int):=by
 unfold TZ
 rw [zaT]
 constructor
 . rintro ⟨a,xs,e,h,t⟩
   rw [zeg.mp t] at h
   exact ⟨a,e,h⟩
 . rintro ⟨a,e,h⟩
   exact ⟨a,_,e,h,zeg.mpr rfl⟩
theorem Is.thruI (h : Is K H v (TZ ns)) (s : zaY H H') : Is K H' v (TZ ns):=Is.keep s _ v (zrk ns) h
theorem zd6 (h : Is K H v (TZ ns)) (q : Q (.int ns.length) H) : zgt K [v] H Q:=zpJ h (by rw [List.length_map]; exact q)
theorem zqc (h : Is K H v (TZ ns)) (h0 : 0 <= m) (h1 : m < ns.length) (q : Q (.int (ns.getD m.toNat 0)) H) : rIx K v (.int m) H Q:=by
 obtain ⟨a,rfl,hs⟩:=zkc.mp h
 obtain ⟨n,rfl⟩ : ∃ n : Nat,m = (n : Int):=⟨m.toNat,by omega⟩
 refine zhx hs (zdM (j:=n) (v:=.int (ns.getD n 0)) ?_) q
 rw [List.getElem?_map,List.getD_eq_getElem?_getD,List.getElem?_eq_getElem (by omega)]
 rfl
theorem zq1 {i : Nat} (t : IsAll K H vs (rss.map LN)) (h : i < rss.length) : ∃ x,vs[i]? = some x /\ Is K H x (LN (rss.getD i [])):=by
 refine t.get ?_
 rw [List.getElem?_map,List.getD_eq_getElem?_getD,List.getElem?_eq_getElem h]
 rfl
theorem zpU (h : Is K H v (LL rss)) (h0 : 0 <= m) (h1 : m < rss.length) (q : ∀ x,Is K H x (LN (rss.getD m.toNat [])) -> Q x H) : rIx K v (.int m) H Q:=by
 obtain ⟨a,vs,rfl,hs,t⟩:=zbp.mp h
 obtain ⟨n,rfl⟩ : ∃ n : Nat,m = (n : Int):=⟨m.toNat,by omega⟩
 obtain ⟨x,e,hx⟩:=zq1 (i:=n) t (by omega)
 exact zeN hs (zdM e) (q x hx)
theorem zpp {α : Type} {xs : List α} {x : α} (h : xs[xs.length - 1]? = some x) : atI xs (-1) = some x:=by
 have hl : 0 < xs.length:=by
   cases xs with
   | nil=>cases h
   | cons _ _=>simp
 unfold atI ixN
 rw [if_neg (by omega),if_pos (by omega)]
 show xs[((-1 : Int) + (xs.length : Int)).toNat]? = some x
 rw [show ((-1 : Int) + (xs.length : Int)).toNat = xs.length - 1 by omega]
 exact h
theorem zgu (h : Is K H v (LL rss)) (h0 : 0 < rss.length) (q : ∀ x,Is K H x (LN (rss.getD (rss.length - 1) [])) -> Q x H) : rIx K v (.int (-1)) H Q:=by
 obtain ⟨a,vs,rfl,hs,t⟩:=zbp.mp h
 have hl:=t.length
 rw [List.length_map] at hl
 obtain ⟨x,e,hx⟩:=zq1 (i:=rss.length - 1) t (by omega)
 rw [<- hl] at e
 exact zeN hs (zpp e) (q x hx)
theorem zhr : ∀ {rss : List (List Rat)} {vs : List V},vs.length = rss.length -> (∀ i x,vs[i]? = some x -> Is K H x (LN (rss.getD i []))) -> IsAll K H vs (rss.map LN)
 | [],vs,hl,_=>by
   have : vs = []:=List.eq_nil_of_length_eq_zero hl
   subst this
   exact .nil
 | x :: xs,[],hl,_=>by cases hl
 | x :: xs,u :: vs,hl,h=>by
   rw [List.map_cons]
   exact .cons (h 0 u rfl) (zhr (by simpa using hl) fun i y e=>h (i + 1) y e)
end
def znD (K : PySem.W.Frag) : R2:=fun x y H Q=>zqY K x y H Q \/ ∃ a b ys,x = .ref a /\ y = .ref b /\ SqT K H a [] /\ SqT K H b ys /\ Q (.ref b) H
theorem zqp {X : Cx} : OpR X (binaryOp .Add) (znD X.K):=by
 intro pins s σ H x y v u Q I rx ry h
 rcases h with h | ⟨a,b,ys,rfl,rfl,ha,hb,q⟩
 . exact zqb pins s σ H x y v u Q I rx ry h
 . cases rx
   cases ry
   obtain ⟨its,r1,p1,_⟩:=I.tuple ha
   cases r1
   obtain ⟨its2,r2,p2,_⟩:=I.tuple hb
   obtain ⟨⟨cls,dd,data,sl⟩,ho,hc,n,hd⟩:=id p1
   obtain ⟨⟨cls2,dd2,data2,sl2⟩,ho2,hc2,n2,hd2⟩:=id p2
   simp only at hc hd hc2 hd2
   subst hc hd hc2 hd2
   exact concat_meets ⟨_,ho,rfl⟩ ⟨_,ho2,rfl⟩ noFill_tuple_add seq_tuple_add PySem.F.slot_tuple_add PySem.F.entry_tuple_add (PySem.F.args_tuple_add_2 _ _) (tuple_addW0 a b _ its2.toArray n n2 dd dd2 sl sl2 rfl) ⟨ho,ho2,⟨.ref b,H,I,rfl,q⟩⟩
theorem zoC {K : PySem.W.Frag} {H : Hp} {Q : VK} {v w : V} {ds es : List PyData} (h1 : Is K H v (.tuple ds)) (h2 : Is K H w (.tuple es)) (z : ds.length + es.length <= 1000) (q : ∀ u H',zai H H' -> Is K H' u (.tuple (ds ++ es)) -> Q u H') : znD K v w H Q:=by
 obtain ⟨a,xs,rfl,ha,ta⟩:=zaT.mp h1
 obtain ⟨b,ys,rfl,hb,tb⟩:=zaT.mp h2
 have la:=ta.length
 have lb:=tb.length
 cases xs with
 | nil =>
   obtain rfl : ds = []:=List.eq_nil_of_length_eq_zero (by simpa using la.symm)
   exact .inr ⟨a,b,ys,rfl,rfl,ha,hb,q _ H (zai.refl _) h2⟩
 | cons x xs =>
   refine .inl ⟨a,b,x :: xs,ys,rfl,rfl,ha,hb,by simp,Nat.le_of_lt (zcv (by omega)),fun hy=>?_,fun hy p hp=>?_⟩
   . obtain rfl : es = []:=List.eq_nil_of_length_eq_zero (by rw [hy] at lb; simpa using lb.symm)
     exact q _ H (zai.refl _) (by rw [List.append_nil]; exact h1)
   . exact q _ _ (zai.upd hp) (zaT.mpr ⟨p,_,rfl,.of zaV,(IsAll.same (zai.upd hp) _ _ ta).append (IsAll.same (zai.upd hp) _ _ tb)⟩)
end L2
set_option Elab.async false
set_option linter.all false
set_option maxRecDepth 100000
namespace L2
open PySem PySem.Spec PyProof.Rows GM
theorem Inv.turnedL {X : Cx} {pins : List (Addr × Obj)} {σ : St} {H : Hp} {s : Shared} {h' : Heap} {t' : Nat} {ch : List Addr} (I : Inv X pins σ H s) (k : ∀ b o,b ∉ ch -> s.heap.get? b = some o -> h'.get? b = some o) (hf : ∀ b ∈ ch,zen X pins H b) : Inv X pins σ H { s with heap:=h',toks:=t' }:=by
 have nit : ∀ b u,H b = some u -> b ∉ ch:=fun b u e z=>by rw [(hf b z).1] at e; cases e
 refine I.step (g':=s.gens) (d':=s.drawn) (ch:=ch) (fun b hb=>⟨(hf b hb).2.2.2.1,(hf b hb).2.1,(hf b hb).2.2.2.2.1,(hf b hb).2.2.2.2.2⟩) (fun b o _ _ hc e _=>k b o hc e)
   (fun b o _ _ hc e _=>⟨o.slots,k b o hc e⟩) (fun _ _ _ _ n=>n) (fun b o hc e=>⟨o,k b o hc e⟩) (fun _ _ e=>e) (fun _ _ _ e=>e) (fun b ps e=>⟨#[],by rw [e]; simp⟩) (fun m hm=>?_) (fun b u e=>?_) I.bare
 . obtain ⟨o,es,ep,ho,r⟩:=hm
   exact ⟨o,es,ep,k _ o (fun z=>(hf _ z).2.1 rfl) ho,r⟩
 . refine (I.hok b u e).stay (fun c v hc q=>k c v ?_ q) (fun _ q=>q) fun _ _ q=>q
   rcases hc with z | z
   . rw [z]; exact nit b u e
   . exact nit c _ z
section
variable {prog : Program} {w : World} {A : Around} {E : Value -> Shared -> Prop} {s : Shared}
theorem zjX {it tu : Addr} {i : Nat} {its : Array Value} {x : Value} {Q : Value -> Shared -> Prop} (ei : s.heap.IsTupleIter it tu i) (et : s.heap.IsTuple tu its) (ex : its[i]? = some x)
   (fin : ∀ h',h'.IsTupleIter it tu (i + 1) -> Heap.SameBut it s.heap h' -> Q x { s with heap:=h' }) : wpAny (model prog w) A (Builtin.SmallTypes.nextOf (.ref it)) Q E s:=by
 obtain ⟨ob,eo,ec,ed⟩:=id ei
 obtain ⟨ot,eot,_,nt,edt⟩:=et
 unfold Builtin.SmallTypes.nextOf
 refine wpAny_bind (wpAny_callSpecial?_slot (name:=Str.ofString "__next__") ei.typeIs F.slot_tuple_iterator_next (wpAny_call_entry F.slot_tuple_iterator_next ei.typeIs F.entry_tuple_iterator_next ?_ (F.args_tuple_iterator_next_1 _)))
 show wpAny _ _ (field (.ref it) 0 >>= _) _ _ s; refine wpAny_bind (wpAny_field eo ed (x:=.ref tu) rfl ?_)
 show wpAny _ _ (if (Value.ref tu == Value.none) = true then _ else _) _ _ s; rw [if_neg (show ¬ ((Value.ref tu == Value.none) = true) from Bool.false_ne_true)]
 show wpAny _ _ (field (.ref it) 1 >>= _) _ _ s; refine wpAny_bind (wpAny_field eo ed (x:=.int i 0) rfl ?_)
 show wpAny _ _ (seqItems? (.ref tu) >>= _) _ _ s; refine wpAny_bind (wpAny_seqItems eot edt ?_)
 simp only [Int.toNat_natCast,ex]
 refine wpAny_bind (wpAny_setField eo ed (by simp) (wpAny_pure ⟨x,rfl,wpAny_pure (fin _ ?_ (Heap.SameBut.update ..))⟩))
 exact ⟨_,Heap.get?_update_self _ eo (Obj.isFreed_of_fields (Obj.data_mapFields ed _)),(Obj.cls_mapFields ..).trans ec,by rw [Obj.data_mapFields ed]; simp [rawInt]⟩
theorem zgJ {it tu : Addr} {i : Nat} {its : Array Value} {Q : Value -> Shared -> Prop} (hh : A.handled = none) (ei : s.heap.IsTupleIter it tu i) (et : s.heap.IsTuple tu its) (ex : its[i]? = none)
   (fin : ∀ h' e,Heap.ExtBut it s.heap h' -> (∃ o,h'.get? e = some o /\ o.cls = .type "StopIteration") -> E (.ref e) { s with heap:=h' }) : wpAny (model prog w) A (Builtin.SmallTypes.nextOf (.ref it)) Q E s:=by
 obtain ⟨ob,eo,ec,ed⟩:=id ei
 obtain ⟨ot,eot,_,nt,edt⟩:=et
 unfold Builtin.SmallTypes.nextOf
 refine wpAny_bind (wpAny_callSpecial?_slot (name:=Str.ofString "__next__") ei.typeIs F.slot_tuple_iterator_next (wpAny_call_entry F.slot_tuple_iterator_next ei.typeIs F.entry_tuple_iterator_next ?_ (F.args_tuple_iterator_next_1 _)))
 show wpAny _ _ (field (.ref it) 0 >>= _) _ _ s; refine wpAny_bind (wpAny_field eo ed (x:=.ref tu) rfl ?_)
 show wpAny _ _ (if (Value.ref tu == Value.none) = true then _ else _) _ _ s; rw [if_neg (show ¬ ((Value.ref tu == Value.none) = true) from Bool.false_ne_true)]
 show wpAny _ _ (field (.ref it) 1 >>= _) _ _ s; refine wpAny_bind (wpAny_field eo ed (x:=.int i 0) rfl ?_)
 show wpAny _ _ (seqItems? (.ref tu) >>= _) _ _ s; refine wpAny_bind (wpAny_seqItems eot edt ?_)
 simp only [Int.toNat_natCast,ex]
 refine wpAny_bind (wpAny_rule (wpAny_bind (wpAny_setField eo ed (by simp) ?_)))
 show wpAny _ _ (newExc (.type "StopIteration") [] >>= _) _ _ _; refine wpAny_bind ?_; simp only [newExc,newTuple]
 refine wpAny_bind (wpAny_newObj_type ?_ (by size_fits)); refine wpAny_bind (m:=firstArgMember _ _) (wpAny_of_eq (a:=Value.none) (by first | rfl | (simp only [firstArgMember]; rfl)) ?_)
 refine wpAny_newObj_type ?_ (by size_fits); simp only [raiseNew]; refine wpAny_bind (wpAny_handled ?_)
 first | rw [hh] | rw [show A.in1.handled = none from hh]
 exact wpAny_bind (wpAny_pure (wpAny_throw (fin _ _ (((Heap.SameBut.update ..).extBut.push _).push _) ⟨_,Heap.get?_push_size _ rfl,rfl⟩)))
theorem zop (hh : A.handled = none) (it tu : Addr) (hne : tu ≠ it) (its : Array Value) : Draws prog w A it [it,tu] its.size (fun i v=>its[i]? = some v) (fun i h=>h.IsTupleIter it tu i /\ h.IsTuple tu its) where
 live:=fun _ _ st=>let ⟨o,ho,_⟩:=st.1; ⟨o,ho⟩
 frame:=fun _ _ _ st hk=>⟨st.1.at fun o e=>hk it (by simp) o e,st.2.at fun o e=>hk tu (by simp) o e⟩
 item:=fun i s Q E hi st hQ=>zjX st.1 st.2 (x:=its[i]) (by simp [hi]) fun h' hit' hs'=>hQ _ h' s.toks (by simp [hi]) ⟨hit',st.2.extBut hs'.extBut hne⟩ hs'
 done:=fun s Q E st hE=>zgJ hh st.1 st.2 (by simp) hE
open AutoSeq1 (wpAny_loadPart') in
theorem zkt (tu : Addr) (its : Array Value) (n : Nat) (dct : Option Addr) (sl : Array (Option Value)) : Meets (Builtin.«enumerate.__new__» ⟨[.type "enumerate",.ref tu],[]⟩) (fun _ R s=>s.heap.get? tu = some { cls:=.type "tuple",dict:=dct,data:=.seq its n,slots:=sl } /\
   R (.ok (.ret (.ref (s.heap.push { cls:=.type "tuple_iterator",data:=.fields #[.ref tu,.int 0 0] }).objs.size))) { s with heap:=(s.heap.push { cls:=.type "tuple_iterator",data:=.fields #[.ref tu,.int 0 0] }).push { cls:=.type "enumerate",data:=.fields #[.none,.bool false,.ref s.heap.objs.size,rawInt 0,.none,.none] } }) :=
 .of_wp fun prog w A R s h=>by
   obtain ⟨hp,g,d,tk,os⟩:=s
   obtain ⟨et,h⟩:=h
   have hsub:=sub_enumerate
   have hT : Heap.IsTuple (Shared.heap ⟨hp,g,d,tk,os⟩) tu its:=⟨_,et,rfl,n,rfl⟩
   wp_walk using wpAny_loadPart' et
   refine wpAny_stack_any fun st=>wpAny_pure ?_
   split
   . rename_i c _ _ _ _ _
     cases (c == Value.type "enumerate") <;> (wp_walk using wpAny_loadPart' et,wpAny_pyIter_tuple hT; exact ⟨_,rfl,h⟩)
   . wp_walk using wpAny_loadPart' et,wpAny_pyIter_tuple hT
     exact ⟨_,rfl,h⟩
theorem zlH {tu : Addr} {its : Array Value} {Q : Value -> Shared -> Prop} (hT : s.heap.IsTuple tu its) (fin : ∀ h',IsEnum h' (s.heap.objs.size + 1) s.heap.objs.size 0 .none -> h'.IsTupleIter s.heap.objs.size tu 0 -> (∀ b o,s.heap.get? b = some o -> h'.get? b = some o) -> Q (.ref (s.heap.objs.size + 1)) { s with heap:=h' }) :
   wpAny (model prog w) A (call (.type "enumerate") [.ref tu]) Q E s:=by
 obtain ⟨⟨c,dct,dt,sl⟩,et,hc,n,hd⟩:=hT
 obtain rfl : c = .type "tuple":=hc
 obtain rfl : dt = .seq its n:=hd
 refine callType_new F.called_enumerate (by decide) (F.typeCall_enumerate_1 _) (F.newCall_enumerate_1 _) (fun obj=>F.args_object_init_2 obj _) F.entry_enumerate_new (zkt tu its n dct sl) ⟨et,?_⟩
 have hz : (s.heap.push { cls:=.type "tuple_iterator",data:=.fields #[.ref tu,.int 0 0] }).objs.size = s.heap.objs.size + 1:=Heap.size_push ..
 show _ /\ _
 rw [hz]
 have he : IsEnum ((s.heap.push { cls:=.type "tuple_iterator",data:=.fields #[.ref tu,.int 0 0] }).push { cls:=.type "enumerate",data:=.fields #[.none,.bool false,.ref s.heap.objs.size,rawInt 0,.none,.none] }) (s.heap.objs.size + 1) s.heap.objs.size 0 .none:=by
   rw [<- hz]; exact Heap.get?_push_size _ rfl
 exact ⟨⟨_,he,rfl⟩,fin _ he ⟨_,Heap.get?_push_of_some _ (Heap.get?_push_size _ rfl),rfl,rfl⟩ fun b o x=>Heap.get?_push_of_some _ (Heap.get?_push_of_some _ x)⟩
end
def Ite (K : PySem.W.Frag) (a : Addr) : It :=
 ⟨fun i H=>∃ xs x,SqT K H a xs /\ xs[i]? = some x,fun i H y H'=>∃ t x,y = .ref t /\ H t = none /\ (∀ xs,SqT K H a xs -> xs[i]? = some x) /\ H' = upd H t (.tup [.int (i : Int),x]),fun i H=>∃ xs,SqT K H a xs /\ xs.length <= i⟩
theorem zlF {P : Program} {w : World} {K : PySem.W.Frag} {elts : List Expr} {k1} {tpos : Pos} (a e it : Addr) (hne : e ≠ it) : zie P w K (.Tuple elts k1 tpos) (Ite K a) [e,it] e (fun i h=>(∃ old,IsEnum h e it (i : Int) old) /\ h.IsTupleIter it a i) where
 mem:=by simp
 obj:=fun i h st b hb=>by
   obtain ⟨⟨old,he⟩,o,eo,c,d⟩:=st
   rcases List.mem_cons.mp hb with rfl | hb
   . exact ⟨_,he,fun v z=>by cases (show Data.fields _ = Data.cell v from z)⟩
   . rw [List.mem_singleton.mp hb]
     exact ⟨o,eo,fun v z=>by rw [d] at z; cases z⟩
 keep:=fun i h h' st k=>⟨let ⟨old,he⟩:=st.1; ⟨old,k e (by simp) _ he⟩,st.2.at fun o eo=>k it (by simp) o eo⟩
 item:=by
   intro X hP hw hK hc i pins s σ H E I hf st hg
   subst hP hw hK
   obtain ⟨⟨old,he⟩,st⟩:=st
   obtain ⟨xs,x,hq,hx⟩:=hg
   obtain ⟨its,rv,p,hz⟩:=I.tuple hq
   obtain ⟨u,hu,ru⟩:=rv.get hx
   have p' : s.heap.IsTuple a its.toArray:=p
   have hai : a ≠ it:=fun z=>by
     subst z
     obtain ⟨o,e1,c1,_⟩:=st
     obtain ⟨o',e2,c2,_⟩:=p'
     rw [e1] at e2; cases e2
     rw [c1] at c2; exact absurd c2 (by decide)
   have hae : e ≠ a:=fun z=>by
     subst z
     obtain ⟨o',e2,c2,_⟩:=p'
     rw [he] at e2; cases e2
     exact absurd (show Value.type "enumerate" = Value.type "tuple" from c2) (by decide)
   have hlt : i < its.toArray.size:=by
     rcases Nat.lt_or_ge i its.length with z | z
     . simpa using z
     . rw [List.getElem?_eq_none z] at hu; cases hu
   refine wpAny_pyNext_enum_itemD (zop (A:=X.A.in1) (I.ok.hd hc) it a hai its.toArray) he ⟨st,p'⟩ hlt hne (by simp [hne,hae]) fun v h1 tk hv ho hs1 hT hsz hk=>?_
   have hvu : v = u:=by
     have hv' : its[i]? = some v:=by simpa using hv
     rw [hu] at hv'; exact (Option.some.inj hv').symm
   subst hvu
   have I1 : Inv X pins σ (upd H s.heap.objs.size (.tup [.int (i : Int),x])) { s with heap:=s.heap.push { cls:=.type "tuple",data:=.seq ([.int (i : Int) tk,v] : List Value).toArray },toks:=tk + 1 } :=
     I.laid (fun b o q=>Heap.get?_push_of_some _ q) (Nat.le_refl _) (show zcJ X.prog X.w _ _ _ (.tup [.int (i : Int),x]) from ⟨zfR (by simp),_,.cons ⟨_,rfl⟩ (.cons ru .nil),IsTup.new _ _⟩)
   have lt1 : ∀ b ∈ [e,it],b < s.heap.objs.size:=fun b hb=>by
     rcases List.mem_cons.mp hb with rfl | hb
     . exact Heap.lt_size he
     . rw [List.mem_singleton.mp hb]
       obtain ⟨o,eo,_⟩:=st
       exact Heap.lt_size eo
   have hf1 : ∀ b ∈ [e,it],zen X pins (upd H s.heap.objs.size (.tup [.int (i : Int),x])) b:=fun b hb=>⟨by rw [zbX (Nat.ne_of_lt (lt1 b hb))]; exact (hf b hb).1,(hf b hb).2⟩
   refine ⟨_,rfl,wpAny_letOwnedTupleGo_enum ho fun h2 he2 hs2=>?_⟩
   refine ⟨.ref s.heap.objs.size,_,Inv.turnedL (s:={ s with heap:=s.heap.push { cls:=.type "tuple",data:=.seq ([.int (i : Int) tk,v] : List Value).toArray },toks:=tk + 1 }) (ch:=[e,it]) I1 (fun b o hb q=>?_) hf1,rfl,⟨_,x,rfl,I.hok.fresh (Nat.le_refl _),fun ys hy=>by rw [I.tuple_inj hy hq]; exact hx,rfl⟩,⟨⟨_,by simpa using he2⟩,hs1.1.at fun o eo=>(hs2.2 it (Ne.symm hne)).trans eo⟩,fun b hb=>(hf1 b hb).1⟩
   have hbe : b ≠ e:=fun z=>hb (by simp [z])
   have hbi : b ≠ it:=fun z=>hb (by simp [z])
   refine (hs2.2 b hbe).trans ?_
   by_cases hb2 : b = s.heap.objs.size
   . subst hb2
     rw [Heap.get?_push_size _ rfl] at q
     cases q
     exact hT
   . exact hk b o hbe hbi (by rw [Heap.get?_push_ne _ _ _ hb2] at q; exact q)
 done:=by
   intro X hP hw hK hc i pins s σ H E I hf st hg
   subst hP hw hK
   obtain ⟨⟨old,he⟩,st⟩:=st
   obtain ⟨xs,hq,hx⟩:=hg
   obtain ⟨its,rv,p,hz⟩:=I.tuple hq
   have p' : s.heap.IsTuple a its.toArray:=p
   have hai : a ≠ it:=fun z=>by
     subst z
     obtain ⟨o,e1,c1,_⟩:=st
     obtain ⟨o',e2,c2,_⟩:=p'
     rw [e1] at e2; cases e2
     rw [c1] at c2; exact absurd c2 (by decide)
   have hl:=rv.length
   have hT : s.TypeIs (.ref e) "enumerate":=⟨_,he,rfl⟩
   unfold pyNext
   refine wpAny_bind (wpAny_attempt (wpAny_callSpecial?_slot (name:=Str.ofString "__next__") hT F.slot_enumerate_next (wpAny_call_entry F.slot_enumerate_next hT F.entry_enumerate_next ?_ (F.args_enumerate_next_1 _))))
   show wpAny _ _ (field (.ref e) 2 >>= _) _ _ _; refine wpAny_bind (wpAny_field he rfl (x:=.ref it) rfl ?_)
   refine wpAny_bind (zgJ (A:=X.A.in1) (I.ok.hd hc) st p' (by simp; omega) fun h' y he' hx'=>?_)
   obtain ⟨o,ho,hcl⟩:=hx'
   refine wpAny_bind (wpAny_isInstance (T:="StopIteration") (b:=true) ⟨o,ho,hcl⟩ isSubtype_stop (wpAny_pure ⟨rfl,?_⟩))
   obtain ⟨f0,f1,f2,f3,f4,f5⟩:=hf it (by simp)
   exact I.turned (t':=s.toks) (fun b o hb e=>he' b o hb e) f0 f1 f3 f4 f5
 self:=fun _ _ _ _ _ st h=>let ⟨_,he⟩:=st.1; wpAny_pyIter_enum he h
def znC (K : PySem.W.Frag) (ta : TA) : TI:=fun σ H R=>ta σ H fun vs H1=>∃ a,vs = [.ref a] /\ (∃ xs,SqT K H1 a xs) /\ R (Ite K a) H1
theorem zjN : bootBuiltins "enumerate" = some (.type "enumerate"):=by decide +kernel
theorem znS {X : Cx} {elts : List Expr} {k1} {tpos p pos : Pos} {l : Expr} {ta : TA} (hg : Gl X "enumerate") (hm : X.mg "enumerate" = none) (ha : PA X [l] ta) (hs : starEach [l] X.env = [(false,eval l X.env)]:=by rfl) :
   PI X (.Tuple elts k1 tpos) (.Call (.Name "enumerate" p) [l] [] pos) (znC X.K ta):=by
 intro pins s σ H R I h
 refine Call_ (zex I hg hm zjN (PyProof.Rows.callWith_type1 (thn (ha pos pins s σ H _ I h) fun us s1 ⟨vs,H1,I1,r1,q1⟩=>?_) hs rfl))
 obtain ⟨a,rfl,⟨xs,hq⟩,q⟩:=q1
 obtain ⟨u,rfl,ru⟩:=zfr r1
 cases ru
 obtain ⟨its,rv,p,hz⟩:=I1.tuple hq
 refine zlH (show s1.heap.IsTuple a its.toArray from p) fun h' he hit kp=>?_
 refine wpAny_pyIter_enum he ?_
 refine ⟨s1.heap.objs.size + 1,[s1.heap.objs.size + 1,s1.heap.objs.size],_,_,H1,rfl,I1.kept (t':=s1.toks) kp,zlF a (s1.heap.objs.size + 1) s1.heap.objs.size (Nat.succ_ne_self _),⟨⟨_,he⟩,hit⟩,fun b hb=>?_,q⟩
 have hb' : s1.heap.objs.size <= b:=by
   rcases List.mem_cons.mp hb with rfl | hb
   . omega
   . rw [List.mem_singleton.mp hb]; exact Nat.le_refl _
 exact I1.fpOk hb' (I1.hok.fresh hb')
def zsN (K : PySem.W.Frag) (g : TG) (tb : TS) (D : zcE) (σ : St) (vs : List V) (H1 : Hp) : Prop:=∃ a,vs = [.ref a] /\ (∃ xs,SqT K H1 a xs) /\
 ∃ W : Nat -> Nat -> St -> Hp -> Prop,(∃ m,W 0 m σ H1) /\ ∀ i m σ H,W i m σ H ->
   ((Ite K a).stop i H /\ D.nx σ H) \/ ((Ite K a).go i H /\ ∃ M : St -> Hp -> Prop,(∀ σ' H',M σ' H' -> ∃ m',m' < m /\ W (i + 1) m' σ' H') /\ ∀ x H',(Ite K a).yld i H x H' -> g x σ H' fun σ2 H2=>tb { D with nx:=M,ct:=M,bk:=D.nx } σ2 H2)
section
variable {K : PySem.W.Frag} {ta : TA} {g : TG} {tb : TS} {D : zcE} {σ : St} {H : Hp} {a : Addr} {xs : List V}
theorem zpL (h : ta σ H fun vs H1=>zsN K g tb D σ vs H1) : zlE (znC K ta) g tb D σ H:=h
theorem zmE (hx : SqT K H a xs) (Pv : Nat -> St -> Hp -> Prop) (h0 : Pv 0 σ H) (hl : ∀ i σ H,i <= xs.length -> Pv i σ H -> SqT K H a xs)
   (hs : ∀ i x σ H t H',xs[i]? = some x -> Pv i σ H -> H t = none -> zai H H' -> H' t = some (.tup [.int (i : Int),x]) -> g (.ref t) σ H' fun σ2 H2=>tb { D with nx:=Pv (i + 1),ct:=Pv (i + 1),bk:=D.nx } σ2 H2) (hd : ∀ σ H,Pv xs.length σ H -> D.nx σ H) : zsN K g tb D σ [.ref a] H:=by
 refine ⟨a,rfl,⟨xs,hx⟩,fun i m σ H=>i + m = xs.length /\ Pv i σ H,⟨xs.length,by omega,h0⟩,?_⟩
 rintro i m σ H ⟨him,hp⟩
 have hq:=hl i σ H (by omega) hp
 by_cases hm : m = 0
 . have e : i = xs.length:=by omega
   subst e
   exact .inl ⟨⟨xs,hq,Nat.le_refl _⟩,hd _ _ hp⟩
 . have hi : i < xs.length:=by omega
   refine .inr ⟨⟨xs,xs[i],hq,by simp [hi]⟩,fun σ' H'=>Pv (i + 1) σ' H',fun σ' H' h=>⟨m - 1,by omega,by omega,h⟩,?_⟩
   rintro y H' ⟨t,x,rfl,hn,hx',rfl⟩
   exact hs i x σ H t _ (hx' xs hq) hp hn (zai.upd hn) zaV
end
end L2
set_option Elab.async false
set_option linter.all false
set_option maxRecDepth 100000
namespace L2
open PySem PySem.Spec PyProof.Rows GM
structure ZA (z TI TO i1 i2 : Addr) (f1 f2 : List Addr) : Prop where
 a1 : TI ≠ z
 a2 : TO ≠ z
 a3 : i1 ≠ z
 a4 : i2 ≠ z
 a5 : TI ≠ TO
 a6 : TI ≠ i1
 a7 : TI ≠ i2
 a8 : TO ≠ i1
 a9 : TO ≠ i2
 b0 : i1 ≠ i2
 b1 : z ∉ f1
 b2 : z ∉ f2
 b3 : TO ∉ f1
 b4 : TO ∉ f2
 b5 : i1 ∉ f2
 b6 : i2 ∉ f1
section
variable {prog : Program} {w : World} {A : Around} {E : Value -> Shared -> Prop} {s : Shared} {z TI TO i1 i2 : Addr} {f1 f2 : List Addr} {n1 n2 k : Nat} {P1 P2 : Nat -> Value -> Prop} {S1 S2 : Nat -> Heap -> Prop} {a b : Value}
theorem zs5 {Q : Value -> Shared -> Prop} (D1 : Draws prog w A i1 f1 n1 P1 S1) (D2 : Draws prog w A i2 f2 n2 P2 S2) (ap : ZA z TI TO i1 i2 f1 f2) (hz : IsZip s.heap z TI TO .none) (hi : IsPair s.heap TI (.ref i1) (.ref i2)) (ho : IsPair s.heap TO a b)
   (h1 : S1 k s.heap) (h2 : S2 k s.heap) (l1 : k < n1) (l2 : k < n2)
   (fin : ∀ x y h' tk,P1 k x -> P2 k y -> IsZip h' z TI TO (rawInt s.heap.objs.size) -> IsPair h' TO x y -> S1 (k + 1) h' -> S2 (k + 1) h' -> IsPair h' s.heap.objs.size x y ->
     (∀ c o,c ≠ z -> c ≠ TO -> c ≠ i1 -> c ≠ i2 -> s.heap.get? c = some o -> h'.get? c = some o) -> Q (.ref s.heap.objs.size) { s with heap:=h',toks:=tk }) :
   wpAny (model prog w) A (Builtin.«zip.__next__» ⟨[.ref z],[]⟩) (fun r s'=>∃ v,r = .done (.ret v) /\ Q v s') E s:=by
 show wpAny _ _ (field (.ref z) 2 >>= _) _ _ _; refine wpAny_bind (wpAny_field hz rfl (x:=.bool false) rfl ?_)
 show wpAny _ _ (field (.ref z) 3 >>= _) _ _ _; refine wpAny_bind (wpAny_field hz rfl (x:=.ref TI) rfl ?_)
 refine wpAny_bind (wpAny_seqItems hi rfl ?_); show wpAny _ _ (Builtin.SmallTypes.ownedTupleIsFree (.ref z) >>= _) _ _ _
 refine wpAny_bind ?_; unfold Builtin.SmallTypes.ownedTupleIsFree
 refine wpAny_bind (wpAny_field hz rfl (x:=.none) rfl (wpAny_pure ?_)); simp only [if_true]
 refine wpAny_bind (wpAny_rule ?_); refine wpAny_bind (wpAny_field hz rfl (x:=.ref TO) rfl ?_)
 refine wpAny_bind (wpAny_setField_rec hz (by simp) fun g1 zz1 sb1=>?_)
 have zz1 : IsZip g1 z TI TO .ellipsis:=zz1
 refine wpAny_bind ?_; simp only [List.zipIdx_cons,List.zipIdx_nil,List.forIn_cons,List.forIn_nil]
 refine wpAny_bind (wpAny_bind (wpAny_onRaise ?_)); show wpAny _ _ (Builtin.SmallTypes.nextOf (.ref i1) >>= _) _ _ _
 have h1a : S1 k g1:=D1.frame _ _ _ h1 fun c hc o e=>sb1.extBut c o (fun q=>ap.b1 (q ▸ hc)) e
 have h2a : S2 k g1:=D2.frame _ _ _ h2 fun c hc o e=>sb1.extBut c o (fun q=>ap.b2 (q ▸ hc)) e
 refine wpAny_bind (D1.item k _ _ _ l1 h1a fun x g2 t2 px h1b sb2=>wpAny_pure ?_)
 have ho2 : IsPair g2 TO a b:=sb2.extBut _ _ ap.a8 (sb1.extBut _ _ ap.a2 ho)
 have h2b : S2 k g2:=D2.frame _ _ _ h2a fun c hc o e=>sb2.extBut c o (fun q=>ap.b5 (q ▸ hc)) e
 refine wpAny_bind (wpAny_seqItems ho2 rfl ?_); refine wpAny_bind (wpAny_updateSeq_pair ho2 fun g3 ho3 sb3=>?_)
 have ho3 : IsPair g3 TO x b:=ho3
 have sb3 : Heap.SameBut TO g2 g3:=sb3
 have h1c : S1 (k + 1) g3:=D1.frame _ _ _ h1b fun c hc o e=>sb3.extBut c o (fun q=>ap.b3 (q ▸ hc)) e
 have h2c : S2 k g3:=D2.frame _ _ _ h2b fun c hc o e=>sb3.extBut c o (fun q=>ap.b4 (q ▸ hc)) e
 refine wpAny_bind (wpAny_letGo (wpAny_pure ?_)); refine wpAny_bind (wpAny_bind (wpAny_onRaise ?_))
 show wpAny _ _ (Builtin.SmallTypes.nextOf (.ref i2) >>= _) _ _ _; refine wpAny_bind (D2.item k _ _ _ l2 h2c fun y g4 t4 py h2d sb4=>wpAny_pure ?_)
 have sb4 : Heap.SameBut i2 g3 g4:=sb4
 have ho4 : IsPair g4 TO x b:=sb4.extBut _ _ ap.a9 ho3
 have h1d : S1 (k + 1) g4:=D1.frame _ _ _ h1c fun c hc o e=>sb4.extBut c o (fun q=>ap.b6 (q ▸ hc)) e
 refine wpAny_bind (wpAny_seqItems ho4 rfl ?_); refine wpAny_bind (wpAny_updateSeq_pair ho4 fun g5 ho5 sb5=>?_)
 have ho5 : IsPair g5 TO x y:=ho5
 have sb5 : Heap.SameBut TO g4 g5:=sb5
 have h1e : S1 (k + 1) g5:=D1.frame _ _ _ h1d fun c hc o e=>sb5.extBut c o (fun q=>ap.b3 (q ▸ hc)) e
 have h2e : S2 (k + 1) g5:=D2.frame _ _ _ h2d fun c hc o e=>sb5.extBut c o (fun q=>ap.b4 (q ▸ hc)) e
 refine wpAny_bind (wpAny_letGo (wpAny_pure (wpAny_pure ?_))); refine wpAny_bind (wpAny_seqItems ho5 rfl ?_); refine wpAny_bind (wpAny_newTuple ?_)
 have sb2 : Heap.SameBut i1 g1 g2:=sb2
 have sb1 : Heap.SameBut z s.heap g1:=sb1
 have hsz : g5.objs.size = s.heap.objs.size:=by rw [sb5.1,sb4.1,sb3.1,sb2.1,sb1.1]
 have zz5 : IsZip g5 z TI TO .ellipsis:=sb5.extBut _ _ ap.a2.symm (sb4.extBut _ _ ap.a4.symm (sb3.extBut _ _ ap.a2.symm (sb2.extBut _ _ ap.a3.symm zz1)))
 have kept : ∀ c o,c ≠ z -> c ≠ TO -> c ≠ i1 -> c ≠ i2 -> s.heap.get? c = some o -> g5.get? c = some o:=fun c o c1 c2 c3 c4 e=>sb5.extBut _ _ c2 (sb4.extBut _ _ c4 (sb3.extBut _ _ c2 (sb2.extBut _ _ c3 (sb1.extBut _ _ c1 e))))
 have zlt : z < g5.objs.size:=Heap.lt_size zz5
 show wpAny _ _ (Builtin.SmallTypes.ownedTupleHandOut (.ref z) (.ref g5.objs.size) >>= _) _ _ _; refine wpAny_bind ?_; unfold Builtin.SmallTypes.ownedTupleHandOut
 have zz6 : IsZip (g5.push { cls:=.type "tuple",data:=.seq #[x,y] }) z TI TO .ellipsis:=Heap.get?_push_of_some _ zz5
 refine wpAny_bind (wpAny_setField_rec zz6 (by simp) fun g7 zz7 sb7=>?_)
 have zz7 : IsZip g7 z TI TO (rawInt g5.objs.size):=zz7
 refine wpAny_setField_rec zz7 (by simp) fun g8 zz8 sb8=>?_
 have zz8 : IsZip g8 z TI TO (rawInt g5.objs.size):=zz8
 have sb7 : Heap.SameBut z (g5.push { cls:=.type "tuple",data:=.seq #[x,y] }) g7:=sb7
 have sb8 : Heap.SameBut z g7 g8:=sb8
 have up : ∀ c o,c ≠ z -> g5.get? c = some o -> g8.get? c = some o:=fun c o c1 e=>sb8.extBut _ _ c1 (sb7.extBut _ _ c1 (Heap.get?_push_of_some _ e))
 have new8 : IsPair g8 g5.objs.size x y:=sb8.extBut _ _ (Nat.ne_of_gt zlt) (sb7.extBut _ _ (Nat.ne_of_gt zlt) (Heap.get?_push_size _ rfl))
 rw [hsz] at zz8 new8
 refine wpAny_pure ⟨_,rfl,?_⟩
 show Q (.ref g5.objs.size) _
 rw [hsz]
 exact fin x y g8 _ px py zz8 (up _ _ ap.a2 ho5) (D1.frame _ _ _ h1e fun c hc o e=>up c o (fun q=>ap.b1 (q ▸ hc)) e) (D2.frame _ _ _ h2e fun c hc o e=>up c o (fun q=>ap.b2 (q ▸ hc)) e) new8 fun c o c1 c2 c3 c4 e=>up c o c1 (kept c o c1 c2 c3 c4 e)
theorem zs3 {Q : Fin -> Shared -> Prop} (D1 : Draws prog w A i1 f1 n1 P1 S1) (D2 : Draws prog w A i2 f2 n2 P2 S2) (ap : ZA z TI TO i1 i2 f1 f2) (hz : IsZip s.heap z TI TO .none) (hi : IsPair s.heap TI (.ref i1) (.ref i2)) (ho : IsPair s.heap TO a b)
   (h1 : S1 k s.heap) (h2 : S2 k s.heap) (hk : k = n1 \/ (k < n1 /\ k = n2))
   (fin : ∀ h' e tk,(∀ c o,c ≠ z -> c ≠ TO -> c ≠ i1 -> c ≠ i2 -> s.heap.get? c = some o -> h'.get? c = some o) -> (∃ o,h'.get? e = some o /\ o.cls = .type "StopIteration") -> E (.ref e) { s with heap:=h',toks:=tk }) :
   wpAny (model prog w) A (Builtin.«zip.__next__» ⟨[.ref z],[]⟩) Q E s:=by
 show wpAny _ _ (field (.ref z) 2 >>= _) _ _ _; refine wpAny_bind (wpAny_field hz rfl (x:=.bool false) rfl ?_)
 show wpAny _ _ (field (.ref z) 3 >>= _) _ _ _; refine wpAny_bind (wpAny_field hz rfl (x:=.ref TI) rfl ?_)
 refine wpAny_bind (wpAny_seqItems hi rfl ?_); show wpAny _ _ (Builtin.SmallTypes.ownedTupleIsFree (.ref z) >>= _) _ _ _
 refine wpAny_bind ?_; unfold Builtin.SmallTypes.ownedTupleIsFree
 refine wpAny_bind (wpAny_field hz rfl (x:=.none) rfl (wpAny_pure ?_)); simp only [if_true]
 refine wpAny_bind (wpAny_rule ?_); refine wpAny_bind (wpAny_field hz rfl (x:=.ref TO) rfl ?_)
 refine wpAny_bind (wpAny_setField_rec hz (by simp) fun g1 zz1 sb1=>?_)
 have zz1 : IsZip g1 z TI TO .ellipsis:=zz1
 have sb1 : Heap.SameBut z s.heap g1:=sb1
 refine wpAny_bind ?_; simp only [List.zipIdx_cons,List.zipIdx_nil,List.forIn_cons,List.forIn_nil]
 refine wpAny_bind (wpAny_bind (wpAny_onRaise ?_)); show wpAny _ _ (Builtin.SmallTypes.nextOf (.ref i1) >>= _) _ _ _
 have h1a : S1 k g1:=D1.frame _ _ _ h1 fun c hc o e=>sb1.extBut c o (fun q=>ap.b1 (q ▸ hc)) e
 have h2a : S2 k g1:=D2.frame _ _ _ h2 fun c hc o e=>sb1.extBut c o (fun q=>ap.b2 (q ▸ hc)) e
 rcases hk with rfl | ⟨l1,rfl⟩
 . refine wpAny_bind (D1.done _ _ _ h1a fun g2 e sb2 he=>?_)
   obtain ⟨oe,hoe,hce⟩:=he
   have zz2 : IsZip g2 z TI TO .ellipsis:=sb2 _ _ ap.a3.symm zz1
   have hez : e ≠ z:=fun q=>by subst q; rw [zz2] at hoe; cases hoe; simp at hce
   exact wpAny_setField_rec zz2 (by simp) fun g3 _ sb3=>fin g3 e _ (fun c o c1 _ c3 _ q=>sb3.extBut _ _ c1 (sb2 _ _ c3 (sb1.extBut _ _ c1 q))) ⟨oe,sb3.extBut _ _ hez hoe,hce⟩
 . refine wpAny_bind (D1.item k _ _ _ l1 h1a fun x g2 t2 px h1b sb2=>wpAny_pure ?_)
   have sb2 : Heap.SameBut i1 g1 g2:=sb2
   have ho2 : IsPair g2 TO a b:=sb2.extBut _ _ ap.a8 (sb1.extBut _ _ ap.a2 ho)
   have h2b : S2 k g2:=D2.frame _ _ _ h2a fun c hc o e=>sb2.extBut c o (fun q=>ap.b5 (q ▸ hc)) e
   refine wpAny_bind (wpAny_seqItems ho2 rfl ?_); refine wpAny_bind (wpAny_updateSeq_pair ho2 fun g3 ho3 sb3=>?_)
   have sb3 : Heap.SameBut TO g2 g3:=sb3
   have h2c : S2 k g3:=D2.frame _ _ _ h2b fun c hc o e=>sb3.extBut c o (fun q=>ap.b4 (q ▸ hc)) e
   refine wpAny_bind (wpAny_letGo (wpAny_pure ?_)); refine wpAny_bind (wpAny_bind (wpAny_onRaise ?_))
   show wpAny _ _ (Builtin.SmallTypes.nextOf (.ref i2) >>= _) _ _ _; refine wpAny_bind (D2.done _ _ _ h2c fun g4 e sb4 he=>?_)
   obtain ⟨oe,hoe,hce⟩:=he
   have zz4 : IsZip g4 z TI TO .ellipsis:=sb4 _ _ ap.a4.symm (sb3.extBut _ _ ap.a2.symm (sb2.extBut _ _ ap.a3.symm zz1))
   have hez : e ≠ z:=fun q=>by subst q; rw [zz4] at hoe; cases hoe; simp at hce
   exact wpAny_setField_rec zz4 (by simp) fun g5 _ sb5=>fin g5 e _ (fun c o c1 c2 c3 c4 q=>sb5.extBut _ _ c1 (sb4 _ _ c4 (sb3.extBut _ _ c2 (sb2.extBut _ _ c3 (sb1.extBut _ _ c1 q))))) ⟨oe,sb5.extBut _ _ hez hoe,hce⟩
end
def SqK (t : Bool) (K : PySem.W.Frag) (H : Hp) (a : Addr) (xs : List V) : Prop:=match t with
 | true=>SqT K H a xs
 | false=>SqL K H a xs
def zfk (t : Bool) (h : Heap) (it a : Addr) (i : Nat) : Prop:=match t with
 | true=>h.IsTupleIter it a i
 | false=>h.IsListIter it a i
def zsI (t : Bool) (h : Heap) (a : Addr) (its : Array Value) : Prop:=match t with
 | true=>h.IsTuple a its
 | false=>h.IsList a its
theorem zi5 {prog : Program} {w : World} {A : Around} (t : Bool) (hh : A.handled = none) (it a : Addr) (hne : a ≠ it) (its : Array Value) : Draws prog w A it [it,a] its.size (fun i v=>its[i]? = some v) (fun i h=>zfk t h it a i /\ zsI t h a its):=by
 cases t
 . exact Draws.list hh it a hne its
 . exact zop hh it a hne its
theorem Inv.seqK {X : Cx} {pins : List (Addr × Obj)} {σ : L2.St} {H : Hp} {s : Shared} {t : Bool} {a : Addr} {xs : List V} (I : Inv X pins σ H s) (h : SqK t X.K H a xs) : ∃ its : List Value,zaZ xs its /\ zsI t s.heap a its.toArray:=by
 cases t
 . obtain ⟨its,r,p,_⟩:=I.list h
   exact ⟨its,r,p.isList⟩
 . obtain ⟨its,r,p,_⟩:=I.tuple h
   exact ⟨its,r,p⟩
theorem Inv.seqK_inj {X : Cx} {pins : List (Addr × Obj)} {σ : L2.St} {H : Hp} {s : Shared} {t : Bool} {a : Addr} {xs ys : List V} (I : Inv X pins σ H s) (h : SqK t X.K H a xs) (k : SqK t X.K H a ys) : xs = ys:=by
 cases t
 . exact I.list_inj h k
 . exact I.tuple_inj h k
theorem zfk.obj {t : Bool} {h : Heap} {it a : Addr} {i : Nat} (st : zfk t h it a i) : ∃ o,h.get? it = some o /\ ∀ v,o.data ≠ .cell v:=by
 cases t
 . obtain ⟨o,e,_,d⟩:=st
   exact ⟨o,e,fun v z=>by rw [d] at z; cases z⟩
 . obtain ⟨o,e,_,d⟩:=st
   exact ⟨o,e,fun v z=>by rw [d] at z; cases z⟩
theorem zfk.at {t : Bool} {h h' : Heap} {it a : Addr} {i : Nat} (st : zfk t h it a i) (k : ∀ o,h.get? it = some o -> h'.get? it = some o) : zfk t h' it a i:=by
 cases t
 . exact Heap.IsListIter.at st k
 . exact Heap.IsTupleIter.at st k
def Itz (t u : Bool) (K : PySem.W.Frag) (a b : Addr) : It :=
 ⟨fun i H=>∃ xs x ys y,SqK t K H a xs /\ xs[i]? = some x /\ SqK u K H b ys /\ ys[i]? = some y,
  fun i H v H'=>∃ (c : Addr) (x y : V),v = .ref c /\ H c = none /\ (∀ xs,SqK t K H a xs -> xs[i]? = some x) /\ (∀ ys,SqK u K H b ys -> ys[i]? = some y) /\ H' = upd H c (.tup [x,y]),
  fun i H=>∃ xs ys,SqK t K H a xs /\ SqK u K H b ys /\ (xs.length = i \/ (i < xs.length /\ ys.length = i))⟩
theorem zoL {P : Program} {w : World} {K : PySem.W.Frag} {elts : List Expr} {k1} {tpos : Pos} {t u : Bool} (a b z TI TO i1 i2 : Addr) (ap : ZA z TI TO i1 i2 [i1,a] [i2,b]) (na : a ≠ i1) (nb : b ≠ i2) :
   zie P w K (.Tuple elts k1 tpos) (Itz t u K a b) [z,TI,TO,i1,i2] z (fun i h=>IsZip h z TI TO .none /\ IsPair h TI (.ref i1) (.ref i2) /\ (∃ p q,IsPair h TO p q) /\ zfk t h i1 a i /\ zfk u h i2 b i) where
 mem:=by simp
 obj:=fun i h st c hc=>by
   obtain ⟨hz,hi,⟨p,q,ho⟩,s1,s2⟩:=st
   simp only [List.mem_cons,List.not_mem_nil,or_false] at hc
   rcases hc with rfl | rfl | rfl | rfl | rfl
   . exact ⟨_,hz,fun v z=>by cases (show Data.fields _ = Data.cell v from z)⟩
   . exact ⟨_,hi,fun v z=>by cases (show Data.seq _ _ = Data.cell v from z)⟩
   . exact ⟨_,ho,fun v z=>by cases (show Data.seq _ _ = Data.cell v from z)⟩
   . exact s1.obj
   . exact s2.obj
 keep:=fun i h h' st k=>by
   obtain ⟨hz,hi,⟨p,q,ho⟩,s1,s2⟩:=st
   exact ⟨k z (by simp) _ hz,k TI (by simp) _ hi,⟨p,q,k TO (by simp) _ ho⟩,s1.at fun o e=>k i1 (by simp) o e,s2.at fun o e=>k i2 (by simp) o e⟩
 item:=by
   intro X hP hw hK hc i pins s σ H E I hf st hg
   subst hP hw hK
   obtain ⟨hz,hi,⟨p,q,ho⟩,s1,s2⟩:=st
   obtain ⟨xs,x,ys,y,hq1,hx,hq2,hy⟩:=hg
   obtain ⟨its,r1,p1⟩:=I.seqK hq1
   obtain ⟨jts,r2,p2⟩:=I.seqK hq2
   obtain ⟨ux,hux,rux⟩:=r1.get hx
   obtain ⟨uy,huy,ruy⟩:=r2.get hy
   have lt1 : i < its.toArray.size:=by
     rcases Nat.lt_or_ge i its.length with q | q
     . simpa using q
     . rw [List.getElem?_eq_none q] at hux; cases hux
   have lt2 : i < jts.toArray.size:=by
     rcases Nat.lt_or_ge i jts.length with q | q
     . simpa using q
     . rw [List.getElem?_eq_none q] at huy; cases huy
   have hT : s.TypeIs (.ref z) "zip":=⟨_,hz,rfl⟩
   unfold pyNext
   refine wpAny_bind (wpAny_attempt (wpAny_callSpecial?_slot (name:=Str.ofString "__next__") hT F.slot_zip_next (wpAny_call_entry F.slot_zip_next hT F.entry_zip_next
     (zs5 (zi5 (A:=X.A.in1) t (I.ok.hd hc) i1 a na its.toArray) (zi5 (A:=X.A.in1) u (I.ok.hd hc) i2 b nb jts.toArray) ap hz hi ho ⟨s1,p1⟩ ⟨s2,p2⟩ lt1 lt2 fun v1 v2 h1 tk e1 e2 hz1 ho1 st1 st2 hT1 hk=>wpAny_pure ?_) (F.args_zip_next_1 _))))
   have ev1 : v1 = ux:=by
     have e1' : its[i]? = some v1:=by simpa using e1
     rw [hux] at e1'; exact (Option.some.inj e1').symm
   have ev2 : v2 = uy:=by
     have e2' : jts[i]? = some v2:=by simpa using e2
     rw [huy] at e2'; exact (Option.some.inj e2').symm
   subst ev1 ev2
   have I1 : Inv X pins σ (upd H s.heap.objs.size (.tup [x,y])) { s with heap:=s.heap.push { cls:=.type "tuple",data:=.seq ([v1,v2] : List Value).toArray },toks:=tk } :=
     I.laid (fun c o q=>Heap.get?_push_of_some _ q) (Nat.le_refl _) (show zcJ X.prog X.w _ _ _ (.tup [x,y]) from ⟨zfR (by simp),_,.cons rux (.cons ruy .nil),IsTup.new _ _⟩)
   have ltf : ∀ c ∈ [z,TI,TO,i1,i2],c < s.heap.objs.size:=fun c hc=>by
     simp only [List.mem_cons,List.not_mem_nil,or_false] at hc
     rcases hc with rfl | rfl | rfl | rfl | rfl
     . exact Heap.lt_size hz
     . exact Heap.lt_size hi
     . exact Heap.lt_size ho
     . obtain ⟨o,e,_⟩:=s1.obj; exact Heap.lt_size e
     . obtain ⟨o,e,_⟩:=s2.obj; exact Heap.lt_size e
   have hf1 : ∀ c ∈ [z,TI,TO,i1,i2],zen X pins (upd H s.heap.objs.size (.tup [x,y])) c:=fun c hc=>⟨by rw [zbX (Nat.ne_of_lt (ltf c hc))]; exact (hf c hc).1,(hf c hc).2⟩
   refine ⟨_,rfl,wpAny_letOwnedTupleGo_zip hz1 fun h2 hz2 hs2=>?_⟩
   have hs2 : Heap.SameBut z h1 h2:=hs2
   refine ⟨.ref s.heap.objs.size,_,Inv.turnedL (s:={ s with heap:=s.heap.push { cls:=.type "tuple",data:=.seq ([v1,v2] : List Value).toArray },toks:=tk }) (ch:=[z,TI,TO,i1,i2]) I1 (fun c o hc q=>?_) hf1,rfl,
     ⟨_,x,y,rfl,I.hok.fresh (Nat.le_refl _),fun zs hzs=>by rw [I.seqK_inj hzs hq1]; exact hx,fun zs hzs=>by rw [I.seqK_inj hzs hq2]; exact hy,rfl⟩,
     ⟨hz2,hs2.extBut _ _ ap.a1 (hk _ _ ap.a1 ap.a5 ap.a6 ap.a7 hi),⟨_,_,hs2.extBut _ _ ap.a2 ho1⟩,st1.1.at fun o e=>hs2.extBut _ _ ap.a3 e,st2.1.at fun o e=>hs2.extBut _ _ ap.a4 e⟩,fun c hc=>(hf1 c hc).1⟩
   have c1 : c ≠ z:=fun q=>hc (by simp [q])
   have c2 : c ≠ TO:=fun q=>hc (by simp [q])
   have c3 : c ≠ i1:=fun q=>hc (by simp [q])
   have c4 : c ≠ i2:=fun q=>hc (by simp [q])
   refine hs2.extBut _ _ c1 ?_
   by_cases hcs : c = s.heap.objs.size
   . subst hcs
     rw [Heap.get?_push_size _ rfl] at q
     cases q
     exact hT1
   . exact hk c o c1 c2 c3 c4 (by rw [Heap.get?_push_ne _ _ _ hcs] at q; exact q)
 done:=by
   intro X hP hw hK hc i pins s σ H E I hf st hg
   subst hP hw hK
   obtain ⟨hz,hi,⟨p,q,ho⟩,s1,s2⟩:=st
   obtain ⟨xs,ys,hq1,hq2,hend⟩:=hg
   obtain ⟨its,r1,p1⟩:=I.seqK hq1
   obtain ⟨jts,r2,p2⟩:=I.seqK hq2
   have e1:=r1.length
   have e2:=r2.length
   have hT : s.TypeIs (.ref z) "zip":=⟨_,hz,rfl⟩
   unfold pyNext
   refine wpAny_bind (wpAny_attempt (wpAny_callSpecial?_slot (name:=Str.ofString "__next__") hT F.slot_zip_next (wpAny_call_entry F.slot_zip_next hT F.entry_zip_next
     (zs3 (k:=i) (zi5 (A:=X.A.in1) t (I.ok.hd hc) i1 a na its.toArray) (zi5 (A:=X.A.in1) u (I.ok.hd hc) i2 b nb jts.toArray) ap hz hi ho ⟨s1,p1⟩ ⟨s2,p2⟩ (by simp only [List.size_toArray]; omega) fun h' y tk hk hx'=>?_) (F.args_zip_next_1 _))))
   obtain ⟨o,ho',hcl⟩:=hx'
   refine wpAny_bind (wpAny_isInstance (T:="StopIteration") (b:=true) ⟨o,ho',hcl⟩ isSubtype_stop (wpAny_pure ⟨rfl,?_⟩))
   exact Inv.turnedL (ch:=[z,TI,TO,i1,i2]) I (fun c o hc e=>hk c o (fun q=>hc (by simp [q])) (fun q=>hc (by simp [q])) (fun q=>hc (by simp [q])) (fun q=>hc (by simp [q])) e) hf
 self:=fun _ _ _ _ _ st h=>wpAny_pyIter_zip st.1 h
abbrev zT1 (h : Heap) (a : Addr) : Heap:=h.push { cls:=.type "tuple_iterator",data:=.fields #[.ref a,.int 0 0] }
abbrev zT2 (h : Heap) (a b : Addr) : Heap:=(zT1 h a).push { cls:=.type "tuple_iterator",data:=.fields #[.ref b,.int 0 0] }
abbrev zT3 (h : Heap) (a b : Addr) : Heap:=(zT2 h a b).push { cls:=.type "tuple",data:=.seq #[.ref h.objs.size,.ref (zT1 h a).objs.size] }
abbrev zT4 (h : Heap) (a b : Addr) : Heap:=(zT3 h a b).push { cls:=.type "tuple",data:=.seq #[.none,.none] }
abbrev zT5 (h : Heap) (a b : Addr) : Heap:=(zT4 h a b).push { cls:=.type "zip",data:=.fields #[.none,.bool false,.bool false,.ref (zT2 h a b).objs.size,.ref (zT3 h a b).objs.size] }
theorem zle (a b : Addr) (xs ys : Array Value) : Meets (Builtin.«zip.__new__» ⟨[.type "zip",.ref a,.ref b],[]⟩) (fun _ R s=>s.heap.IsTuple a xs /\ s.heap.IsTuple b ys /\ R (.ok (.ret (.ref (zT4 s.heap a b).objs.size))) { s with heap:=zT5 s.heap a b }) :=
 .of_wp fun prog w A R s h=>by
   obtain ⟨hp,g,d,tk,os⟩:=s
   obtain ⟨ha,hb,h⟩:=h
   have hsub:=sub_zip
   have hA : Heap.IsTuple (Shared.heap ⟨hp,g,d,tk,os⟩) a xs:=ha
   have hB : Heap.IsTuple (Shared.heap ⟨hp.push { cls:=.type "tuple_iterator",data:=.fields #[.ref a,.int 0 0] },g,d,tk,os⟩) b ys:=hb.at fun o e=>Heap.get?_push_of_some _ e
   wp_walk using wpAny_pyIter_tuple hA,wpAny_pyIter_tuple hB
   exact ⟨_,rfl,h⟩
section
variable {prog : Program} {w : World} {A : Around} {E : Value -> Shared -> Prop} {s : Shared}
theorem zmP {a b : Addr} {xs ys : Array Value} {Q : Value -> Shared -> Prop} (ha : s.heap.IsTuple a xs) (hb : s.heap.IsTuple b ys)
   (fin : ∀ h',IsZip h' (s.heap.objs.size + 4) (s.heap.objs.size + 2) (s.heap.objs.size + 3) .none -> IsPair h' (s.heap.objs.size + 2) (.ref s.heap.objs.size) (.ref (s.heap.objs.size + 1)) -> IsPair h' (s.heap.objs.size + 3) .none .none ->
     h'.IsTupleIter s.heap.objs.size a 0 -> h'.IsTupleIter (s.heap.objs.size + 1) b 0 -> (∀ c o,s.heap.get? c = some o -> h'.get? c = some o) -> Q (.ref (s.heap.objs.size + 4)) { s with heap:=h' }) : wpAny (model prog w) A (call (.type "zip") [.ref a,.ref b]) Q E s:=by
 refine callType_new F.called_zip (by decide) (F.typeCall_zip_2 _ _) (F.newCall_zip_2 _ _) (fun obj=>F.args_object_init_3 obj _ _) F.entry_zip_new (zle a b xs ys) ⟨ha,hb,?_⟩
 have z1 : (zT1 s.heap a).objs.size = s.heap.objs.size + 1:=Heap.size_push ..
 have z2 : (zT2 s.heap a b).objs.size = s.heap.objs.size + 2:=by rw [Heap.size_push,z1]
 have z3 : (zT3 s.heap a b).objs.size = s.heap.objs.size + 3:=by rw [Heap.size_push,z2]
 have z4 : (zT4 s.heap a b).objs.size = s.heap.objs.size + 4:=by rw [Heap.size_push,z3]
 have g5 : (zT5 s.heap a b).get? (zT4 s.heap a b).objs.size = some _:=Heap.get?_push_size _ rfl
 have g4 : (zT5 s.heap a b).get? (zT3 s.heap a b).objs.size = some _:=Heap.get?_push_of_some _ (Heap.get?_push_size _ rfl)
 have g3 : (zT5 s.heap a b).get? (zT2 s.heap a b).objs.size = some _:=Heap.get?_push_of_some _ (Heap.get?_push_of_some _ (Heap.get?_push_size _ rfl))
 have g2 : (zT5 s.heap a b).get? (zT1 s.heap a).objs.size = some _:=Heap.get?_push_of_some _ (Heap.get?_push_of_some _ (Heap.get?_push_of_some _ (Heap.get?_push_size _ rfl)))
 have g1 : (zT5 s.heap a b).get? s.heap.objs.size = some _:=Heap.get?_push_of_some _ (Heap.get?_push_of_some _ (Heap.get?_push_of_some _ (Heap.get?_push_of_some _ (Heap.get?_push_size _ rfl))))
 show _ /\ _
 rw [z2,z3,z4] at g5; rw [z1,z2] at g3; rw [z3] at g4; rw [z1] at g2; rw [z4]
 exact ⟨⟨_,g5,rfl⟩,fin _ g5 g3 g4 ⟨_,g1,rfl,rfl⟩ ⟨_,g2,rfl,rfl⟩ fun c o x=>Heap.get?_push_of_some _ (Heap.get?_push_of_some _ (Heap.get?_push_of_some _ (Heap.get?_push_of_some _ (Heap.get?_push_of_some _ x))))⟩
end
def zoP (t u : Bool) (K : PySem.W.Frag) (ta : TA) : TI:=fun σ H R=>ta σ H fun vs H1=>∃ a b,vs = [.ref a,.ref b] /\ (∃ xs,SqK t K H1 a xs) /\ (∃ ys,SqK u K H1 b ys) /\ R (Itz t u K a b) H1
theorem zls : bootBuiltins "zip" = some (.type "zip"):=by decide +kernel
theorem zeV {x a b : Addr} (h : x ≠ a) (k : x ≠ b) : x ∉ [a,b]:=by simp [h,k]
theorem zsH {n a b : Nat} (la : a < n) (lb : b < n) : ZA (n + 4) (n + 2) (n + 3) n (n + 1) [n,a] [n + 1,b] where
 a1:=Nat.ne_of_lt (by omega)
 a2:=Nat.ne_of_lt (by omega)
 a3:=Nat.ne_of_lt (by omega)
 a4:=Nat.ne_of_lt (by omega)
 a5:=Nat.ne_of_lt (by omega)
 a6:=Nat.ne_of_gt (by omega)
 a7:=Nat.ne_of_gt (by omega)
 a8:=Nat.ne_of_gt (by omega)
 a9:=Nat.ne_of_gt (by omega)
 b0:=Nat.ne_of_lt (by omega)
 b1:=zeV (Nat.ne_of_gt (by omega)) (Nat.ne_of_gt (by omega))
 b2:=zeV (Nat.ne_of_gt (by omega)) (Nat.ne_of_gt (by omega))
 b3:=zeV (Nat.ne_of_gt (by omega)) (Nat.ne_of_gt (by omega))
 b4:=zeV (Nat.ne_of_gt (by omega)) (Nat.ne_of_gt (by omega))
 b5:=zeV (Nat.ne_of_lt (by omega)) (Nat.ne_of_gt (by omega))
 b6:=zeV (Nat.ne_of_gt (by omega)) (Nat.ne_of_gt (by omega))
theorem zk7 {X : Cx} {elts : List Expr} {k1} {tpos : Pos} {pins : List (Addr × Obj)} {σ : L2.St} {H : Hp} {s : Shared} {R : It -> Hp -> Prop} {h' : Heap} {E : Value -> Shared -> Prop} {t u : Bool} {a b : Addr} (I : Inv X pins σ H s) (la : a < s.heap.objs.size) (lb : b < s.heap.objs.size)
   (hz : IsZip h' (s.heap.objs.size + 4) (s.heap.objs.size + 2) (s.heap.objs.size + 3) .none) (hi : IsPair h' (s.heap.objs.size + 2) (.ref s.heap.objs.size) (.ref (s.heap.objs.size + 1))) (ho : IsPair h' (s.heap.objs.size + 3) .none .none)
   (s1 : zfk t h' s.heap.objs.size a 0) (s2 : zfk u h' (s.heap.objs.size + 1) b 0) (kp : ∀ c o,s.heap.get? c = some o -> h'.get? c = some o) (q : R (Itz t u X.K a b) H) : wpAny (model X.prog X.w) X.A (pyIter (.ref (s.heap.objs.size + 4))) (PIE X pins σ (.Tuple elts k1 tpos) R) E { s with heap:=h' }:=by
 refine wpAny_pyIter_zip hz ?_
 refine ⟨s.heap.objs.size + 4,[s.heap.objs.size + 4,s.heap.objs.size + 2,s.heap.objs.size + 3,s.heap.objs.size,s.heap.objs.size + 1],_,_,H,rfl,I.kept (t':=s.toks) kp,zoL a b _ (s.heap.objs.size + 2) (s.heap.objs.size + 3) s.heap.objs.size (s.heap.objs.size + 1) (zsH la lb) (Nat.ne_of_lt la) (Nat.ne_of_lt (Nat.lt_succ_of_lt lb)),⟨hz,hi,⟨_,_,ho⟩,s1,s2⟩,fun c hc=>?_,q⟩
 . have hb' : s.heap.objs.size <= c:=by
     simp only [List.mem_cons,List.not_mem_nil,or_false] at hc
     rcases hc with rfl | rfl | rfl | rfl | rfl
     . exact Nat.le_add_right _ 4
     . exact Nat.le_add_right _ 2
     . exact Nat.le_add_right _ 3
     . exact Nat.le_refl _
     . exact Nat.le_add_right _ 1
   exact I.fpOk hb' (I.hok.fresh hb')
theorem zqm {X : Cx} {elts : List Expr} {k1} {tpos p pos : Pos} {l m : Expr} {ta : TA} (hg : Gl X "zip") (hm : X.mg "zip" = none) (ha : PA X [l,m] ta) (hs : starEach [l,m] X.env = [(false,eval l X.env),(false,eval m X.env)]:=by rfl) (hs2 : starEach [m] X.env = [(false,eval m X.env)]:=by rfl) :
   PI X (.Tuple elts k1 tpos) (.Call (.Name "zip" p) [l,m] [] pos) (zoP true true X.K ta):=by
 intro pins s σ H R I h
 refine Call_ (zex I hg hm zls (PyProof.Rows.callWith_type1 (thn (ha pos pins s σ H _ I h) fun us s1 ⟨vs,H1,I1,r1,q1⟩=>?_) (by rw [hs,hs2]) (by rw [hs2]; rfl)))
 obtain ⟨a,b,rfl,⟨xs,hq1⟩,⟨ys,hq2⟩,q⟩:=q1
 obtain ⟨u,v,rfl,ru,rv⟩:=ziR r1
 cases ru
 cases rv
 obtain ⟨its,_,p1⟩:=I1.seqK hq1
 obtain ⟨jts,_,p2⟩:=I1.seqK hq2
 have la : a < s1.heap.objs.size:=by obtain ⟨o,e,_⟩:=(show s1.heap.IsTuple a its.toArray from p1); exact Heap.lt_size e
 have lb : b < s1.heap.objs.size:=by obtain ⟨o,e,_⟩:=(show s1.heap.IsTuple b jts.toArray from p2); exact Heap.lt_size e
 exact zmP p1 p2 fun h' hz hi ho t1 t2 kp=>zk7 (t:=true) (u:=true) I1 la lb hz hi ho t1 t2 kp q
theorem zpO {X : Cx} {elts : List Expr} {k1} {tpos p pos : Pos} {l m : Expr} {ta : TA} (hg : Gl X "zip") (hm : X.mg "zip" = none) (ha : PA X [l,m] ta) (hs : starEach [l,m] X.env = [(false,eval l X.env),(false,eval m X.env)]:=by rfl) (hs2 : starEach [m] X.env = [(false,eval m X.env)]:=by rfl) :
   PI X (.Tuple elts k1 tpos) (.Call (.Name "zip" p) [l,m] [] pos) (zoP false false X.K ta):=by
 intro pins s σ H R I h
 refine Call_ (zex I hg hm zls (PyProof.Rows.callWith_type1 (thn (ha pos pins s σ H _ I h) fun us s1 ⟨vs,H1,I1,r1,q1⟩=>?_) (by rw [hs,hs2]) (by rw [hs2]; rfl)))
 obtain ⟨a,b,rfl,⟨xs,hq1⟩,⟨ys,hq2⟩,q⟩:=q1
 obtain ⟨u,v,rfl,ru,rv⟩:=ziR r1
 cases ru
 cases rv
 obtain ⟨its,_,p1⟩:=I1.seqK hq1
 obtain ⟨jts,_,p2⟩:=I1.seqK hq2
 have la : a < s1.heap.objs.size:=by obtain ⟨o,e,_⟩:=(show s1.heap.IsList a its.toArray from p1); exact Heap.lt_size e
 have lb : b < s1.heap.objs.size:=by obtain ⟨o,e,_⟩:=(show s1.heap.IsList b jts.toArray from p2); exact Heap.lt_size e
 exact call_zip_2 p1 p2 fun h' hz hi ho t1 t2 _ kp=>zk7 (t:=false) (u:=false) I1 la lb hz hi ho t1 t2 kp q
theorem SqK.same {t : Bool} {K : PySem.W.Frag} {H H' : Hp} {a : Addr} {xs : List V} (s : zai H H') (h : SqK t K H a xs) : SqK t K H' a xs:=by
 cases t
 . exact s.seq h
 . exact s.sqT h
def zss (t u : Bool) (K : PySem.W.Frag) (g : TG) (tb : TS) (D : zcE) (σ : L2.St) (vs : List V) (H1 : Hp) : Prop:=∃ a b,vs = [.ref a,.ref b] /\ (∃ xs,SqK t K H1 a xs) /\ (∃ ys,SqK u K H1 b ys) /\
 ∃ W : Nat -> Nat -> L2.St -> Hp -> Prop,(∃ m,W 0 m σ H1) /\ ∀ i m σ H,W i m σ H ->
   ((Itz t u K a b).stop i H /\ D.nx σ H) \/ ((Itz t u K a b).go i H /\ ∃ M : L2.St -> Hp -> Prop,(∀ σ' H',M σ' H' -> ∃ m',m' < m /\ W (i + 1) m' σ' H') /\ ∀ x H',(Itz t u K a b).yld i H x H' -> g x σ H' fun σ2 H2=>tb { D with nx:=M,ct:=M,bk:=D.nx } σ2 H2)
def zou (t u : Bool) (K : PySem.W.Frag) (g : TG) (tt : TT) (te : TE) (src : List (Option Nat)) (σ : L2.St) (vs : List V) (H1 : Hp) (Q : VK) : Prop:=∃ a b,vs = [.ref a,.ref b] /\ (∃ xs,SqK t K H1 a xs) /\ (∃ ys,SqK u K H1 b ys) /\
 ∀ D,H1 D = none -> zfI g tt te (Itz t u K a b) D (zbo src σ) (upd H1 D (.lst [])) (fun H'=>Q (.ref D) H')
section
variable {t u : Bool} {K : PySem.W.Frag} {ta : TA} {g : TG} {tb : TS} {tt : TT} {te : TE} {D : zcE} {σ : L2.St} {H : Hp} {Q : VK} {a b : Addr} {xs ys : List V} {src : List (Option Nat)} {o0 o0' : Option V} {tl : L2.St}
theorem zp0 (h : ta σ H fun vs H1=>zss t u K g tb D σ vs H1) : zlE (zoP t u K ta) g tb D σ H:=h
theorem zo2 (h : ta σ H fun vs H1=>zou t u K g tt te src σ vs H1 Q) : zh2 src (zoP t u K ta) g tt te σ H Q:=h
theorem zne (hx : SqK t K H a xs) (hy : SqK u K H b ys) (hxy : xs.length = ys.length) (Pv : Nat -> L2.St -> Hp -> Prop) (h0 : Pv 0 σ H) (hl : ∀ i σ H,i <= xs.length -> Pv i σ H -> SqK t K H a xs /\ SqK u K H b ys)
   (hs : ∀ i x y σ H c H',xs[i]? = some x -> ys[i]? = some y -> Pv i σ H -> H c = none -> zai H H' -> H' c = some (.tup [x,y]) -> g (.ref c) σ H' fun σ2 H2=>tb { D with nx:=Pv (i + 1),ct:=Pv (i + 1),bk:=D.nx } σ2 H2) (hd : ∀ σ H,Pv xs.length σ H -> D.nx σ H) : zss t u K g tb D σ [.ref a,.ref b] H:=by
 refine ⟨a,b,rfl,⟨xs,hx⟩,⟨ys,hy⟩,fun i m σ H=>i + m = xs.length /\ Pv i σ H,⟨xs.length,by omega,h0⟩,?_⟩
 rintro i m σ H ⟨him,hp⟩
 obtain ⟨hq1,hq2⟩:=hl i σ H (by omega) hp
 by_cases hm : m = 0
 . have e : i = xs.length:=by omega
   subst e
   exact .inl ⟨⟨xs,ys,hq1,hq2,.inl rfl⟩,hd _ _ hp⟩
 . have hi : i < xs.length:=by omega
   have hj : i < ys.length:=by omega
   refine .inr ⟨⟨xs,xs[i],ys,ys[i],hq1,by simp [hi],hq2,by simp [hj]⟩,fun σ' H'=>Pv (i + 1) σ' H',fun σ' H' h=>⟨m - 1,by omega,by omega,h⟩,?_⟩
   rintro v H' ⟨c,x,y,rfl,hn,hx',hy',rfl⟩
   exact hs i x y σ H c _ (hx' xs hq1) (hy' ys hq2) hp hn (zai.upd hn) zaV
def zc2 (H : Hp) (tl : L2.St) (Rel : Nat -> V -> Hp -> Prop) (D : Addr) (i : Nat) (zs : List V) (σ' : L2.St) (H' : Hp) : Prop :=
 (∃ o1 o2,σ' = o1 :: o2 :: tl) /\ H D = none /\ zai H H' /\ H' D = some (.lst zs) /\ zs.length = i /\ ∀ j y,zs[j]? = some y -> Rel j y H'
theorem ziG {Rel : Nat -> V -> Hp -> Prop} {D : Addr} {i : Nat} {zs : List V} {σ' σ3 : L2.St} {H1 H5 : Hp} {y : V} (inv : zc2 H tl Rel D i zs σ' H1) (hi : i <= 1000) (hk : ∀ i v H1 H2,zaY H1 H2 -> Rel i v H1 -> Rel i v H2) (hσ : ∃ o1 o2,σ3 = o1 :: o2 :: tl) (s : zai H1 H5) (r : Rel i y H5) : zkr (zc2 H tl Rel) D i σ3 y H5:=by
 obtain ⟨_,hn,s1,hD,hl,hr⟩:=inv
 have hD5:=s _ _ hD
 refine zhe hD5 (by omega) fun H6 E6 e6=>⟨hσ,hn,(s1.trans s).grow hn E6,e6,by simp [hl],fun j z hz=>?_⟩
 have k6 : zaY H5 H6:=E6.keep hD5
 rcases Nat.lt_or_ge j zs.length with hj | hj
 . rw [List.getElem?_append_left hj] at hz
   exact hk _ _ _ _ (s.keep.trans k6) (hr j z hz)
 . have hj' : j = zs.length:=by
     rcases Nat.lt_or_ge zs.length j with q | q
     . rw [List.getElem?_eq_none (by simp; omega)] at hz; cases hz
     . omega
   subst hj'
   rw [List.getElem?_append_right (Nat.le_refl _),Nat.sub_self] at hz
   cases hz
   rw [hl]
   exact hk _ _ _ _ k6 r
theorem zqG (hx : SqK t K H a xs) (hy : SqK u K H b ys) (hxy : xs.length = ys.length) (hsrc : zbo src σ = o0 :: o0' :: tl) (Rel : Nat -> V -> Hp -> Prop) (hk : ∀ i v H1 H2,zaY H1 H2 -> Rel i v H1 -> Rel i v H2)
   (hs : ∀ D i x y zs o1 o2 H1 c,xs[i]? = some x -> ys[i]? = some y -> zc2 H tl Rel D i zs (o1 :: o2 :: tl) H1 -> H1 c = some (.tup [x,y]) -> zff (zc2 H tl Rel) g tt te D i (.ref c) (o1 :: o2 :: tl) H1)
   (hd : ∀ D zs H',H D = none -> zai H H' -> H' D = some (.lst zs) -> zs.length = xs.length -> (∀ j y,zs[j]? = some y -> Rel j y H') -> Q (.ref D) H') : zou t u K g tt te src σ [.ref a,.ref b] H Q:=by
 refine ⟨a,b,rfl,⟨xs,hx⟩,⟨ys,hy⟩,fun D hD=>⟨fun i m σ' H'=>i + m = xs.length /\ ∃ zs,zc2 H tl Rel D i zs σ' H',⟨xs.length,by omega,[],⟨o0,o0',hsrc⟩,hD,zai.upd hD,zaV,rfl,fun j y z=>by simp at z⟩,?_⟩⟩
 rintro i m σ' H' ⟨him,zs,inv⟩
 have hq1:=SqK.same inv.2.2.1 hx
 have hq2:=SqK.same inv.2.2.1 hy
 by_cases hm : m = 0
 . have e : i = xs.length:=by omega
   subst e
   obtain ⟨_,n,s,e,hl,r⟩:=inv
   exact .inl ⟨⟨xs,ys,hq1,hq2,.inl rfl⟩,hd D zs H' n s e hl r⟩
 . have hi : i < xs.length:=by omega
   have hj : i < ys.length:=by omega
   refine .inr ⟨⟨xs,xs[i],ys,ys[i],hq1,by simp [hi],hq2,by simp [hj]⟩,fun σ2 H2=>∃ zs,zc2 H tl Rel D (i + 1) zs σ2 H2,fun σ2 H2 h=>⟨m - 1,by omega,by omega,h⟩,?_⟩
   rintro v H2 ⟨c,x,y,rfl,hn,hx',hy',rfl⟩
   obtain ⟨⟨o1,o2,rfl⟩,n,s,e,hl,r⟩:=inv
   have su:=zai.upd (o:=.tup [x,y]) hn
   exact hs D i x y zs o1 o2 _ c (hx' xs hq1) (hy' ys hq2) ⟨⟨o1,o2,rfl⟩,n,s.trans su,su _ _ e,hl,fun j y hy=>hk _ _ _ _ su.keep (r j y hy)⟩ zaV
end
def zmg (K : PySem.W.Frag) : List V -> Hp -> VK -> Prop:=fun xs H Q=>∃ (p : Addr) (ns : List Int),xs = [.ref p] /\ SqT K H p (ns.map V.int) /\ Q (.int ns.sum) H
theorem zof : bootBuiltins "sum" = some (.builtin "sum"):=by decide +kernel
open PyProof.V PySem.Calls in
theorem ziC {X : Cx} (hc : X.calm = true) : zaP X (.builtin "sum") (zmg X.K):=by
 intro pins s σ H xs us Q I r h
 obtain ⟨p,ns,rfl,hq,q⟩:=h
 obtain ⟨u,rfl,rx⟩:=zfr r
 cases rx
 obtain ⟨its,r',pl,hz⟩:=I.tuple hq
 have hI:=zla r'
 have hT : s.heap.IsTuple p its.toArray:=pl
 obtain ⟨zs,hx⟩:=hI.allInts.items
 have hn : numsOf its.toArray.toList = ns:=by rw [show its.toArray.toList = its from rfl,hI.numsOf]
 rw [hx] at hT hn
 rw [nums_intItems] at hn
 refine PySem.W.ktm_sumG (I.ok.hd hc) hT fun h' tk t' hk=>?_
 rw [preSum_eq,List.take_of_length_le (by simp),hn]
 exact ⟨.int ns.sum,H,I.kept (t':=tk) hk,⟨_,rfl⟩,q⟩
theorem zjV {K : PySem.W.Frag} {H : Hp} {Q : VK} {v : V} {ns : List Int} (h : Is K H v (TZ ns)) (q : Q (.int ns.sum) H) : zmg K [v] H Q:=by
 obtain ⟨a,rfl,hs⟩:=zkc.mp h
 exact ⟨a,ns,rfl,hs,q⟩
end L2
set_option Elab.async false
set_option linter.all false
set_option maxRecDepth 100000
namespace L2
open PySem PySem.Spec PyProof.Rows GM
open HT in
theorem zil {prog : Program} {w : World} {A : Around} {E : Value -> Shared -> Prop} {s : Shared} {t sl : Addr} {items : Array Value} {vl vu : Value} {lo hi : Option Int} {Q : Value -> Shared -> Prop} (ht : IsTup s.heap t items) (hs : s.heap.IsSliceOf sl vl vu .none) (pl : IsPart vl lo) (pu : IsPart vu hi)
   (h1 : sIx items.size 0 lo = 0) (h2 : sIx items.size items.size hi = items.size) (h : Q (.ref t) s) : wpAny (model prog w) A (getItem (.ref t) (.ref sl)) Q E s:=by
 obtain ⟨ob,eo,ec,ed⟩:=id hs
 have hTs : s.TypeIs (.ref sl) "slice":=⟨ob,eo,ec⟩
 have hTt : s.TypeIs (.ref t) "tuple":=ht.typeIs
 unfold getItem
 try with_reducible refine wpAny_holding ?_
 first | refine wpAny_bind (wpAny_pure ?_) | skip
 refine wpAny_bind (wpAny_sequenceKey ht.typeIs (by decide) ?_)
 refine wpAny_bind (wpAny_callSpecial?_slot (name:=Str.ofString "__getitem__") ht.typeIs PyProof.Rows.slot_tuple_getitem (wpAny_call_entry PyProof.Rows.slot_tuple_getitem ht.typeIs entry_tuple_getitem ?_ (args_tuple_getitem _ _)))
 show wpAny _ _ (Builtin.Tuple.tupleItemsOf (.ref t) >>= _) _ _ s; refine wpAny_bind (tupleItemsOf_ ht ?_)
 refine wpAny_bind (wpAny_typeOf hTs ?_); rw [if_pos (by decide)]
 refine wpAny_bind (zd0 hs pl pu ?_)
 show wpAny _ _ (if (((sIx items.size 0 lo : Nat) : Int) == 0 && (1 : Int) == 1 && (sIx items.size items.size hi - sIx items.size 0 lo) == items.size) = true then _ else _) _ _ s
 rw [if_pos (by rw [h1,h2]; simp)]
 wp_walk
 exact ⟨_,rfl,wpAny_pure h⟩
def zpc (K : PySem.W.Frag) : V -> Option Int -> Option Int -> Hp -> VK -> Prop:=fun x lo hi H Q=>znG K x lo hi H Q \/ ∃ a xs,x = .ref a /\ SqT K H a xs /\ HT.sIx xs.length 0 lo = 0 /\ HT.sIx xs.length xs.length hi = xs.length /\ Q x H
theorem zk3 {X : Cx} : SlR X (zpc X.K):=by
 refine zgq.or ?_
 intro pins s σ H x v vl vu lo hi sl Q I rx hs pl pu h
 obtain ⟨a,xs,rfl,hx,h1,h2,q⟩:=h
 cases rx
 obtain ⟨its,r,ht,hz⟩:=I.tuple hx
 have hlen : its.toArray.size = xs.length:=by rw [List.size_toArray]; exact r.length.symm
 exact ⟨"tuple",_,PyProof.Rows.slot_tuple_getitem.lookup,ht.typeIs,zil ht hs pl pu (by rw [hlen]; exact h1) (by rw [hlen]; exact h2) ⟨.ref a,H,I,rfl,q⟩⟩
theorem zmA {K : PySem.W.Frag} {H : Hp} {Q : VK} {v : V} {ds : List PyData} {lo hi : Option Int} (h : Is K H v (.tuple ds)) (q : ∀ w H',zai H H' -> Is K H' w (.tuple (zfc ds lo hi)) -> Q w H') : zpc K v lo hi H Q:=by
 by_cases hw : HT.sIx ds.length 0 lo = 0 /\ HT.sIx ds.length ds.length hi = ds.length
 . obtain ⟨a,xs,rfl,hs,t⟩:=zaT.mp h
   have hl:=t.length
   refine .inr ⟨a,xs,rfl,hs,by rw [hl]; exact hw.1,by rw [hl]; exact hw.2,q _ H (zai.refl _) ?_⟩
   have e : zfc ds lo hi = ds:=by
     unfold zfc
     rw [hw.1,hw.2,List.drop_zero,Nat.sub_zero,List.take_length]
   rw [e]
   exact h
 . exact .inl (zmd h hw q)
theorem zrf {α : Type} (xs : List α) (k : Nat) : zfc xs none (some (k : Int)) = xs.take k:=by
 unfold zfc
 rw [HT.sIx_none,HT.sIx_nat,List.drop_zero,Nat.sub_zero]
 rcases Nat.le_total k xs.length with h | h
 . rw [Nat.min_eq_left h]
 . rw [Nat.min_eq_right h,List.take_length,List.take_of_length_le h]
theorem znX {α : Type} (xs : List α) (k : Nat) (h : k <= xs.length) : zfc xs (some (k : Int)) none = xs.drop k:=by
 unfold zfc
 rw [HT.sIx_none,HT.sIx_nat,Nat.min_eq_left h]
 exact List.take_of_length_le (by rw [List.length_drop]; omega)
end L2
set_option Elab.async false
set_option linter.all false
set_option maxRecDepth 100000
namespace L2
open PySem PySem.Spec PyProof.Rows GM
def zkV (K : PySem.W.Frag) : List V -> Hp -> VK -> Prop:=fun xs H Q=>∃ (p : Addr) (bs : List Bool),xs = [.ref p] /\ SqL K H p (bs.map V.bl) /\ Q (.bl (bs.all id)) H
theorem zlq : bootBuiltins "all" = some (.builtin "all"):=by decide +kernel
theorem zka {bs : List Bool} : ∀ {us : List Value},zaZ (bs.map V.bl) us -> us = bs.map Value.bool:=by
 induction bs with
 | nil=>intro us r; rw [List.map_nil] at r; cases r; rfl
 | cons b bs ih =>
   intro us r
   rw [List.map_cons] at r
   cases r with
   | cons r1 r2 =>
     cases r1
     rw [List.map_cons,ih r2]
theorem zlg (bs : List Bool) : ((List.range bs.length).all fun i=>(bs[i]?).getD true) = bs.all id:=by
 rw [Bool.eq_iff_iff,List.all_eq_true,List.all_eq_true]
 constructor
 . intro h b hb
   obtain ⟨i,hi,rfl⟩:=List.getElem_of_mem hb
   have:=h i (List.mem_range.mpr hi)
   rw [List.getElem?_eq_getElem hi] at this
   exact this
 . intro h i hi
   rw [List.mem_range] at hi
   rw [List.getElem?_eq_getElem hi]
   exact h _ (List.getElem_mem hi)
open PyProof.V PySem.Calls in
theorem zgD {X : Cx} (hc : X.calm = true) : zaP X (.builtin "all") (zkV X.K):=by
 intro pins s σ H xs us Q I r h
 obtain ⟨p,bs,rfl,hq,q⟩:=h
 obtain ⟨u,rfl,rx⟩:=zfr r
 cases rx
 obtain ⟨its,r',pl,hz⟩:=I.list hq
 have hi : its = bs.map Value.bool:=zka r'
 have hl : s.heap.IsList p its.toArray:=pl.isList
 have hlt : p < s.heap.objs.size:=by obtain ⟨_,e,_⟩:=hl; exact Heap.lt_size e
 refine call_all_walk (wpAny_pyIter_list hl ?_)
 refine ⟨s.heap.objs.size,[s.heap.objs.size,p],[s.heap.objs.size],its.toArray.size,_,_,fun i=>(bs[i]?).getD true,rfl,Walks.list (A:=X.A.in1) (I.ok.hd hc) _ p (Nat.ne_of_lt hlt) its.toArray,
   ⟨⟨_,Heap.get?_push_size _ rfl,rfl,rfl⟩,hl.push _⟩,fun i v s' Q' E' hP hQ=>?_,fun h' tk hk=>?_⟩
 . have hP : its.toArray[i]? = some v:=hP
   rw [hi] at hP
   simp only [List.getElem?_toArray,List.getElem?_map,Option.map_eq_some_iff] at hP
   obtain ⟨b,e,rfl⟩:=hP
   simp only [e,Option.getD_some] at hQ
   exact wpAny_truthy_bool hQ
 . have e : ((List.range its.toArray.size).all fun i=>(bs[i]?).getD true) = bs.all id:=by
     rw [List.size_toArray,hi,List.length_map]; exact zlg bs
   rw [e]
   exact ⟨.bl (bs.all id),H,I.kept (t':=tk) (fun b x e=>hk b x (fun hm=>by rw [List.mem_singleton.mp hm] at e; exact Nat.lt_irrefl _ (Heap.lt_size e)) (Heap.get?_push_of_some _ e)),rfl,q⟩
theorem zi7 {K : PySem.W.Frag} {H : Hp} {Q : VK} {p : Addr} {bs : List Bool} (h : SqL K H p (bs.map V.bl)) (q : Q (.bl (bs.all id)) H) : zkV K [.ref p] H Q:=⟨p,bs,rfl,h,q⟩
section
variable {t u : Bool} {K : PySem.W.Frag} {g : TG} {tt : TT} {te : TE} {σ : L2.St} {H : Hp} {Q : VK} {a b : Addr} {xs ys : List V} {src : List (Option Nat)} {o0 o0' : Option V} {tl : L2.St}
theorem zoY (hx : SqK t K H a xs) (hy : SqK u K H b ys) (hxy : ys.length < xs.length) (hsrc : zbo src σ = o0 :: o0' :: tl) (Rel : Nat -> V -> Hp -> Prop) (hk : ∀ i v H1 H2,zaY H1 H2 -> Rel i v H1 -> Rel i v H2)
   (hs : ∀ D i x y zs o1 o2 H1 c,xs[i]? = some x -> ys[i]? = some y -> zc2 H tl Rel D i zs (o1 :: o2 :: tl) H1 -> H1 c = some (.tup [x,y]) -> zff (zc2 H tl Rel) g tt te D i (.ref c) (o1 :: o2 :: tl) H1)
   (hd : ∀ D zs H',H D = none -> zai H H' -> H' D = some (.lst zs) -> zs.length = ys.length -> (∀ j y,zs[j]? = some y -> Rel j y H') -> Q (.ref D) H') : zou t u K g tt te src σ [.ref a,.ref b] H Q:=by
 refine ⟨a,b,rfl,⟨xs,hx⟩,⟨ys,hy⟩,fun D hD=>⟨fun i m σ' H'=>i + m = ys.length /\ ∃ zs,zc2 H tl Rel D i zs σ' H',⟨ys.length,by omega,[],⟨o0,o0',hsrc⟩,hD,zai.upd hD,zaV,rfl,fun j y z=>by simp at z⟩,?_⟩⟩
 rintro i m σ' H' ⟨him,zs,inv⟩
 have hq1:=SqK.same inv.2.2.1 hx
 have hq2:=SqK.same inv.2.2.1 hy
 by_cases hm : m = 0
 . have e : i = ys.length:=by omega
   subst e
   obtain ⟨_,n,s,e,hl,r⟩:=inv
   exact .inl ⟨⟨xs,ys,hq1,hq2,.inr ⟨hxy,rfl⟩⟩,hd D zs H' n s e hl r⟩
 . have hi : i < xs.length:=by omega
   have hj : i < ys.length:=by omega
   refine .inr ⟨⟨xs,xs[i],ys,ys[i],hq1,by simp [hi],hq2,by simp [hj]⟩,fun σ2 H2=>∃ zs,zc2 H tl Rel D (i + 1) zs σ2 H2,fun σ2 H2 h=>⟨m - 1,by omega,by omega,h⟩,?_⟩
   rintro v H2 ⟨c,x,y,rfl,hn,hx',hy',rfl⟩
   obtain ⟨⟨o1,o2,rfl⟩,n,s,e,hl,r⟩:=inv
   have su:=zai.upd (o:=.tup [x,y]) hn
   exact hs D i x y zs o1 o2 _ c (hx' xs hq1) (hy' ys hq2) ⟨⟨o1,o2,rfl⟩,n,s.trans su,su _ _ e,hl,fun j y hy=>hk _ _ _ _ su.keep (r j y hy)⟩ zaV
end
def zqT (g : TG) (tb : TS) (D : zcE) (σ : L2.St) (vs : List V) (H1 : Hp) : Prop:=∃ i j : Int,vs = [.int i,.int j] /\ (-(2 ^ 62) <= i /\ i < 2 ^ 62 /\ -(2 ^ 62) <= j /\ j < 2 ^ 62) /\
 ∃ W : Nat -> Nat -> L2.St -> Hp -> Prop,(∃ m,W 0 m σ H1) /\ ∀ k m σ H,W k m σ H ->
   ((Itr i (j - i).toNat).stop k H /\ D.nx σ H) \/ ((Itr i (j - i).toNat).go k H /\ ∃ M : L2.St -> Hp -> Prop,(∀ σ' H',M σ' H' -> ∃ m',m' < m /\ W (k + 1) m' σ' H') /\ ∀ x H',(Itr i (j - i).toNat).yld k H x H' -> g x σ H' fun σ2 H2=>tb { D with nx:=M,ct:=M,bk:=D.nx } σ2 H2)
theorem znW {ta : TA} {g : TG} {tb : TS} {D : zcE} {σ : L2.St} {H : Hp} (h : ta σ H fun vs H1=>zqT g tb D σ vs H1) : zlE (zqZ ta) g tb D σ H:=h
theorem zlv {g : TG} {tb : TS} {D : zcE} {σ : L2.St} {H : Hp} {lo hi : Int} (h0 : -1000000000 <= lo) (h1 : lo < 1000000000) (h2 : -1000000000 <= hi) (h3 : hi < 1000000000) (Pv : Nat -> L2.St -> Hp -> Prop) (p : Pv 0 σ H)
   (hs : ∀ (i : Nat) σ H,i < (hi - lo).toNat -> Pv i σ H -> g (.int (lo + (i : Int))) σ H fun σ2 H2=>tb { D with nx:=Pv (i + 1),ct:=Pv (i + 1),bk:=D.nx } σ2 H2)
   (hd : ∀ σ H,Pv (hi - lo).toNat σ H -> D.nx σ H) : zqT g tb D σ [.int lo,.int hi] H :=
 ⟨lo,hi,rfl,⟨by omega,by omega,by omega,by omega⟩,ziP (lo:=lo) Pv p hs hd⟩
end L2
set_option Elab.async false
set_option linter.all false
set_option maxRecDepth 100000
namespace L2
open PySem PySem.Spec PyProof.Rows GM
section
variable {X : Cx} {tg : Expr}
end
section
variable {K : PySem.W.Frag} {g : TG} {tt : TT} {te ta tb' tc : TE} {tb : TS} {D : zcE} {src : List (Option Nat)} {σ : St} {H : Hp} {Q : VK} {r r' : R2}
theorem zo7 (h : ta σ H fun x H1=>tb' σ H1 fun y H2=>r x y H2 fun z H3=>∃ k,z = .bl k /\ (if k = true then tc σ H3 fun w' H4=>r' y w' H4 Q else Q (.bl false) H3)) : zoW r r' ta tb' tc σ H Q:=h
theorem zr9 {b : Bool} {P : Bool -> Prop} (h : P b) : ∃ k,V.bl b = .bl k /\ P k:=⟨b,rfl,h⟩
end
end L2
set_option Elab.async false
set_option linter.all false
set_option maxRecDepth 100000
namespace L2
open PySem PySem.Spec PyProof.Rows GM
section
variable {K : PySem.W.Frag} {ta : TA} {g : TG} {tb : TS} {tt c : TT} {te : TE} {D : zcE} {σ : St} {H : Hp} {Q : VK} {a : Addr} {xs : List V} {src : List (Option Nat)} {o0 o0' : Option V} {tl : St}
def zmB (Pv : Nat -> St -> Hp -> Prop) (m : Nat) (tb : TS) (D : zcE) (σ' : St) (H1 : Hp) : Prop :=
 ∃ M : St -> Hp -> Prop,(∀ σ2 H2,M σ2 H2 -> ∃ m',m' < m /\ Pv m' σ2 H2) /\ tb { D with nx:=M,ct:=M,bk:=D.nx } σ' H1
theorem znd (Pv : Nat -> St -> Hp -> Prop) (m0 : Nat) (h0 : Pv m0 σ H) (hs : ∀ m σ' H',Pv m σ' H' -> c σ' H' fun b H1=>if b = true then zmB Pv m tb D σ' H1 else D.nx σ' H1) : zlQ c tb D σ H:=⟨Pv,⟨m0,h0⟩,hs⟩
theorem zo8 {Pv : Nat -> St -> Hp -> Prop} {m : Nat} {σ' : St} {H1 : Hp} (h : tb { D with nx:=fun σ2 H2=>∃ m',m' < m /\ Pv m' σ2 H2,ct:=fun σ2 H2=>∃ m',m' < m /\ Pv m' σ2 H2,bk:=D.nx } σ' H1) : zmB Pv m tb D σ' H1:=⟨_,fun _ _ q=>q,h⟩
end
section
variable {K : PySem.W.Frag} {H H' : Hp} {Q : VK} {v : V} {p : Addr} {l : List Nat} {w : Nat}
end
def Sh (n : Nat) (d : PyData) : Prop:=d.canLay0 = true /\ d.depth <= n
theorem Sh.shaped {n : Nat} {d : PyData} (h : Sh n d) (e : n <= 64) : PySem.SeqAt.shaped d = true:=by
 unfold PySem.SeqAt.shaped
 rw [h.1,Bool.true_and]
 exact decide_eq_true (Nat.le_trans h.2 e)
theorem zql {K : PySem.W.Frag} {H : Hp} {Q : VK} {v w : V} {d : PyData} {n : Nat} (h : Is K H v d) (k : Is K H w d) (s : Sh n d) (e : n <= 64) (r : PyData.eqv d d = true) (q : Q (.bl false) H) : zfu K v w H Q:=zjM h k (s.shaped e) (s.shaped e) (by rw [r]; exact q)
end L2
set_option Elab.async false
set_option linter.all false
set_option maxRecDepth 100000
namespace L2
open PySem PySem.Spec PyProof.Rows GM
section
variable {K : PySem.W.Frag} {H H' : Hp} {Q : VK} {D : zcE} {σ : St} {td ty tv : TE} {a : Addr} {kvs : List (Key × V)} {k : Int} {v : V}
end
theorem zgC {α : Type} {f : α -> Int} {xs : List α} {i : Nat} {d : α} (h : i < xs.length) : (xs.map f).getD i 0 = f (xs.getD i d):=by
 rw [List.getD_eq_getElem?_getD,List.getElem?_map,List.getElem?_eq_getElem h,List.getD_eq_getElem?_getD,List.getElem?_eq_getElem h]; rfl
end L2
set_option Elab.async false
set_option linter.all false
set_option maxRecDepth 100000
namespace L2
open PySem PySem.Spec PyProof.Rows GM
section
variable {K : PySem.W.Frag} {ta : TA} {g : TG} {tt : TT} {te : TE} {σ : St} {H : Hp} {Q : VK} {a : Addr} {xs : List V} {src : List (Option Nat)}
end
end L2
set_option Elab.async false
set_option linter.all false
set_option maxRecDepth 100000
namespace L2
open PySem PySem.Spec PyProof.Rows GM
section
variable {K : PySem.W.Frag} {H : Hp} {Q : VK} {v w : V} {ds : List PyData} {n : Nat} {l b : Addr} {xs zs : List V}
theorem zol (a b : Bool) : PyData.eqv (.bool a) (.bool b) = (a == b):=by rw [PyData.eqv]
theorem zlV (b : Bool) : Sh 1 (.bool b):=⟨by simp [PyData.canLay0],by simp [PyData.depth]⟩
theorem zlu {a b : Bool} (q : Q (.bl (!(a == b))) H) : zfu K (.bl a) (.bl b) H Q:=zjM (zdO.mpr rfl) (zdO.mpr rfl) ((zlV a).shaped (by decide)) ((zlV b).shaped (by decide)) (by rw [zol]; exact q)
end
end L2
set_option Elab.async false
set_option linter.all false
set_option maxRecDepth 100000
namespace L2
open PySem PySem.Spec PyProof.Rows GM
def zon (K : PySem.W.Frag) : List V -> Hp -> VK -> Prop:=fun xs H Q=>∃ (p : Addr) (bs : List Bool),xs = [.ref p] /\ SqL K H p (bs.map V.bl) /\ Q (.bl (bs.any id)) H
theorem zq9 : bootBuiltins "any" = some (.builtin "any"):=by decide +kernel
theorem zk4 (bs : List Bool) : ((List.range bs.length).any fun i=>(bs[i]?).getD true) = bs.any id:=by
 rw [Bool.eq_iff_iff,List.any_eq_true,List.any_eq_true]
 constructor
 . rintro ⟨i,hi,h⟩
   rw [List.mem_range] at hi
   rw [List.getElem?_eq_getElem hi] at h
   exact ⟨bs[i],List.getElem_mem hi,h⟩
 . rintro ⟨b,hb,h⟩
   obtain ⟨i,hi,rfl⟩:=List.getElem_of_mem hb
   exact ⟨i,List.mem_range.mpr hi,by rw [List.getElem?_eq_getElem hi]; exact h⟩
open PyProof.V PySem.Calls in
theorem zmM {X : Cx} (hc : X.calm = true) : zaP X (.builtin "any") (zon X.K):=by
 intro pins s σ H xs us Q I r h
 obtain ⟨p,bs,rfl,hq,q⟩:=h
 obtain ⟨u,rfl,rx⟩:=zfr r
 cases rx
 obtain ⟨its,r',pl,hz⟩:=I.list hq
 have hi : its = bs.map Value.bool:=zka r'
 have hl : s.heap.IsList p its.toArray:=pl.isList
 have hlt : p < s.heap.objs.size:=by obtain ⟨_,e,_⟩:=hl; exact Heap.lt_size e
 refine call_any_walk (wpAny_pyIter_list hl ?_)
 refine ⟨s.heap.objs.size,[s.heap.objs.size,p],[s.heap.objs.size],its.toArray.size,_,_,fun i=>(bs[i]?).getD true,rfl,Walks.list (A:=X.A.in1) (I.ok.hd hc) _ p (Nat.ne_of_lt hlt) its.toArray,
   ⟨⟨_,Heap.get?_push_size _ rfl,rfl,rfl⟩,hl.push _⟩,fun i v s' Q' E' hP hQ=>?_,fun h' tk hk=>?_⟩
 . have hP : its.toArray[i]? = some v:=hP
   rw [hi] at hP
   simp only [List.getElem?_toArray,List.getElem?_map,Option.map_eq_some_iff] at hP
   obtain ⟨b,e,rfl⟩:=hP
   simp only [e,Option.getD_some] at hQ
   exact wpAny_truthy_bool hQ
 . have e : ((List.range its.toArray.size).any fun i=>(bs[i]?).getD true) = bs.any id:=by
     rw [List.size_toArray,hi,List.length_map]; exact zk4 bs
   rw [e]
   exact ⟨.bl (bs.any id),H,I.kept (t':=tk) (fun b x e=>hk b x (fun hm=>by rw [List.mem_singleton.mp hm] at e; exact Nat.lt_irrefl _ (Heap.lt_size e)) (Heap.get?_push_of_some _ e)),rfl,q⟩
theorem zqw {K : PySem.W.Frag} {H : Hp} {Q : VK} {p : Addr} {bs : List Bool} (h : SqL K H p (bs.map V.bl)) (q : Q (.bl (bs.any id)) H) : zon K [.ref p] H Q:=⟨p,bs,rfl,h,q⟩
section
open PyProof.V PySem.Calls PySem.W
variable {prog : Program} {w : World} {A : Around} {E : Value -> Shared -> Prop} {s : Shared}
end
abbrev zM1 (h : Heap) (a : Addr) : Heap:=h.push { cls:=.type "tuple_iterator",data:=.fields #[.ref a,.int 0 0] }
abbrev zM2 (h : Heap) (a b : Addr) : Heap:=(zM1 h a).push { cls:=.type "list_iterator",data:=.fields #[.ref b,.int 0 0] }
abbrev zM3 (h : Heap) (a b : Addr) : Heap:=(zM2 h a b).push { cls:=.type "tuple",data:=.seq #[.ref h.objs.size,.ref (zM1 h a).objs.size] }
abbrev zM4 (h : Heap) (a b : Addr) : Heap:=(zM3 h a b).push { cls:=.type "tuple",data:=.seq #[.none,.none] }
abbrev zM5 (h : Heap) (a b : Addr) : Heap:=(zM4 h a b).push { cls:=.type "zip",data:=.fields #[.none,.bool false,.bool false,.ref (zM2 h a b).objs.size,.ref (zM3 h a b).objs.size] }
section
variable {prog : Program} {w : World} {A : Around} {E : Value -> Shared -> Prop} {s : Shared}
end
theorem ziV {K : PySem.W.Frag} {H : Hp} {Q : VK} {v : V} {ds : List PyData} (h : Is K H v (.list ds) \/ Is K H v (.tuple ds)) (q : ∀ l H' ys,H l = none -> zai H H' -> H' l = some (.lst ys) -> IsAll K H' ys ds -> Q (.ref l) H') : zdI K [v] H Q:=by
 rcases h with h | h
 . exact znj h q
 . exact zgs h q
section
variable {X : Cx} {x : Str} {G : Value} {b₀ : Stmt} {body suite : List Stmt} {np hpos pos : Pos} {tb : (St -> XK) -> TS} {th : TS}
end
theorem zca {K : PySem.W.Frag} {H : Hp} {Q : VK} (s t : String) (r : Bool) (e : PyData.eqv (.str (Str.ofString s)) (.str (Str.ofString t)) = r) (q : Q (.bl r) H) : zcL K (.str (Str.ofString s)) (.str (Str.ofString t)) H Q :=
 zfG (d:=.str (Str.ofString s)) (e:=.str (Str.ofString t)) (zb1.mpr rfl) (zb1.mpr rfl) (zeh s) (zeh t) (by rw [e]; exact q)
end L2
set_option Elab.async false
set_option linter.all false
set_option maxRecDepth 100000
namespace L2
open PySem PySem.Spec PyProof.Rows GM
section
variable {K : PySem.W.Frag} {H : Hp} {Q : VK} {p : Addr} {ns : List Int}
end
end L2
namespace L2
open PySem PySem.Spec PyProof.Rows GM
end L2
namespace L2
open PySem PySem.Spec PyProof.Rows GM
end L2
set_option Elab.async false
set_option linter.all false
set_option maxRecDepth 100000
namespace L2
open PySem PySem.Spec PyProof.Rows GM
abbrev zN1 (h : Heap) (a : Addr) : Heap:=h.push { cls:=.type "list_iterator",data:=.fields #[.ref a,.int 0 0] }
abbrev zN2 (h : Heap) (a b : Addr) : Heap:=(zN1 h a).push { cls:=.type "tuple_iterator",data:=.fields #[.ref b,.int 0 0] }
abbrev zN3 (h : Heap) (a b : Addr) : Heap:=(zN2 h a b).push { cls:=.type "tuple",data:=.seq #[.ref h.objs.size,.ref (zN1 h a).objs.size] }
abbrev zN4 (h : Heap) (a b : Addr) : Heap:=(zN3 h a b).push { cls:=.type "tuple",data:=.seq #[.none,.none] }
abbrev zN5 (h : Heap) (a b : Addr) : Heap:=(zN4 h a b).push { cls:=.type "zip",data:=.fields #[.none,.bool false,.bool false,.ref (zN2 h a b).objs.size,.ref (zN3 h a b).objs.size] }
theorem zk2 (a b : Addr) (xs ys : Array Value) : Meets (Builtin.«zip.__new__» ⟨[.type "zip",.ref a,.ref b],[]⟩) (fun _ R s=>s.heap.IsList a xs /\ s.heap.IsTuple b ys /\ R (.ok (.ret (.ref (zN4 s.heap a b).objs.size))) { s with heap:=zN5 s.heap a b }) :=
 .of_wp fun prog w A R s h=>by
   obtain ⟨hp,g,d,tk,os⟩:=s
   obtain ⟨ha,hb,h⟩:=h
   have hsub:=sub_zip
   have hA : Heap.IsList (Shared.heap ⟨hp,g,d,tk,os⟩) a xs:=ha
   have hB : Heap.IsTuple (Shared.heap ⟨hp.push { cls:=.type "list_iterator",data:=.fields #[.ref a,.int 0 0] },g,d,tk,os⟩) b ys:=Heap.IsTuple.push hb _
   wp_walk using wpAny_pyIter_list hA,wpAny_pyIter_tuple hB
   exact ⟨_,rfl,h⟩
section
variable {prog : Program} {w : World} {A : Around} {E : Value -> Shared -> Prop} {s : Shared}
theorem zmO {a b : Addr} {xs ys : Array Value} {Q : Value -> Shared -> Prop} (ha : s.heap.IsList a xs) (hb : s.heap.IsTuple b ys)
   (fin : ∀ h',IsZip h' (s.heap.objs.size + 4) (s.heap.objs.size + 2) (s.heap.objs.size + 3) .none -> IsPair h' (s.heap.objs.size + 2) (.ref s.heap.objs.size) (.ref (s.heap.objs.size + 1)) -> IsPair h' (s.heap.objs.size + 3) .none .none ->
     h'.IsListIter s.heap.objs.size a 0 -> h'.IsTupleIter (s.heap.objs.size + 1) b 0 -> (∀ c o,s.heap.get? c = some o -> h'.get? c = some o) -> Q (.ref (s.heap.objs.size + 4)) { s with heap:=h' }) : wpAny (model prog w) A (call (.type "zip") [.ref a,.ref b]) Q E s:=by
 refine callType_new F.called_zip (by decide) (F.typeCall_zip_2 _ _) (F.newCall_zip_2 _ _) (fun obj=>F.args_object_init_3 obj _ _) F.entry_zip_new (zk2 a b xs ys) ⟨ha,hb,?_⟩
 have z1 : (zN1 s.heap a).objs.size = s.heap.objs.size + 1:=Heap.size_push ..
 have z2 : (zN2 s.heap a b).objs.size = s.heap.objs.size + 2:=by rw [Heap.size_push,z1]
 have z3 : (zN3 s.heap a b).objs.size = s.heap.objs.size + 3:=by rw [Heap.size_push,z2]
 have z4 : (zN4 s.heap a b).objs.size = s.heap.objs.size + 4:=by rw [Heap.size_push,z3]
 have g5 : (zN5 s.heap a b).get? (zN4 s.heap a b).objs.size = some _:=Heap.get?_push_size _ rfl
 have g4 : (zN5 s.heap a b).get? (zN3 s.heap a b).objs.size = some _:=Heap.get?_push_of_some _ (Heap.get?_push_size _ rfl)
 have g3 : (zN5 s.heap a b).get? (zN2 s.heap a b).objs.size = some _:=Heap.get?_push_of_some _ (Heap.get?_push_of_some _ (Heap.get?_push_size _ rfl))
 have g2 : (zN5 s.heap a b).get? (zN1 s.heap a).objs.size = some _:=Heap.get?_push_of_some _ (Heap.get?_push_of_some _ (Heap.get?_push_of_some _ (Heap.get?_push_size _ rfl)))
 have g1 : (zN5 s.heap a b).get? s.heap.objs.size = some _:=Heap.get?_push_of_some _ (Heap.get?_push_of_some _ (Heap.get?_push_of_some _ (Heap.get?_push_of_some _ (Heap.get?_push_size _ rfl))))
 show _ /\ _
 rw [z2,z3,z4] at g5; rw [z1,z2] at g3; rw [z3] at g4; rw [z1] at g2; rw [z4]
 exact ⟨⟨_,g5,rfl⟩,fin _ g5 g3 g4 ⟨_,g1,rfl,rfl⟩ ⟨_,g2,rfl,rfl⟩ fun c o x=>Heap.get?_push_of_some _ (Heap.get?_push_of_some _ (Heap.get?_push_of_some _ (Heap.get?_push_of_some _ (Heap.get?_push_of_some _ x))))⟩
end
theorem zph {X : Cx} {elts : List Expr} {k1} {tpos p pos : Pos} {l m : Expr} {ta : TA} (hg : Gl X "zip") (hm : X.mg "zip" = none) (ha : PA X [l,m] ta) (hs : starEach [l,m] X.env = [(false,eval l X.env),(false,eval m X.env)]:=by rfl) (hs2 : starEach [m] X.env = [(false,eval m X.env)]:=by rfl) :
   PI X (.Tuple elts k1 tpos) (.Call (.Name "zip" p) [l,m] [] pos) (zoP false true X.K ta):=by
 intro pins s σ H R I h
 refine Call_ (zex I hg hm zls (PyProof.Rows.callWith_type1 (thn (ha pos pins s σ H _ I h) fun us s1 ⟨vs,H1,I1,r1,q1⟩=>?_) (by rw [hs,hs2]) (by rw [hs2]; rfl)))
 obtain ⟨a,b,rfl,⟨xs,hq1⟩,⟨ys,hq2⟩,q⟩:=q1
 obtain ⟨u,v,rfl,ru,rv⟩:=ziR r1
 cases ru
 cases rv
 obtain ⟨its,_,p1⟩:=I1.seqK hq1
 obtain ⟨jts,_,p2⟩:=I1.seqK hq2
 have la : a < s1.heap.objs.size:=by obtain ⟨o,e,_⟩:=(show s1.heap.IsList a its.toArray from p1); exact Heap.lt_size e
 have lb : b < s1.heap.objs.size:=by obtain ⟨o,e,_⟩:=(show s1.heap.IsTuple b jts.toArray from p2); exact Heap.lt_size e
 exact zmO p1 p2 fun h' hz hi ho t1 t2 kp=>zk7 (t:=false) (u:=true) I1 la lb hz hi ho t1 t2 kp q
end L2
namespace G
open PySem PySem.Spec PyProof.Rows L2 GM
def top (i : Nat) : Stmt:=PySem.Challenge.pw_glowflock_k65_whole_within_told_rounds.main.body.getD i (.Pass ⟨0,0,0,0⟩)
abbrev zbb : Stmt:=top 14
theorem zbJ : zaq ["one","other","rest"] ["one","other"] (zae zbb):=⟨rfl,rfl,rfl,by decide +kernel,rfl,by decide +kernel,by decide +kernel⟩
abbrev zgl : Stmt:=top 15
theorem zhg : zaq ["one","other","shared","top","divisor"] ["one","other"] (zae zgl):=⟨rfl,rfl,rfl,by decide +kernel,rfl,by decide +kernel,by decide +kernel⟩
abbrev ze3 : Stmt:=top 16
theorem zoB : zaq ["one","other"] ["one","other"] (zae ze3):=⟨rfl,rfl,rfl,by decide +kernel,rfl,by decide +kernel,by decide +kernel⟩
abbrev ze6 : Stmt:=top 17
theorem zhM : zaq ["one","other","first","second"] ["one","other"] (zae ze6):=⟨rfl,rfl,rfl,by decide +kernel,rfl,by decide +kernel,by decide +kernel⟩
abbrev zgv : Stmt:=top 18
theorem zmh : zaq ["one","other","turned"] ["one","other"] (zae zgv):=⟨rfl,rfl,rfl,by decide +kernel,rfl,by decide +kernel,by decide +kernel⟩
abbrev zgE : Stmt:=top 19
theorem zpm : zaq ["one","other"] ["one","other"] (zae zgE):=⟨rfl,rfl,rfl,by decide +kernel,rfl,by decide +kernel,by decide +kernel⟩
abbrev zgy : Stmt:=top 21
theorem zp1 : zaq ["rule"] ["rule"] (zae zgy):=⟨rfl,rfl,rfl,by decide +kernel,rfl,by decide +kernel,by decide +kernel⟩
abbrev zd1 : Stmt:=top 22
theorem zdr : zaq ["rule","many","factor","shift","done"] ["rule","many"] (zae zd1):=⟨rfl,rfl,rfl,by decide +kernel,rfl,by decide +kernel,by decide +kernel⟩
abbrev zcs : Stmt:=top 23
theorem zi4 : zaq ["push","x"] ["push","x"] (zae zcs):=⟨rfl,rfl,rfl,by decide +kernel,rfl,by decide +kernel,by decide +kernel⟩
abbrev zbj : Stmt:=top 25
theorem zcf : zaq ["rule","size","phases","turn","wait","push","told"] ["rule","size","phases","turn"] (zae zbj):=⟨rfl,rfl,rfl,by decide +kernel,rfl,by decide +kernel,by decide +kernel⟩
abbrev zd3 : Stmt:=top 26
theorem zeY : zaq ["rule","sizes","places","told","turn","size"] ["rule","sizes","places"] (zae zd3):=⟨rfl,rfl,rfl,by decide +kernel,rfl,by decide +kernel,by decide +kernel⟩
abbrev zbO : Stmt:=top 27
theorem zgZ : zaq ["rule","sizes","places"] ["rule","sizes","places"] (zae zbO):=⟨rfl,rfl,rfl,by decide +kernel,rfl,by decide +kernel,by decide +kernel⟩
abbrev zfH : Stmt:=top 28
theorem zjy : zaq ["rule","sizes","places","rows","count"] ["rule","sizes","places"] (zae zfH):=⟨rfl,rfl,rfl,by decide +kernel,rfl,by decide +kernel,by decide +kernel⟩
abbrev zcu : Stmt:=top 29
theorem zhn : zaq ["rule","sizes","places","steps"] ["rule","sizes","places"] (zae zcu):=⟨rfl,rfl,rfl,by decide +kernel,rfl,by decide +kernel,by decide +kernel⟩
abbrev zb8 : Stmt:=top 30
theorem zef : zaq ["rule","sizes","factor","noughts"] ["rule","sizes"] (zae zb8):=⟨rfl,rfl,rfl,by decide +kernel,rfl,by decide +kernel,by decide +kernel⟩
abbrev zes : Stmt:=top 33
theorem zhW : zaq ["rule","sizes","both","gap"] ["rule","sizes"] (zae zes):=⟨rfl,rfl,rfl,by decide +kernel,rfl,by decide +kernel,by decide +kernel⟩
abbrev zcP : Stmt:=top 34
theorem zk6 : zaq ["both","places","of_place","of_shift"] ["both","places","of_place","of_shift"] (zae zcP):=⟨rfl,rfl,rfl,by decide +kernel,rfl,by decide +kernel,by decide +kernel⟩
abbrev zd5 : Stmt:=top 35
theorem ziK : zaq ["both","places","many","push"] ["both","places","many"] (zae zd5):=⟨rfl,rfl,rfl,by decide +kernel,rfl,by decide +kernel,by decide +kernel⟩
abbrev zbw : Stmt:=top 36
theorem zgS : zaq ["rule","sizes"] ["rule","sizes"] (zae zbw):=⟨rfl,rfl,rfl,by decide +kernel,rfl,by decide +kernel,by decide +kernel⟩
abbrev zbT : Stmt:=top 37
theorem zfi : zaq ["rule","sizes","places","way"] ["rule","sizes","places"] (zae zbT):=⟨rfl,rfl,rfl,by decide +kernel,rfl,by decide +kernel,by decide +kernel⟩
abbrev zbZ : Stmt:=top 38
theorem zcb : zaq ["rule","sizes","places","both","ahead","count"] ["rule","sizes","places"] (zae zbZ):=⟨rfl,rfl,rfl,by decide +kernel,rfl,by decide +kernel,by decide +kernel⟩
abbrev zcT : Stmt:=top 40
theorem zkT : zaq ["push","x"] ["push","x"] (zae zcT):=⟨rfl,rfl,rfl,by decide +kernel,rfl,by decide +kernel,by decide +kernel⟩
abbrev zce : Stmt:=top 41
theorem zim : zaq ["one","other"] ["one","other"] (zae zce):=⟨rfl,rfl,rfl,by decide +kernel,rfl,by decide +kernel,by decide +kernel⟩
abbrev zct : Stmt:=top 42
theorem zjP : zaq ["one","other"] ["one","other"] (zae zct):=⟨rfl,rfl,rfl,by decide +kernel,rfl,by decide +kernel,by decide +kernel⟩
abbrev zcy : Stmt:=top 43
theorem zf5 : zaq ["rule","sizes","whole","low"] ["rule","sizes","whole"] (zae zcy):=⟨rfl,rfl,rfl,by decide +kernel,rfl,by decide +kernel,by decide +kernel⟩
abbrev zdp : Stmt:=top 44
theorem zcr : zaq ["rule","sizes","many","both","whole","ends","last","low","high"] ["rule","sizes","many"] (zae zdp):=⟨rfl,rfl,rfl,by decide +kernel,rfl,by decide +kernel,by decide +kernel⟩
abbrev zdt : Stmt:=top 46
theorem zed : zaq ["_law_script","_law_k","_law_cell"] ["_law_script","_law_k"] (zae zdt):=⟨rfl,rfl,rfl,by decide +kernel,rfl,by decide +kernel,by decide +kernel⟩
abbrev zc1 : Stmt:=top 47
theorem zdB : zaq ["_law_pen_here","_law_many","_law_drawn","_law_mixed"] ["_law_pen_here","_law_many"] (zae zc1):=⟨rfl,rfl,rfl,by decide +kernel,rfl,by decide +kernel,by decide +kernel⟩
abbrev zds : Stmt:=top 48
theorem zdx : zaq ["_law_top","_law_bottom","_law_one","_law_other"] ["_law_top","_law_bottom"] (zae zds):=⟨rfl,rfl,rfl,by decide +kernel,rfl,by decide +kernel,by decide +kernel⟩
abbrev zcV : Stmt:=top 49
theorem zkP : zaq ["_law_one","_law_other"] ["_law_one","_law_other"] (zae zcV):=⟨rfl,rfl,rfl,by decide +kernel,rfl,by decide +kernel,by decide +kernel⟩
abbrev zcQ : Stmt:=top 50
theorem zkm : zaq ["_law_one","_law_other"] ["_law_one","_law_other"] (zae zcQ):=⟨rfl,rfl,rfl,by decide +kernel,rfl,by decide +kernel,by decide +kernel⟩
abbrev zcq : Stmt:=top 51
theorem zb9 : zaq ["_law_caught","_law_some","_law_found"] ["_law_caught"] (zae zcq):=⟨rfl,rfl,rfl,by decide +kernel,rfl,by decide +kernel,by decide +kernel⟩
abbrev zcO : Stmt:=top 52
theorem zcD : zaq ["_law_pen_here","_law_bottom","_law_a","_law_under","_law_b"] ["_law_pen_here"] (zae zcO):=⟨rfl,rfl,rfl,by decide +kernel,rfl,by decide +kernel,by decide +kernel⟩
abbrev zbL : Stmt:=top 53
theorem zc9 : zaq ["_law_pen_here","_law_way","_law_a"] ["_law_pen_here"] (zae zbL):=⟨rfl,rfl,rfl,by decide +kernel,rfl,by decide +kernel,by decide +kernel⟩
abbrev zcz : Stmt:=top 54
theorem zcg : zaq ["_law_pen_here","_law_found","_law_room","_law_k","_law_size"] ["_law_pen_here"] (zae zcz):=⟨rfl,rfl,rfl,by decide +kernel,rfl,by decide +kernel,by decide +kernel⟩
abbrev zbS : Stmt:=top 55
theorem zb0 : zaq ["_law_pen_here","_law_many","_law_bottom","_law_found","_law_top","_law_k"] ["_law_pen_here","_law_many"] (zae zbS):=⟨rfl,rfl,rfl,by decide +kernel,rfl,by decide +kernel,by decide +kernel⟩
abbrev zbq : Stmt:=top 56
theorem zaI : zaq ["_law_rule_here","_law_sizes_here","_law_places_here","_law_a","_law_under_a","_law_b","_law_under_b","_law_bottom","_law_one","_law_now","_law_waits","_law_rows","_law_size","_law_rise","_law_turn"] ["_law_rule_here","_law_sizes_here","_law_places_here"] (zae zbq):=⟨rfl,rfl,rfl,by decide +kernel,rfl,by decide +kernel,by decide +kernel⟩
abbrev zdq : Stmt:=top 57
theorem zel : zaq ["_law_factor","_law_shifts","_law_places_here","_law_found","_law_place","_law_shift"] ["_law_factor","_law_shifts","_law_places_here"] (zae zdq):=⟨rfl,rfl,rfl,by decide +kernel,rfl,by decide +kernel,by decide +kernel⟩
abbrev zch : Stmt:=top 58
theorem zfn : zaq ["_law_some","_law_x"] ["_law_some"] (zae zch):=⟨rfl,rfl,rfl,by decide +kernel,rfl,by decide +kernel,by decide +kernel⟩
abbrev zcw : Stmt:=top 59
theorem zcF : zaq ["_law_factor","_law_shifts","_law_places_here","_law_many","_law_some"] ["_law_factor","_law_shifts","_law_places_here"] (zae zcw):=⟨rfl,rfl,rfl,by decide +kernel,rfl,by decide +kernel,by decide +kernel⟩
abbrev zcR : Stmt:=top 60
theorem zc4 : zaq ["_law_rule_here","_law_sizes_here","_law_places_here","_law_found","e"] ["_law_rule_here","_law_sizes_here","_law_places_here"] (zae zcR):=⟨rfl,rfl,rfl,by decide +kernel,rfl,by decide +kernel,by decide +kernel⟩
abbrev zcC : Stmt:=top 61
theorem zbU : zaq ["_law_rule_here","_law_sizes_here","_law_places_here","_law_found","_law_factor","_law_shifts","_law_first","_law_back","_law_most"] ["_law_rule_here","_law_sizes_here","_law_places_here"] (zae zcC):=⟨rfl,rfl,rfl,by decide +kernel,rfl,by decide +kernel,by decide +kernel⟩
abbrev za9 : Stmt:=top 62
theorem zbn : zaq ["_law_pen_here","_law_rule_here","_law_sizes_here","_law_way","_law_goal","_law_some","_law_at"] ["_law_pen_here","_law_rule_here","_law_sizes_here"] (zae za9):=⟨rfl,rfl,rfl,by decide +kernel,rfl,by decide +kernel,by decide +kernel⟩
abbrev zbr : Stmt:=top 63
theorem zaX : zaq ["_law_rule_here","_law_sizes_here","_law_goal","_law_found","_law_factor","_law_end","_law_way","_law_part","_law_half"] ["_law_rule_here","_law_sizes_here"] (zae zbr):=⟨rfl,rfl,rfl,by decide +kernel,rfl,by decide +kernel,by decide +kernel⟩
abbrev ziU : Stmt:=top 64
theorem zer : zaq ["_law_script","_law_k","_law_pen_here","_law_rule_here","_law_sizes_here","_law_goal"] ["_law_script"] (zae ziU):=⟨rfl,rfl,rfl,by decide +kernel,rfl,by decide +kernel,by decide +kernel⟩
set_option genInjectivity false in
structure Ad where
 greatest_divisor : Addr
 fd_greatest_divisor : FuncData
 plus : Addr
 fd_plus : FuncData
 minus : Addr
 fd_minus : FuncData
 times : Addr
 fd_times : FuncData
 over : Addr
 fd_over : FuncData
 less : Addr
 fd_less : FuncData
 bend : Addr
 fd_bend : FuncData
 pushes : Addr
 fd_pushes : FuncData
 pushed_by : Addr
 fd_pushed_by : FuncData
 phases_behind : Addr
 fd_phases_behind : FuncData
 stands : Addr
 fd_stands : FuncData
 round_behind : Addr
 fd_round_behind : FuncData
 tops : Addr
 fd_tops : FuncData
 is_free : Addr
 fd_is_free : FuncData
 round_map : Addr
 fd_round_map : FuncData
 still : Addr
 fd_still : FuncData
 weighed : Addr
 fd_weighed : FuncData
 led_on : Addr
 fd_led_on : FuncData
 draws_freely : Addr
 fd_draws_freely : FuncData
 stays_free : Addr
 fd_stays_free : FuncData
 free_rounds : Addr
 fd_free_rounds : FuncData
 ahead_of : Addr
 fd_ahead_of : FuncData
 greater_of : Addr
 fd_greater_of : FuncData
 lesser_of : Addr
 fd_lesser_of : FuncData
 free_ends : Addr
 fd_free_ends : FuncData
 stretch : Addr
 fd_stretch : FuncData
 law_pen : Addr
 fd_law_pen : FuncData
 law_draw : Addr
 fd_law_draw : FuncData
 law_low : Addr
 fd_law_low : FuncData
 law_less : Addr
 fd_law_less : FuncData
 law_plus : Addr
 fd_law_plus : FuncData
 law_kind : Addr
 fd_law_kind : FuncData
 law_rule : Addr
 fd_law_rule : FuncData
 law_any_rule : Addr
 fd_law_any_rule : FuncData
 law_sizes : Addr
 fd_law_sizes : FuncData
 law_places : Addr
 fd_law_places : FuncData
 law_round : Addr
 fd_law_round : FuncData
 law_led : Addr
 fd_law_led : FuncData
 law_within : Addr
 fd_law_within : FuncData
 law_count : Addr
 fd_law_count : FuncData
 law_told : Addr
 fd_law_told : FuncData
 law_right : Addr
 fd_law_right : FuncData
 law_drawn_places : Addr
 fd_law_drawn_places : FuncData
 law_edge_right : Addr
 fd_law_edge_right : FuncData
 law : Addr
 fd_law : FuncData
 C_TooLong : Addr
 C_NoBack : Addr
 C_NoRow : Addr
 C_NoText : Addr
 C_NoWeb : Addr
 C_NoStand : Addr
 C_NoSwarm : Addr
 C_NoRule : Addr
 C_NoNumber : Addr
 C_GlowError : Addr
 k_NOUGHT : Addr
 k_ONE : Addr
structure Txt (K : PySem.W.Frag) (mg : Str -> Option Value) (a : Ad) : Prop where
 F_greatest_divisor : Fun K "greatest_divisor" "greatest_divisor" zbb a.greatest_divisor a.fd_greatest_divisor
 g_greatest_divisor : mg "greatest_divisor" = some (.ref a.greatest_divisor)
 b_greatest_divisor : zaN K a.fd_greatest_divisor ["one","other"] []
 F_plus : Fun K "plus" "plus" zgl a.plus a.fd_plus
 g_plus : mg "plus" = some (.ref a.plus)
 b_plus : zaN K a.fd_plus ["one","other"] []
 F_minus : Fun K "minus" "minus" ze3 a.minus a.fd_minus
 g_minus : mg "minus" = some (.ref a.minus)
 b_minus : zaN K a.fd_minus ["one","other"] []
 F_times : Fun K "times" "times" ze6 a.times a.fd_times
 g_times : mg "times" = some (.ref a.times)
 b_times : zaN K a.fd_times ["one","other"] []
 F_over : Fun K "over" "over" zgv a.over a.fd_over
 g_over : mg "over" = some (.ref a.over)
 b_over : zaN K a.fd_over ["one","other"] []
 F_less : Fun K "less" "less" zgE a.less a.fd_less
 g_less : mg "less" = some (.ref a.less)
 b_less : zaN K a.fd_less ["one","other"] []
 F_bend : Fun K "bend" "bend" zgy a.bend a.fd_bend
 g_bend : mg "bend" = some (.ref a.bend)
 b_bend : zaN K a.fd_bend ["rule"] []
 F_pushes : Fun K "pushes" "pushes" zd1 a.pushes a.fd_pushes
 g_pushes : mg "pushes" = some (.ref a.pushes)
 b_pushes : zaN K a.fd_pushes ["rule","many"] []
 F_pushed_by : Fun K "pushed_by" "pushed_by" zcs a.pushed_by a.fd_pushed_by
 g_pushed_by : mg "pushed_by" = some (.ref a.pushed_by)
 b_pushed_by : zaN K a.fd_pushed_by ["push","x"] []
 F_phases_behind : Fun K "phases_behind" "phases_behind" zbj a.phases_behind a.fd_phases_behind
 g_phases_behind : mg "phases_behind" = some (.ref a.phases_behind)
 b_phases_behind : zaN K a.fd_phases_behind ["rule","size","phases","turn"] []
 F_stands : Fun K "stands" "stands" zd3 a.stands a.fd_stands
 g_stands : mg "stands" = some (.ref a.stands)
 b_stands : zaN K a.fd_stands ["rule","sizes","places"] []
 F_round_behind : Fun K "round_behind" "round_behind" zbO a.round_behind a.fd_round_behind
 g_round_behind : mg "round_behind" = some (.ref a.round_behind)
 b_round_behind : zaN K a.fd_round_behind ["rule","sizes","places"] []
 F_tops : Fun K "tops" "tops" zfH a.tops a.fd_tops
 g_tops : mg "tops" = some (.ref a.tops)
 b_tops : zaN K a.fd_tops ["rule","sizes","places"] []
 F_is_free : Fun K "is_free" "is_free" zcu a.is_free a.fd_is_free
 g_is_free : mg "is_free" = some (.ref a.is_free)
 b_is_free : zaN K a.fd_is_free ["rule","sizes","places"] []
 F_round_map : Fun K "round_map" "round_map" zb8 a.round_map a.fd_round_map
 g_round_map : mg "round_map" = some (.ref a.round_map)
 b_round_map : zaN K a.fd_round_map ["rule","sizes"] []
 F_still : Fun K "still" "still" zes a.still a.fd_still
 g_still : mg "still" = some (.ref a.still)
 b_still : zaN K a.fd_still ["rule","sizes"] []
 F_weighed : Fun K "weighed" "weighed" zcP a.weighed a.fd_weighed
 g_weighed : mg "weighed" = some (.ref a.weighed)
 b_weighed : zaN K a.fd_weighed ["both","places","of_place","of_shift"] []
 F_led_on : Fun K "led_on" "led_on" zd5 a.led_on a.fd_led_on
 g_led_on : mg "led_on" = some (.ref a.led_on)
 b_led_on : zaN K a.fd_led_on ["both","places","many"] []
 F_draws_freely : Fun K "draws_freely" "draws_freely" zbw a.draws_freely a.fd_draws_freely
 g_draws_freely : mg "draws_freely" = some (.ref a.draws_freely)
 b_draws_freely : zaN K a.fd_draws_freely ["rule","sizes"] []
 F_stays_free : Fun K "stays_free" "stays_free" zbT a.stays_free a.fd_stays_free
 g_stays_free : mg "stays_free" = some (.ref a.stays_free)
 b_stays_free : zaN K a.fd_stays_free ["rule","sizes","places"] []
 F_free_rounds : Fun K "free_rounds" "free_rounds" zbZ a.free_rounds a.fd_free_rounds
 g_free_rounds : mg "free_rounds" = some (.ref a.free_rounds)
 b_free_rounds : zaN K a.fd_free_rounds ["rule","sizes","places"] []
 F_ahead_of : Fun K "ahead_of" "ahead_of" zcT a.ahead_of a.fd_ahead_of
 g_ahead_of : mg "ahead_of" = some (.ref a.ahead_of)
 b_ahead_of : zaN K a.fd_ahead_of ["push","x"] []
 F_greater_of : Fun K "greater_of" "greater_of" zce a.greater_of a.fd_greater_of
 g_greater_of : mg "greater_of" = some (.ref a.greater_of)
 b_greater_of : zaN K a.fd_greater_of ["one","other"] []
 F_lesser_of : Fun K "lesser_of" "lesser_of" zct a.lesser_of a.fd_lesser_of
 g_lesser_of : mg "lesser_of" = some (.ref a.lesser_of)
 b_lesser_of : zaN K a.fd_lesser_of ["one","other"] []
 F_free_ends : Fun K "free_ends" "free_ends" zcy a.free_ends a.fd_free_ends
 g_free_ends : mg "free_ends" = some (.ref a.free_ends)
 b_free_ends : zaN K a.fd_free_ends ["rule","sizes","whole"] []
 F_stretch : Fun K "stretch" "stretch" zdp a.stretch a.fd_stretch
 g_stretch : mg "stretch" = some (.ref a.stretch)
 b_stretch : zaN K a.fd_stretch ["rule","sizes","many"] []
 F_law_pen : Fun K "_law_pen" "_law_pen" zdt a.law_pen a.fd_law_pen
 g_law_pen : mg "_law_pen" = some (.ref a.law_pen)
 b_law_pen : zaN K a.fd_law_pen ["_law_script","_law_k"] []
 F_law_draw : Fun K "_law_draw" "_law_draw" zc1 a.law_draw a.fd_law_draw
 g_law_draw : mg "_law_draw" = some (.ref a.law_draw)
 b_law_draw : zaN K a.fd_law_draw ["_law_pen_here","_law_many"] []
 F_law_low : Fun K "_law_low" "_law_low" zds a.law_low a.fd_law_low
 g_law_low : mg "_law_low" = some (.ref a.law_low)
 b_law_low : zaN K a.fd_law_low ["_law_top","_law_bottom"] []
 F_law_less : Fun K "_law_less" "_law_less" zcV a.law_less a.fd_law_less
 g_law_less : mg "_law_less" = some (.ref a.law_less)
 b_law_less : zaN K a.fd_law_less ["_law_one","_law_other"] []
 F_law_plus : Fun K "_law_plus" "_law_plus" zcQ a.law_plus a.fd_law_plus
 g_law_plus : mg "_law_plus" = some (.ref a.law_plus)
 b_law_plus : zaN K a.fd_law_plus ["_law_one","_law_other"] []
 F_law_kind : Fun K "_law_kind" "_law_kind" zcq a.law_kind a.fd_law_kind
 g_law_kind : mg "_law_kind" = some (.ref a.law_kind)
 b_law_kind : zaN K a.fd_law_kind ["_law_caught"] []
 F_law_rule : Fun K "_law_rule" "_law_rule" zcO a.law_rule a.fd_law_rule
 g_law_rule : mg "_law_rule" = some (.ref a.law_rule)
 b_law_rule : zaN K a.fd_law_rule ["_law_pen_here"] []
 F_law_any_rule : Fun K "_law_any_rule" "_law_any_rule" zbL a.law_any_rule a.fd_law_any_rule
 g_law_any_rule : mg "_law_any_rule" = some (.ref a.law_any_rule)
 b_law_any_rule : zaN K a.fd_law_any_rule ["_law_pen_here"] []
 F_law_sizes : Fun K "_law_sizes" "_law_sizes" zcz a.law_sizes a.fd_law_sizes
 g_law_sizes : mg "_law_sizes" = some (.ref a.law_sizes)
 b_law_sizes : zaN K a.fd_law_sizes ["_law_pen_here"] []
 F_law_places : Fun K "_law_places" "_law_places" zbS a.law_places a.fd_law_places
 g_law_places : mg "_law_places" = some (.ref a.law_places)
 b_law_places : zaN K a.fd_law_places ["_law_pen_here","_law_many"] []
 F_law_round : Fun K "_law_round" "_law_round" zbq a.law_round a.fd_law_round
 g_law_round : mg "_law_round" = some (.ref a.law_round)
 b_law_round : zaN K a.fd_law_round ["_law_rule_here","_law_sizes_here","_law_places_here"] []
 F_law_led : Fun K "_law_led" "_law_led" zdq a.law_led a.fd_law_led
 g_law_led : mg "_law_led" = some (.ref a.law_led)
 b_law_led : zaN K a.fd_law_led ["_law_factor","_law_shifts","_law_places_here"] []
 F_law_within : Fun K "_law_within" "_law_within" zch a.law_within a.fd_law_within
 g_law_within : mg "_law_within" = some (.ref a.law_within)
 b_law_within : zaN K a.fd_law_within ["_law_some"] []
 F_law_count : Fun K "_law_count" "_law_count" zcw a.law_count a.fd_law_count
 g_law_count : mg "_law_count" = some (.ref a.law_count)
 b_law_count : zaN K a.fd_law_count ["_law_factor","_law_shifts","_law_places_here"] []
 F_law_told : Fun K "_law_told" "_law_told" zcR a.law_told a.fd_law_told
 g_law_told : mg "_law_told" = some (.ref a.law_told)
 b_law_told : zaN K a.fd_law_told ["_law_rule_here","_law_sizes_here","_law_places_here"] []
 F_law_right : Fun K "_law_right" "_law_right" zcC a.law_right a.fd_law_right
 g_law_right : mg "_law_right" = some (.ref a.law_right)
 b_law_right : zaN K a.fd_law_right ["_law_rule_here","_law_sizes_here","_law_places_here"] []
 F_law_drawn_places : Fun K "_law_drawn_places" "_law_drawn_places" za9 a.law_drawn_places a.fd_law_drawn_places
 g_law_drawn_places : mg "_law_drawn_places" = some (.ref a.law_drawn_places)
 b_law_drawn_places : zaN K a.fd_law_drawn_places ["_law_pen_here","_law_rule_here","_law_sizes_here"] []
 F_law_edge_right : Fun K "_law_edge_right" "_law_edge_right" zbr a.law_edge_right a.fd_law_edge_right
 g_law_edge_right : mg "_law_edge_right" = some (.ref a.law_edge_right)
 b_law_edge_right : zaN K a.fd_law_edge_right ["_law_rule_here","_law_sizes_here"] []
 F_law : Fun K "law" "law" ziU a.law a.fd_law
 g_law : mg "law" = some (.ref a.law)
 b_law : zaN K a.fd_law ["_law_script"] []
 z_ValueError : mg "ValueError" = none
 z_abs : mg "abs" = none
 z_all : mg "all" = none
 z_any : mg "any" = none
 z_bool : mg "bool" = none
 z_enumerate : mg "enumerate" = none
 z_int : mg "int" = none
 z_isinstance : mg "isinstance" = none
 z_len : mg "len" = none
 z_list : mg "list" = none
 z_range : mg "range" = none
 z_sum : mg "sum" = none
 z_tuple : mg "tuple" = none
 z_zip : mg "zip" = none
 g_TooLong : mg "TooLong" = some (.ref a.C_TooLong)
 g_NoBack : mg "NoBack" = some (.ref a.C_NoBack)
 g_NoRow : mg "NoRow" = some (.ref a.C_NoRow)
 g_NoText : mg "NoText" = some (.ref a.C_NoText)
 g_NoWeb : mg "NoWeb" = some (.ref a.C_NoWeb)
 g_NoStand : mg "NoStand" = some (.ref a.C_NoStand)
 g_NoSwarm : mg "NoSwarm" = some (.ref a.C_NoSwarm)
 g_NoRule : mg "NoRule" = some (.ref a.C_NoRule)
 g_NoNumber : mg "NoNumber" = some (.ref a.C_NoNumber)
 g_GlowError : mg "GlowError" = some (.ref a.C_GlowError)
 x_TooLong : PySem.W.excIn K a.C_TooLong zoF "ValueError.__new__" = true
 m_TooLong : PySem.W.exmOne K (.ref a.C_TooLong) (.ref a.C_GlowError) = some true
 e_TooLong : ExcCls K a.C_TooLong
 k_TooLong_TooLong : PySem.W.kitOne K (.ref a.C_TooLong) (.ref a.C_TooLong) = some true
 k_TooLong_NoBack : PySem.W.kitOne K (.ref a.C_TooLong) (.ref a.C_NoBack) = some false
 k_TooLong_NoRow : PySem.W.kitOne K (.ref a.C_TooLong) (.ref a.C_NoRow) = some false
 k_TooLong_NoText : PySem.W.kitOne K (.ref a.C_TooLong) (.ref a.C_NoText) = some false
 k_TooLong_NoWeb : PySem.W.kitOne K (.ref a.C_TooLong) (.ref a.C_NoWeb) = some false
 k_TooLong_NoStand : PySem.W.kitOne K (.ref a.C_TooLong) (.ref a.C_NoStand) = some false
 k_TooLong_NoSwarm : PySem.W.kitOne K (.ref a.C_TooLong) (.ref a.C_NoSwarm) = some false
 k_TooLong_NoRule : PySem.W.kitOne K (.ref a.C_TooLong) (.ref a.C_NoRule) = some false
 k_TooLong_NoNumber : PySem.W.kitOne K (.ref a.C_TooLong) (.ref a.C_NoNumber) = some false
 v_TooLong : PySem.W.kitOne K (.ref a.C_TooLong) (.type "ValueError") = some true
 c_NOUGHT : mg "NOUGHT" = some (.ref a.k_NOUGHT)
 t_NOUGHT : ∀ H : Hp,SqT K H a.k_NOUGHT [.int 0,.int 1]
 c_ONE : mg "ONE" = some (.ref a.k_ONE)
 t_ONE : ∀ H : Hp,SqT K H a.k_ONE [.int 1,.int 1]
 c_MOST_FREE : ∃ t,mg "MOST_FREE" = some (.int 30 t)
def zo1 (a : Ad) (C : Value) (w : Str) : Prop:=(C = .ref a.C_TooLong /\ w = "long")
end G
open L2 GM in
local macro_rules | `(tactic| wtm_at "is")=>`(tactic| first
 | assumption
 | exact za5.mpr rfl
 | exact zdO.mpr rfl
 | exact zfO.mpr rfl
 | exact zb1.mpr rfl
 | exact Is.thru (by assumption) (by wtm_at "same")
 | exact Is.thruN (by assumption) (by wtm_at "keep")
 | exact Is.thruR (by assumption) (by wtm_at "keep")
 | ((with_reducible apply is_tupAt); (focus assumption); (focus wtm_at "isall"); wtm_at "same")
 | ((with_reducible apply is_lstAt); (focus assumption); (focus wtm_at "isall"); wtm_at "same")
 | ((with_reducible apply is_dctAt); (focus assumption); wtm_at "same")
 | exact zda 0 (G.Txt.t_NOUGHT (by assumption) _) rfl rfl | exact zda 1 (G.Txt.t_ONE (by assumption) _) rfl rfl
 | fail "is")
open L2 GM in
local macro_rules | `(tactic| wtm_at "isall")=>`(tactic| first
 | exact IsAll.nil
 | exact IsAll.cons (by wtm_at "is") (by wtm_at "isall")
 | fail "isall")
open L2 GM in
local macro_rules | `(tactic| wtm_at "ne")=>`(tactic| first
 | assumption
 | (apply Ne.symm; assumption))
/- a list that stands at an address -/
open L2 GM in
local macro_rules | `(tactic| wtm_at "lst")=>`(tactic| first
 | assumption
 | exact zai.at (by assumption) (by wtm_at "lst")
 | exact Exc.at (by assumption) (by wtm_at "ne") (by wtm_at "lst")
 | fail "lst")
open L2 GM in
local macro_rules | `(tactic| wtm_at "same")=>`(tactic| first
 | assumption
 | exact zai.refl _
 | exact zai.back (by assumption) (by wtm_at "same")
 | fail "same")
open L2 GM in
local macro_rules | `(tactic| wtm_at "keep")=>`(tactic| first
 | assumption
 | exact zaY.refl _
 | exact zai.keep (by assumption)
 | exact zaY.back (by assumption) (by wtm_at "keep")
 | exact zaY.back (zai.keep (by assumption)) (by wtm_at "keep")
 | fail "keep")
open L2 GM in
local macro_rules | `(tactic| wtm_at "exc")=>`(tactic| first
 | assumption
 | exact Exc.refl _ _
 | exact Exc.back (by assumption) (by wtm_at "exc")
 | exact Exc.back (zai.exc (by assumption)) (by wtm_at "exc")
 | fail "exc")
open L2 GM in
local macro_rules | `(tactic| wtm_at "sqf")=>`(tactic| first
 | assumption
 | exact zaY.sqF (by wtm_at "keep") (by assumption)
 | fail "sqf")
/- how great -/
open L2 GM in
local macro_rules | `(tactic| wtm_at "bd")=>`(tactic| first
 | assumption
 | exact Bd.mk (n:=128) (by decide)
 | exact Bd.mono (m:=128) ⟨by decide⟩ (by decide)
 | exact Bdr.t (by assumption)
 | exact Bdr.b (by assumption)
 | exact Bd.of128 (by omega) (by omega)
 | (apply Bd.neg; wtm_at "bd")
 | (apply Bd.mul; (focus wtm_at "bd"); wtm_at "bd")
 | (apply Bd.add; (focus wtm_at "bd"); wtm_at "bd")
 | (apply Bd.sub; (focus wtm_at "bd"); wtm_at "bd"))
open L2 GM PySem in
local macro_rules | `(tactic| wtm_at "mulok")=>`(tactic| first
 | exact IntMulOk.of_right (by decide)
 | exact IntMulOk.of_left (by decide)
 | exact IntMulOk.of_right (intBits_le_64 (by omega) (by omega))
 | exact IntMulOk.of_left (intBits_le_64 (by omega) (by omega))
 | (apply L2.MulBd; (focus wtm_at "bd"); (focus wtm_at "bd"); (focus decide); decide))
open L2 GM PySem in
local macro_rules | `(tactic| wtm_at "side")=>`(tactic| first
 | assumption
 | decide
 | omega
 | wtm_at "mulok"
 | (refine And.intro ?_ ?_ <;> wtm_at "side")
 | wtm_at "bd")
open L2 GM in
local macro_rules | `(tactic| wtm_at "gs")=>`(tactic| first
 | wtm_at "sq"
 | with_reducible (first | refine zrK ?_ | refine zr2 ?_ | refine zrH ?_ | refine zsj ?_)
 | ((with_reducible apply zln); (focus rfl))
 | with_reducible (first | refine ztb ?_ | refine zpZ ?_ | refine zrJ ?_ | refine zqh ?_ | refine zq2 ?_ | refine zoQ ?_ | refine zpn ?_ | refine zsU ?_ | refine zsg ?_ | refine zrm ?_ | refine zrV ?_ | refine zqz ?_)
 | ((with_reducible apply zko); (focus wtm_at "side"))
 | with_reducible (first | refine zsB ?_ | refine zso ?_ | refine zr6 ?_ | refine zqi ?_ | refine zrs ?_ | refine zrc ?_ | refine zrw ?_ | refine zpB ?_ | refine zoG ?_ | refine zoq ?_)
 | with_reducible refine zpq (fun _=>?_) (fun _=>?_)
 | with_reducible refine zo3 (fun _=>?_) (fun _=>?_)
 | with_reducible refine zn7 (fun _=>?_) (fun _=>?_)
 | with_reducible refine zqu (fun _=>?_) (fun _=>?_)
 | with_reducible (first | refine zr5 ?_ | refine zsK ?_ | refine zrd ?_ | refine zpW ?_ | refine zrO ?_ | refine zqg ?_ | refine zrA ?_ | refine zqC ?_ | refine zqx ?_ | refine zpH ?_ | refine zpX ?_ | refine zpQ ?_ | refine zrl ?_ | refine zqa ?_ | refine zhI ?_ | refine zhF ?_ | refine zmr ?_ | refine zqA ?_)
 | ((with_reducible apply zpP); (focus wtm_at "is"))
 | ((with_reducible apply zqs); (focus wtm_at "is"))
 | ((with_reducible apply zeN); (focus (apply SqL.of; wtm_at "lst")); (focus rfl))
 | ((with_reducible apply zg9); (focus assumption); (focus rfl); intro hN eN lN; dsimp only [Int.reduceToNat,List.set_cons_succ,List.set_cons_zero] at lN)
 | ((with_reducible apply zod); (focus wtm_at "is"))
 | ((with_reducible apply zkj); (focus wtm_at "is"))
 | ((with_reducible apply zkp); (focus wtm_at "is"))
 | dsimp only [List.set_cons_succ,List.set_cons_zero])
/- one statement behind another: what follows stands behind a name -/
set_option hygiene false in
open L2 GM in
local macro_rules | `(tactic| wtm_at "sq")=>`(tactic| with_reducible refine zp6 (fun tl_ htl_=>?_))
set_option hygiene false in
open L2 GM in
local macro_rules | `(tactic| wtm_at "tl")=>`(tactic| ((with_reducible refine zjp.go (by assumption) ?_); (try clear htl_ tl_)))
/- how great a number is -/
open L2 GM in
local macro_rules | `(tactic| wtm_at "bdr0")=>`(tactic| first
 | assumption
 | exact Bdr.zero
 | exact Bdr.one
 | exact Bdr.four
 | (apply Bdr.add; (focus wtm_at "bdr0"); wtm_at "bdr0")
 | (apply Bdr.sub; (focus wtm_at "bdr0"); wtm_at "bdr0")
 | (apply Bdr.mul; (focus wtm_at "bdr0"); wtm_at "bdr0"))
open L2 GM in
local macro_rules | `(tactic| wtm_at "bdr")=>`(tactic| first
 | assumption
 | (apply Bdr.mono; (focus wtm_at "bdr0"); (first | decide | omega)))
/- .. with new tuples,lists,dicts -/
open L2 GM in
local macro_rules | `(tactic| wtm_at "ga1")=>`(tactic| first
 | wtm_at "gs"
 | ((with_reducible apply zcp); (focus (simp only [List.length_cons,List.length_nil]; decide)); (focus wtm_at "isall"); intro _ _ _ _)
 | ((with_reducible apply zcm); (focus (simp only [List.length_cons,List.length_nil]; decide)); intro _ _ _ _ _)
 | ((with_reducible apply zfV); (focus wtm_at "lst"); (focus wtm_at "lst"); (focus (simp only [List.length_append,List.length_cons,List.length_nil]; decide)); intro _ _ _ _ _))
local macro_rules | `(tactic| wtm_at "ga")=>`(tactic| repeat' (first | wtm_at "ga1" | wtm_at "tl"))
local macro_rules | `(tactic| wtm_at "gg")=>`(tactic| repeat' (first | wtm_at "gs" | wtm_at "tl"))
local macro_rules | `(tactic| wtm_at "gt")=>`(tactic| repeat' (wtm_at "gs"))
open L2 GM in
local macro_rules | `(tactic| wtm_at "bd128")=>`(tactic| first
 | exact Bd.mono (m:=128) ⟨by decide⟩ (by decide)
 | exact (Bd.of128 (by omega) (by omega)).mono (by decide))
open L2 GM in
local macro_rules | `(tactic| wtm_at "gs")=>`(tactic| first
 | with_reducible (first | refine zsi ?_ | refine zmJ ?_ | refine zmV ?_ | refine zsJ ?_ | refine zmF ?_ | refine zm7 ?_ | refine zn3 ?_ | refine zn4 ?_ | refine znQ ?_)
 | ((with_reducible apply zm0); (focus wtm_at "ecls"); (focus wtm_at "kit"))
 | ((with_reducible apply zna); (focus wtm_at "ecls"); (focus wtm_at "kit"))
 | with_reducible (first | refine zn1 ?_ | refine zhN ?_ | refine zn2 ?_ | refine znT ?_ | refine zsw ?_ | refine zpL ?_ | refine zp0 ?_ | refine zo7 ?_ | refine zr9 ?_ | refine zo2 ?_ | refine znA ?_ | refine zmL ?_ | refine zp8 ?_ | refine zn9 ?_)
 | ((with_reducible apply zpI); (focus wtm_at "is"); intro _ _)
 | ((with_reducible apply zpY); (focus wtm_at "is"); intro _ _)
 | ((with_reducible apply znB); (focus wtm_at "is"); intro _ _ _ _)
 | ((with_reducible apply zeN); (focus (apply SqL.of; wtm_at "lst")); (focus rfl))
 | ((with_reducible apply zpA); (focus wtm_at "lst"); (focus omega); (focus omega); intro _ _)
 | ((with_reducible apply zpr); (focus wtm_at "lst"); (focus omega); (focus omega); intro _ _)
 | ((with_reducible apply zrR); (focus wtm_at "is"); (focus wtm_at "is")))
open L2 GM G in
local macro_rules | `(tactic| wtm_at "ecls")=>`(tactic| first | exact Txt.e_TooLong (by assumption))
open L2 GM G in
local macro_rules | `(tactic| wtm_at "kit")=>`(tactic| first | exact Txt.k_TooLong_TooLong (by assumption) | exact Txt.k_TooLong_NoBack (by assumption) | exact Txt.k_TooLong_NoRow (by assumption) | exact Txt.k_TooLong_NoText (by assumption) | exact Txt.k_TooLong_NoWeb (by assumption) | exact Txt.k_TooLong_NoStand (by assumption) | exact Txt.k_TooLong_NoSwarm (by assumption) | exact Txt.k_TooLong_NoRule (by assumption) | exact Txt.k_TooLong_NoNumber (by assumption) | exact Txt.v_TooLong (by assumption))
namespace G
open PySem PySem.Spec PyProof.Rows L2 GM
section
variable {P : Program} {w : World} {K : PySem.W.Frag} {mg : Str -> Option Value} {base : Heap} {a : Ad}
def zdg (K : PySem.W.Frag) : Sp:=fun vs H Q _=>∃ x0 x1,vs = [x0,x1] /\ ∃ a b : Int,x0 = .int a /\ x1 = .int b /\ 0 <= a /\ 0 <= b /\ Q (.int (Int.gcd a b : Nat)) H
theorem zbK {K : PySem.W.Frag} {H : Hp} {Q : VK} {E : XK} {a b : Int} (ha : 0 <= a) (hb : 0 <= b) (q : Q (.int (Int.gcd a b : Nat)) H) : zdg K [.int a,.int b] H Q E:=⟨_,_,rfl,a,b,rfl,rfl,ha,hb,q⟩
set_option maxHeartbeats 4000000 in
theorem zbH (T : Txt K mg a) : zbd P w K mg base CX0 1 a.greatest_divisor a.fd_greatest_divisor ["one","other"] (zdg K):=by
 refine T.F_greatest_divisor.ok zbJ (fun vs H Q E h=>by obtain ⟨_,_,rfl,_⟩:=h; rfl) (fun cdv A outer s H vs Q E hr h=>?_)
 obtain ⟨x0,x1,rfl,h⟩:=h
 have hu:=hr.units
 refine ⟨_,(zad (zh9 PassesOwn.never (zax (show OpR _ (compareOp .NotEq) (zfu K) from zfK hu) (pv 1) zac (zaw _)) (zad (zak (i:=2) zbJ.nd rfl (Or.inl rfl) (zal zcW (pv 0) (pv 1)))
     (zad (zak (i:=0) zbJ.nd rfl (Or.inl rfl) (pv 1))
     (zag (zak (i:=1) zbJ.nd rfl (Or.inl rfl) (pv 2))))))
     (zag (zan (pv 0)))),?_⟩
 clear hu
 try clear hgd
 try dsimp only [za8,zaQ]
 rw [show start ["one","other","rest"] [x0,x1] = [some x0,some x1,none] from rfl]
 obtain ⟨a',b',rfl,rfl,ha,hb,q⟩:=h
 refine zrB ?_
 refine zkn (fun σ H'=>∃ (x y : Int) (r : Option V),σ = [some (.int x),some (.int y),r] /\ 0 <= x /\ 0 <= y /\ Int.gcd x y = Int.gcd a' b' /\ H' = H) (fun σ=>(ixI σ 1).toNat) ⟨a',b',none,rfl,ha,hb,rfl,rfl⟩ ?_
 rintro σ H' ⟨x,y,r,rfl,hx,hy,hg,rfl⟩
 wtm_at "gg"
 . refine zmi ?_
   wtm_at "gg"
   have h1:=Int.emod_nonneg x (show y ≠ 0 by assumption)
   have h2:=Int.emod_lt_of_pos x (show 0 < y by omega)
   refine ⟨?_,_,_,_,rfl,hy,h1,?_,rfl⟩
   . show (x % y).toNat < y.toNat
     omega
   . rw [<- hg]; exact zke (by omega) hx
 . rename_i h0
   subst h0
   have e : ((Int.gcd a' b' : Nat) : Int) = x:=by
     rw [<- hg,Int.gcd_zero_right]; omega
   rw [e] at q
   exact q
def zmu (K : PySem.W.Frag) : Sp:=fun vs H Q _=>∃ x0 x1,vs = [x0,x1] /\ ∃ (x y : Rat),Is K H x0 (N x) /\ Is K H x1 (N y) /\ Bdr 8999 x /\ Bdr 8999 y /\ ∀ v H',zai H H' -> Is K H' v (N (x + y)) -> Q v H'
theorem zmy {K : PySem.W.Frag} {H : Hp} {Q : VK} {E : XK} {x y : Rat} {v w : V} (h1 : Is K H v (N x)) (h2 : Is K H w (N y)) (b1 : Bdr 8999 x) (b2 : Bdr 8999 y) (q : ∀ v H',zai H H' -> Is K H' v (N (x + y)) -> Q v H') : zmu K [v,w] H Q E:=⟨_,_,rfl,x,y,h1,h2,b1,b2,q⟩
local macro_rules | `(tactic| wtm_at "gs")=>`(tactic| ((with_reducible apply zmy); (focus wtm_at "is"); (focus wtm_at "is"); (focus wtm_at "bdr"); (focus wtm_at "bdr"); intro _ _ _ _))
set_option maxHeartbeats 4000000 in
theorem zfZ (T : Txt K mg a) : zbd P w K mg base CX0 2 a.plus a.fd_plus ["one","other"] (zmu K):=by
 refine T.F_plus.ok zhg (fun vs H Q E h=>by obtain ⟨_,_,rfl,_⟩:=h; rfl) (fun cdv A outer s H vs Q E hr h=>?_)
 obtain ⟨x0,x1,rfl,h⟩:=h
 have hu:=hr.units
 refine ⟨_,(zad (zak (i:=2) zhg.nd rfl (Or.inl rfl) (zaf (zbH T) (hr.mono (by decide)) rfl T.g_greatest_divisor T.F_greatest_divisor.kp T.b_greatest_divisor .nil zaj (zaa (zam zah (pv 0) zac (fun _ _=>rfl)) (zaa (zam zah (pv 1) zac (fun _ _=>rfl)) zab))))
     (zad (zak (i:=3) zhg.nd rfl (Or.inl rfl) (zal zau (zal zav (zam zah (pv 0) zac (fun _ _=>rfl)) (zal zbm (zam zah (pv 1) zac (fun _ _=>rfl)) (pv 2))) (zal zav (zam zah (pv 1) zac (fun _ _=>rfl)) (zal zbm (zam zah (pv 0) zac (fun _ _=>rfl)) (pv 2)))))
     (zad (zak (i:=4) zhg.nd rfl (Or.inl rfl) (zaf (zbH T) (hr.mono (by decide)) rfl T.g_greatest_divisor T.F_greatest_divisor.kp T.b_greatest_divisor .nil zaj (zaa (zaE zd7 rfl T.z_abs zhQ (zaa (pv 3) zab)) (zaa (pv 2) zab))))
     (zag (zan (zay (zaa (zal zbm (pv 3) (pv 4)) (zaa (zal zav (zal zbm (zam zah (pv 0) zac (fun _ _=>rfl)) (pv 2)) (zal zbm (zam zah (pv 1) zac (fun _ _=>rfl)) (pv 4))) zab)))))))),?_⟩
 clear hu
 try clear hgd
 try dsimp only [za8,zaQ]
 rw [show start ["one","other","shared","top","divisor"] [x0,x1] = [some x0,some x1,none,none,none] from rfl]
 obtain ⟨x,y,hx,hy,⟨bx1,bx2⟩,⟨by1,by2⟩,q⟩:=h
 have px:=den_pos x
 have py:=den_pos y
 have ps:=zhc x y
 have pd:=zjx x y
 have c1 : zfg 0 (shd x y):=⟨by omega,zhK bx2 (zhV x y) px⟩
 have c2 : zfg 0 (sdv x y):=⟨by omega,zhK (zhK bx2 (zhV x y) px) (zlN x y) ps⟩
 have f1:=zem by2 (zjb x y) ps
 have f2:=zem bx2 (zhV x y) ps
 have f3:=zem by2 (Int.dvd_trans (zlN x y) (zjb x y)) pd
 wtm_at "gg"
 refine zbK (by omega) (by omega) ?_
 rw [show ((Int.gcd (x.den : Int) (y.den : Int) : Nat) : Int) = shd x y from rfl]
 wtm_at "gg"
 rw [show x.num * (y.den : Int).fdiv (shd x y) + y.num * (x.den : Int).fdiv (shd x y) = stp x y from rfl]
 wtm_at "gg"
 refine zbK (by split <;> omega) (by omega) ?_
 rw [zjR,show ((Int.gcd (stp x y) (shd x y) : Nat) : Int) = sdv x y from rfl]
 wtm_at "gg"
 exact zdk (zpj x y) (zpS x y) q
def zkA (K : PySem.W.Frag) : Sp:=fun vs H Q _=>∃ x0 x1,vs = [x0,x1] /\ ∃ (x y : Rat),Is K H x0 (N x) /\ Is K H x1 (N y) /\ Bdr 8999 x /\ Bdr 8999 y /\ ∀ v H',zai H H' -> Is K H' v (N (x - y)) -> Q v H'
theorem zpa {K : PySem.W.Frag} {H : Hp} {Q : VK} {E : XK} {x y : Rat} {v w : V} (h1 : Is K H v (N x)) (h2 : Is K H w (N y)) (b1 : Bdr 8999 x) (b2 : Bdr 8999 y) (q : ∀ v H',zai H H' -> Is K H' v (N (x - y)) -> Q v H') : zkA K [v,w] H Q E:=⟨_,_,rfl,x,y,h1,h2,b1,b2,q⟩
local macro_rules | `(tactic| wtm_at "gs")=>`(tactic| ((with_reducible apply zpa); (focus wtm_at "is"); (focus wtm_at "is"); (focus wtm_at "bdr"); (focus wtm_at "bdr"); intro _ _ _ _))
set_option maxHeartbeats 4000000 in
theorem zgd (T : Txt K mg a) : zbd P w K mg base CX0 3 a.minus a.fd_minus ["one","other"] (zkA K):=by
 refine T.F_minus.ok zoB (fun vs H Q E h=>by obtain ⟨_,_,rfl,_⟩:=h; rfl) (fun cdv A outer s H vs Q E hr h=>?_)
 obtain ⟨x0,x1,rfl,h⟩:=h
 have hu:=hr.units
 refine ⟨_,(zag (zan (zaf (zfZ T) (hr.mono (by decide)) rfl T.g_plus T.F_plus.kp T.b_plus .nil zaj (zaa (pv 0) (zaa (zay (zaa (zfq zdV (zam zah (pv 1) zac (fun _ _=>rfl))) (zaa (zam zah (pv 1) zac (fun _ _=>rfl)) zab))) zab))))),?_⟩
 clear hu
 try clear hgd
 try dsimp only [za8,zaQ]
 rw [show start ["one","other"] [x0,x1] = [some x0,some x1] from rfl]
 obtain ⟨x,y,hx,hy,bx,by',q⟩:=h
 wtm_at "gg"
 refine zdk (r:=-y) (by simp) (by simp) (fun v H' s hv=>?_)
 wtm_at "gg"
 refine zmy (by wtm_at "is") hv bx (zpV by') (fun w H'' s2 hw=>?_)
 rw [zkY] at hw
 wtm_at "gg"
 exact q w H'' (s.trans s2) hw
def zkb (K : PySem.W.Frag) : Sp:=fun vs H Q _=>∃ x0 x1,vs = [x0,x1] /\ ∃ (x y : Rat),Is K H x0 (N x) /\ Is K H x1 (N y) /\ Bdr 8999 x /\ Bdr 8999 y /\ ∀ v H',zai H H' -> Is K H' v (N (x * y)) -> Q v H'
theorem zh6 {K : PySem.W.Frag} {H : Hp} {Q : VK} {E : XK} {x y : Rat} {v w : V} (h1 : Is K H v (N x)) (h2 : Is K H w (N y)) (b1 : Bdr 8999 x) (b2 : Bdr 8999 y) (q : ∀ v H',zai H H' -> Is K H' v (N (x * y)) -> Q v H') : zkb K [v,w] H Q E:=⟨_,_,rfl,x,y,h1,h2,b1,b2,q⟩
local macro_rules | `(tactic| wtm_at "gs")=>`(tactic| ((with_reducible apply zh6); (focus wtm_at "is"); (focus wtm_at "is"); (focus wtm_at "bdr"); (focus wtm_at "bdr"); intro _ _ _ _))
set_option maxHeartbeats 4000000 in
theorem zd9 (T : Txt K mg a) : zbd P w K mg base CX0 2 a.times a.fd_times ["one","other"] (zkb K):=by
 refine T.F_times.ok zhM (fun vs H Q E h=>by obtain ⟨_,_,rfl,_⟩:=h; rfl) (fun cdv A outer s H vs Q E hr h=>?_)
 obtain ⟨x0,x1,rfl,h⟩:=h
 have hu:=hr.units
 refine ⟨_,(zad (zak (i:=2) zhM.nd rfl (Or.inl rfl) (zaf (zbH T) (hr.mono (by decide)) rfl T.g_greatest_divisor T.F_greatest_divisor.kp T.b_greatest_divisor .nil zaj (zaa (zaE zd7 rfl T.z_abs zhQ (zaa (zam zah (pv 0) zac (fun _ _=>rfl)) zab)) (zaa (zam zah (pv 1) zac (fun _ _=>rfl)) zab))))
     (zad (zak (i:=3) zhM.nd rfl (Or.inl rfl) (zaf (zbH T) (hr.mono (by decide)) rfl T.g_greatest_divisor T.F_greatest_divisor.kp T.b_greatest_divisor .nil zaj (zaa (zaE zd7 rfl T.z_abs zhQ (zaa (zam zah (pv 1) zac (fun _ _=>rfl)) zab)) (zaa (zam zah (pv 0) zac (fun _ _=>rfl)) zab))))
     (zag (zan (zay (zaa (zal zav (zal zbm (zam zah (pv 0) zac (fun _ _=>rfl)) (pv 2)) (zal zbm (zam zah (pv 1) zac (fun _ _=>rfl)) (pv 3))) (zaa (zal zav (zal zbm (zam zah (pv 0) zac (fun _ _=>rfl)) (pv 3)) (zal zbm (zam zah (pv 1) zac (fun _ _=>rfl)) (pv 2))) zab))))))),?_⟩
 clear hu
 try clear hgd
 try dsimp only [za8,zaQ]
 rw [show start ["one","other","first","second"] [x0,x1] = [some x0,some x1,none,none] from rfl]
 obtain ⟨x,y,hx,hy,⟨bx1,bx2⟩,⟨by1,by2⟩,q⟩:=h
 have px:=den_pos x
 have py:=den_pos y
 have p1:=zeX x y
 have p2:=zeX y x
 have c1 : zfg 0 (crs x y):=⟨by omega,zhK by2 (zgh x y) py⟩
 have c2 : zfg 0 (crs y x):=⟨by omega,zhK bx2 (zgh y x) px⟩
 have f1:=zem bx1 (zjs x y) p1
 have f2:=zem by1 (zjs y x) p2
 have f3:=zem bx2 (zgh y x) p2
 have f4:=zem by2 (zgh x y) p1
 wtm_at "gg"
 refine zbK (by split <;> omega) (by omega) ?_
 rw [zjR,show ((Int.gcd x.num (y.den : Int) : Nat) : Int) = crs x y from rfl]
 wtm_at "gg"
 refine zbK (by split <;> omega) (by omega) ?_
 rw [zjR,show ((Int.gcd y.num (x.den : Int) : Nat) : Int) = crs y x from rfl]
 wtm_at "gg"
 exact zdk (zqE x y) (zqt x y) q
def zml (K : PySem.W.Frag) : Sp:=fun vs H Q _=>∃ x0 x1,vs = [x0,x1] /\ ∃ (x y : Rat),Is K H x0 (N x) /\ Is K H x1 (N y) /\ Bdr 8999 x /\ Bdr 8999 y /\ y ≠ 0 /\ ∀ v H',zai H H' -> Is K H' v (N (x / y)) -> Q v H'
theorem zlY {K : PySem.W.Frag} {H : Hp} {Q : VK} {E : XK} {x y : Rat} {v w : V} (h1 : Is K H v (N x)) (h2 : Is K H w (N y)) (b1 : Bdr 8999 x) (b2 : Bdr 8999 y) (hy : y ≠ 0) (q : ∀ v H',zai H H' -> Is K H' v (N (x / y)) -> Q v H') : zml K [v,w] H Q E:=⟨_,_,rfl,x,y,h1,h2,b1,b2,hy,q⟩
set_option maxHeartbeats 4000000 in
theorem zl8 (T : Txt K mg a) : zbd P w K mg base CX0 3 a.over a.fd_over ["one","other"] (zml K):=by
 refine T.F_over.ok zmh (fun vs H Q E h=>by obtain ⟨_,_,rfl,_⟩:=h; rfl) (fun cdv A outer s H vs Q E hr h=>?_)
 obtain ⟨x0,x1,rfl,h⟩:=h
 have hu:=hr.units
 refine ⟨_,(zad (za4 (zax (show OpR _ (compareOp .Eq) (zcL K) from zbC hu) (zam zah (pv 1) zac (fun _ _=>rfl)) zac (zaw _)) (zag zog) zaF)
     (zad (zak (i:=2) zmh.nd rfl (Or.inl rfl) (zf9 (zax zhv (zam zah (pv 1) zac (fun _ _=>rfl)) zac (zaw _)) (zay (zaa (zam zah (pv 1) zac (fun _ _=>rfl)) (zaa (zam zah (pv 1) zac (fun _ _=>rfl)) zab))) (zay (zaa (zfq zdV (zam zah (pv 1) zac (fun _ _=>rfl))) (zaa (zfq zdV (zam zah (pv 1) zac (fun _ _=>rfl))) zab)))))
     (zag (zan (zaf (zd9 T) (hr.mono (by decide)) rfl T.g_times T.F_times.kp T.b_times .nil zaj (zaa (pv 0) (zaa (pv 2) zab))))))),?_⟩
 clear hu
 try clear hgd
 try dsimp only [za8,zaQ]
 rw [show start ["one","other","turned"] [x0,x1] = [some x0,some x1,none] from rfl]
 obtain ⟨x,y,hx,hy,bx,by',hn,q⟩:=h
 wtm_at "gg"
 . rename_i z
   exact absurd z (zfJ hn)
 . rename_i z0 z
   refine zdk (r:=y⁻¹) (zdR z).1.symm (zdR z).2.symm (fun v1 H1 S1 i1=>?_)
   wtm_at "gg"
   refine zh6 (hx.by S1) i1 bx (zlX by' hn) (fun v2 H2 S2 i2=>?_)
   rw [<- Rat.div_def] at i2
   wtm_at "gg"
   exact q v2 H2 (S1.trans S2) i2
 . rename_i z0 z
   have z : y.num < 0:=by omega
   refine zdk (r:=y⁻¹) (zdD z).1.symm (zdD z).2.symm (fun v1 H1 S1 i1=>?_)
   wtm_at "gg"
   refine zh6 (hx.by S1) i1 bx (zlX by' hn) (fun v2 H2 S2 i2=>?_)
   rw [<- Rat.div_def] at i2
   wtm_at "gg"
   exact q v2 H2 (S1.trans S2) i2
def zl1 (K : PySem.W.Frag) : Sp:=fun vs H Q _=>∃ x0 x1,vs = [x0,x1] /\ ∃ (x y : Rat),Is K H x0 (N x) /\ Is K H x1 (N y) /\ Bdr 8999 x /\ Bdr 8999 y /\ Q (.bl (decide (x < y))) H
theorem zqo {K : PySem.W.Frag} {H : Hp} {Q : VK} {E : XK} {x y : Rat} {v w : V} (h1 : Is K H v (N x)) (h2 : Is K H w (N y)) (b1 : Bdr 8999 x) (b2 : Bdr 8999 y) (q : Q (.bl (decide (x < y))) H) : zl1 K [v,w] H Q E:=⟨_,_,rfl,x,y,h1,h2,b1,b2,q⟩
local macro_rules | `(tactic| wtm_at "gs")=>`(tactic| ((with_reducible apply zqo); (focus wtm_at "is"); (focus wtm_at "is"); (focus wtm_at "bdr"); (focus wtm_at "bdr")))
set_option maxHeartbeats 4000000 in
theorem zew (T : Txt K mg a) : zbd P w K mg base CX0 1 a.less a.fd_less ["one","other"] (zl1 K):=by
 refine T.F_less.ok zpm (fun vs H Q E h=>by obtain ⟨_,_,rfl,_⟩:=h; rfl) (fun cdv A outer s H vs Q E hr h=>?_)
 obtain ⟨x0,x1,rfl,h⟩:=h
 have hu:=hr.units
 refine ⟨_,(zag (zan (zcH zix (zal zav (zam zah (pv 0) zac (fun _ _=>rfl)) (zam zah (pv 1) zac (fun _ _=>rfl))) (zal zav (zam zah (pv 1) zac (fun _ _=>rfl)) (zam zah (pv 0) zac (fun _ _=>rfl))) (zaw _)))),?_⟩
 clear hu
 try clear hgd
 try dsimp only [za8,zaQ]
 rw [show start ["one","other"] [x0,x1] = [some x0,some x1] from rfl]
 obtain ⟨x,y,hx,hy,⟨bx1,bx2⟩,⟨by1,by2⟩,q⟩:=h
 wtm_at "gg"
 rw [zq3]
 exact q
def zcI (x : Rat) : Str:=if 1 < x then "rising" else if x = 1 then "even" else "falling"
def zl0 (K : PySem.W.Frag) : Sp:=fun vs H Q _=>∃ x0,vs = [x0] /\ ∃ x y : Rat,Is K H x0 (R x y) /\ Bdr 4000 x /\ Q (.str (zcI x)) H
theorem zdG {K : PySem.W.Frag} {H : Hp} {Q : VK} {E : XK} {x y : Rat} {v : V} (h : Is K H v (R x y)) (b : Bdr 4000 x) (q : Q (.str (zcI x)) H) : zl0 K [v] H Q E:=⟨_,rfl,x,y,h,b,q⟩
set_option maxHeartbeats 4000000 in
theorem zg5 (T : Txt K mg a) : zbd P w K mg base CX0 2 a.bend a.fd_bend ["rule"] (zl0 K):=by
 refine T.F_bend.ok zp1 (fun vs H Q E h=>by obtain ⟨_,rfl,_⟩:=h; rfl) (fun cdv A outer s H vs Q E hr h=>?_)
 obtain ⟨x0,rfl,h⟩:=h
 have hu:=hr.units
 refine ⟨_,(zad (za4 (zb3 (zaf (zew T) (hr.mono (by decide)) rfl T.g_less T.F_less.kp T.b_less .nil zaj (zaa (zaM (v:=.ref a.k_ONE) rfl T.c_ONE rfl) (zaa (zam zah (pv 0) zac (fun _ _=>rfl)) zab)))) (zag (zan zbD)) zaF)
     (zad (za4 (zax (show OpR _ (compareOp .Eq) (zcL K) from zbC hu) (zam zah (pv 0) zac (fun _ _=>rfl)) (zaM (v:=.ref a.k_ONE) rfl T.c_ONE rfl) (zaw _)) (zag (zan zbD)) zaF)
     (zag (zan zbD)))),?_⟩
 clear hu
 try clear hgd
 try dsimp only [za8,zaQ]
 rw [show start ["rule"] [x0] = [some x0] from rfl]
 obtain ⟨x,y,hx,bx,q⟩:=h
 unfold zcI at q
 wtm_at "gg"
 . rename_i h1
   rw [if_pos h1] at q
   exact q
 . rename_i h1 _ _ h2
   rw [if_neg h1,if_pos h2] at q
   exact q
 . rename_i h1 _ _ h2
   rw [if_neg h1,if_neg h2] at q
   exact q
def zgj (K : PySem.W.Frag) : Sp:=fun vs H Q _=>∃ x0 x1,vs = [x0,x1] /\ ∃ (a b : Rat) (n : Int),x1 = .int n /\ Is K H x0 (R a b) /\ Bdr 4000 a /\ Bdr 4000 b /\ 0 <= n /\ n <= 64 /\ (∀ i,i <= n.toNat -> Bdr 4000 (a ^ i)) /\ (∀ i,i <= n.toNat -> Bdr 4000 (shf a b i)) /\ ∀ v H',zai H H' -> Is K H' v (R (a ^ n.toNat) (shf a b n.toNat)) -> Q v H'
theorem zft {K : PySem.W.Frag} {H : Hp} {Q : VK} {E : XK} {a b : Rat} {n : Int} {v : V} (h1 : Is K H v (R a b)) (b1 : Bdr 4000 a) (b2 : Bdr 4000 b) (h0 : 0 <= n) (h64 : n <= 64) (f1 : ∀ i,i <= n.toNat -> Bdr 4000 (a ^ i)) (f2 : ∀ i,i <= n.toNat -> Bdr 4000 (shf a b i)) (q : ∀ v H',zai H H' -> Is K H' v (R (a ^ n.toNat) (shf a b n.toNat)) -> Q v H') : zgj K [v,.int n] H Q E:=⟨_,_,rfl,a,b,n,rfl,h1,b1,b2,h0,h64,f1,f2,q⟩
theorem zgz {K : PySem.W.Frag} {H : Hp} {Q : VK} {E : XK} {a b : Rat} {n : Int} {v : V} (h1 : Is K H v (R a b)) (b1 : Bdr 10 a) (b2 : Bdr 10 b) (h0 : 0 <= n) (h64 : n <= 64) (q : ∀ v H',zai H H' -> Is K H' v (R (a ^ n.toNat) (shf a b n.toNat)) -> Q v H') : zgj K [v,.int n] H Q E :=
 zft h1 (b1.mono (by decide)) (b2.mono (by decide)) h0 h64 (fun i hi=>(b1.pow i).mono (by omega)) (fun i hi=>(b1.shf b2 i).mono (by omega)) q
set_option maxHeartbeats 4000000 in
theorem zd4 (T : Txt K mg a) : zbd P w K mg base CX0 3 a.pushes a.fd_pushes ["rule","many"] (zgj K):=by
 refine T.F_pushes.ok zdr (fun vs H Q E h=>by obtain ⟨_,_,rfl,_⟩:=h; rfl) (fun cdv A outer s H vs Q E hr h=>?_)
 obtain ⟨x0,x1,rfl,h⟩:=h
 have hu:=hr.units
 refine ⟨_,(zad (zak (i:=2) zdr.nd rfl (Or.inl rfl) (zaM (v:=.ref a.k_ONE) rfl T.c_ONE rfl))
     (zad (zak (i:=3) zdr.nd rfl (Or.inl rfl) (zaM (v:=.ref a.k_NOUGHT) rfl T.c_NOUGHT rfl))
     (zad (zc8 PassesOwn.never rfl (zcZ rfl T.z_range (zaa (pv 1) zab)) (zaA (i:=4) zdr.nd rfl (Or.inl rfl)) (zad (zak (i:=2) zdr.nd rfl (Or.inl rfl) (zaf (zd9 T) (hr.mono (by decide)) rfl T.g_times T.F_times.kp T.b_times .nil zaj (zaa (zam zah (pv 0) zac (fun _ _=>rfl)) (zaa (pv 2) zab))))
     (zag (zak (i:=3) zdr.nd rfl (Or.inl rfl) (zaf (zfZ T) (hr.mono (by decide)) rfl T.g_plus T.F_plus.kp T.b_plus .nil zaj (zaa (zaf (zd9 T) (hr.mono (by decide)) rfl T.g_times T.F_times.kp T.b_times .nil zaj (zaa (zam zah (pv 0) zac (fun _ _=>rfl)) (zaa (pv 3) zab))) (zaa (zam zah (pv 0) zac (fun _ _=>rfl)) zab)))))))
     (zag (zan (zay (zaa (pv 2) (zaa (pv 3) zab)))))))),?_⟩
 clear hu
 try clear hgd
 try dsimp only [za8,zaQ]
 rw [show start ["rule","many","factor","shift","done"] [x0,x1] = [some x0,some x1,none,none,none] from rfl]
 obtain ⟨r,s',n,rfl,hr',ba,bb,h0,h64,f1,f2,q⟩:=h
 wtm_at "gg"
 refine zec (n:=n) (by omega) (by omega) (fun i σ H'=>∃ (f g : V) (o : Option V),σ = [some x0,some (.int n),some f,some g,o] /\ zai H H' /\ Is K H' f (N (r ^ i)) /\ Is K H' g (N (shf r s' i))) ⟨_,_,_,rfl,zai.refl H,by rw [Rat.pow_zero]; exact znb.mpr ⟨_,rfl,T.t_ONE H⟩,znb.mpr ⟨_,rfl,T.t_NOUGHT H⟩⟩ ?_ ?_
 . rintro i σ H' hi ⟨f,g,o,rfl,S1,hf,hg⟩
   have hr1:=hr'.by S1
   have bf : Bdr 4000 (r ^ i):=f1 i (by omega)
   have bg : Bdr 4000 (shf r s' i):=f2 i (by omega)
   have bg2 : Bdr 8999 (r * shf r s' i):=(ba.mul bg).mono (by decide)
   wtm_at "gg"
   refine ⟨_,_,_,rfl,S1.trans (zai.trans (by assumption) (zai.trans (by assumption) (by assumption))),?_,?_⟩
   . rw [Rat.pow_succ,Rat.mul_comm]
     wtm_at "is"
   . wtm_at "is"
 . rintro σ H' ⟨f,g,o,rfl,S1,hf,hg⟩
   wtm_at "ga"
   exact q _ _ (S1.trans (by assumption)) (by assumption)
def zf7 (K : PySem.W.Frag) : Sp:=fun vs H Q _=>∃ x0 x1,vs = [x0,x1] /\ ∃ (f g x : Rat),Is K H x0 (R f g) /\ Is K H x1 (N x) /\ Bdr 700 f /\ Bdr 1500 g /\ Bdr 8100 x /\ ∀ v H',zai H H' -> Is K H' v (N (f * x + g)) -> Q v H'
theorem zjO {K : PySem.W.Frag} {H : Hp} {Q : VK} {E : XK} {f g x : Rat} {v w : V} (h1 : Is K H v (R f g)) (h2 : Is K H w (N x)) (b1 : Bdr 700 f) (b2 : Bdr 1500 g) (b3 : Bdr 8100 x) (q : ∀ v H',zai H H' -> Is K H' v (N (f * x + g)) -> Q v H') : zf7 K [v,w] H Q E:=⟨_,_,rfl,f,g,x,h1,h2,b1,b2,b3,q⟩
set_option maxHeartbeats 4000000 in
theorem zje (T : Txt K mg a) : zbd P w K mg base CX0 3 a.pushed_by a.fd_pushed_by ["push","x"] (zf7 K):=by
 refine T.F_pushed_by.ok zi4 (fun vs H Q E h=>by obtain ⟨_,_,rfl,_⟩:=h; rfl) (fun cdv A outer s H vs Q E hr h=>?_)
 obtain ⟨x0,x1,rfl,h⟩:=h
 have hu:=hr.units
 refine ⟨_,(zag (zan (zaf (zfZ T) (hr.mono (by decide)) rfl T.g_plus T.F_plus.kp T.b_plus .nil zaj (zaa (zaf (zd9 T) (hr.mono (by decide)) rfl T.g_times T.F_times.kp T.b_times .nil zaj (zaa (zam zah (pv 0) zac (fun _ _=>rfl)) (zaa (pv 1) zab))) (zaa (zam zah (pv 0) zac (fun _ _=>rfl)) zab))))),?_⟩
 clear hu
 try clear hgd
 try dsimp only [za8,zaQ]
 rw [show start ["push","x"] [x0,x1] = [some x0,some x1] from rfl]
 obtain ⟨f,g,x,hp,hx,bf,bg,bx,q⟩:=h
 wtm_at "gg"
 rename_i hz
 exact q _ _ (zai.trans (by assumption) (by assumption)) hz
theorem zn5 {m : Nat} {xs : List Rat} (h : Cm m xs) (i j : Nat) : Bdr (m + 2) (xs.getD i 0 + (1 - xs.getD j 0)):=by
 obtain ⟨B,h0,h1,h2⟩:=h
 have key : ∀ i,∃ t : Int,xs.getD i 0 = Rat.divInt t B /\ Bd m t:=fun i=>by
   rcases Nat.lt_or_ge i xs.length with q | q
   . rw [List.getD_eq_getElem?_getD,List.getElem?_eq_getElem q]
     exact h2 _ (List.getElem_mem q)
   . rw [List.getD_eq_getElem?_getD,List.getElem?_eq_none q]
     exact ⟨0,by simp,⟨by simp; exact Nat.two_pow_pos m⟩⟩
 obtain ⟨t,et,bt⟩:=key i
 obtain ⟨z,ez,bz⟩:=key j
 have e2 : Rat.divInt t B + (1 - Rat.divInt z B) = Rat.divInt (t + B - z) B:=by
   symm
   refine zbc (by omega) ?_
   have q1:=zap t (show B ≠ 0 by omega)
   have q2:=zap z (show B ≠ 0 by omega)
   have q3 : ((t + B - z : Int) : Rat) = (t : Rat) + (B : Rat) - (z : Rat):=by push_cast; rfl
   rw [q3,<- q1,<- q2]
   grind
 rw [et,ez,e2]
 exact Bdr.divInt (by omega) (((bt.add h1).sub bz).mono (by omega)) (h1.mono (by omega))
def zea (K : PySem.W.Frag) : Sp:=fun vs H Q _=>∃ x0 x1 x2 x3,vs = [x0,x1,x2,x3] /\ ∃ (a b : Rat) (n i : Int) (xs : List Rat) (m : Nat),x1 = .int n /\ x3 = .int i /\ Is K H x0 (R a b) /\ Is K H x2 (LN xs) /\ Bdr 10 a /\ Bdr 10 b /\ 0 <= n /\ n <= 64 /\ 0 <= i /\ i < xs.length /\ xs.length <= 100 /\ Cm m xs /\ m <= 8000 /\
 ∀ l H' us,H l = none -> zai H H' -> H' l = some (.lst us) -> IsAll K H' us ((zbI a b n.toNat xs i.toNat).map N) -> Q (.ref l) H'
theorem zgw {K : PySem.W.Frag} {H : Hp} {Q : VK} {E : XK} {a b : Rat} {n i : Int} {xs : List Rat} {m : Nat} {v w : V} (h1 : Is K H v (R a b)) (h2 : Is K H w (LN xs)) (b1 : Bdr 10 a) (b2 : Bdr 10 b) (h0 : 0 <= n) (h64 : n <= 64) (i0 : 0 <= i) (i1 : i < xs.length) (hl : xs.length <= 100) (hm : Cm m xs) (hm2 : m <= 8000)
   (q : ∀ l H' us,H l = none -> zai H H' -> H' l = some (.lst us) -> IsAll K H' us ((zbI a b n.toNat xs i.toNat).map N) -> Q (.ref l) H') : zea K [v,.int n,w,.int i] H Q E:=⟨_,_,_,_,rfl,a,b,n,i,xs,m,rfl,rfl,h1,h2,b1,b2,h0,h64,i0,i1,hl,hm,hm2,q⟩
set_option maxHeartbeats 4000000 in
theorem zgg (T : Txt K mg a) : zbd P w K mg base CX0 4 a.phases_behind a.fd_phases_behind ["rule","size","phases","turn"] (zea K):=by
 refine T.F_phases_behind.ok zcf (fun vs H Q E h=>by obtain ⟨_,_,_,_,rfl,_⟩:=h; rfl) (fun cdv A outer s H vs Q E hr h=>?_)
 obtain ⟨x0,x1,x2,x3,rfl,h⟩:=h
 have hu:=hr.units
 refine ⟨_,(zad (zak (i:=4) zcf.nd rfl (Or.inr rfl) (zaf (zgd T) (hr.mono (by decide)) rfl T.g_minus T.F_minus.kp T.b_minus .nil zaj (zaa (zaM (v:=.ref a.k_ONE) rfl T.c_ONE rfl) (zaa (zam zah (pv 2) (pv 3) (fun _ _=>rfl)) zab))))
     (zad (zak (i:=5) zcf.nd rfl (Or.inr rfl) (zaf (zd4 T) (hr.mono (by decide)) rfl T.g_pushes T.F_pushes.kp T.b_pushes .nil zaj (zaa (pv 0) (zaa (pv 1) zab))))
     (zad (zfE (i:=6) zcf.nd rfl (Or.inl rfl) rfl (zbG.by (N':=["phase","push","wait"]) (src:=[none,some 5,some 4]) rfl (show zbz _ (zae zbj).names ["rule","size","phases","turn","wait","push","told"] ["phase","push","wait"] [none,some 5,some 4] = true from by decide +kernel)) (zfN (pv 2)) (fun _ _ _ _ _=>(zaA (i:=0) (show (["phase","push","wait"] : List Str).Nodup from by decide) rfl (Or.inl rfl))) (fun _ _ _ _ _=>zb5) (fun _ _ _ _ _=>(zaf (zje (K:=K) (mg:=mg) (a:=a) T) (hr.mono (by decide)) rfl T.g_pushed_by T.F_pushed_by.kp T.b_pushed_by .nil zaj (zaa (pv 1) (zaa (zaf (zfZ (K:=K) (mg:=mg) (a:=a) T) (hr.mono (by decide)) rfl T.g_plus T.F_plus.kp T.b_plus .nil zaj (zaa (pv 0) (zaa (pv 2) zab))) zab)))))
     (zad (zfy (zaM (v:=.ref a.k_NOUGHT) rfl T.c_NOUGHT rfl) (zhj (pv 6) (pv 3) zeF))
     (zag (zan (pv 6))))))),?_⟩
 clear hu
 try clear hgd
 try dsimp only [za8,zaQ]
 rw [show start ["rule","size","phases","turn","wait","push","told"] [x0,x1,x2,x3] = [some x0,some x1,some x2,some x3,none,none,none] from rfl]
 obtain ⟨a',b',n,i,xs,m,rfl,rfl,hr',hx,ba,bb,h0,h64,i0,i1,hl,hm,hm2,q⟩:=h
 have bi : Bdr 8000 (xs.getD i.toNat 0):=(hm.get _).mono hm2
 have bw : Bdr 8002 (1 - xs.getD i.toNat 0):=(Bdr.one.sub bi).mono (by decide)
 have bf : Bdr 700 (a' ^ n.toNat):=(ba.pow n.toNat).mono (by omega)
 have bg : Bdr 1500 (shf a' b' n.toNat):=(ba.shf bb n.toNat).mono (by omega)
 wtm_at "gg"
 refine zf0 hx i0 i1 (fun v1 iv1=>?_)
 wtm_at "gg"
 rename_i v2 H2 S2 iv2
 refine zgz (hr'.by S2) ba bb h0 h64 (fun v3 H3 S3 iv3=>?_)
 have T3:=S2.trans S3
 have iv2':=iv2.by S3
 have hx3:=hx.by T3
 clear iv1 iv2 S2 S3 hx hr'
 wtm_at "gg"
 obtain ⟨lx,vs,rfl,hs,t⟩:=zbp.mp hx3
 refine zhd hs (o0:=none) (tl:=[some v3,some v2]) rfl (fun j v H=>Is K H v (N ((xs.map fun x=>push a' b' n.toNat (x + (1 - xs.getD i.toNat 0))).getD j 0))) ?_ ?_
 . rintro D j x ys o H1 hx' inv
   obtain ⟨hj,ix⟩:=zdc t hx'
   have ix1:=ix.by inv.same
   have jv2:=iv2'.by inv.same
   have jv3:=iv3.by inv.same
   have bx : Bdr 8000 (xs.getD j 0):=(hm.get j).mono hm2
   wtm_at "gg"
   rename_i v4 H4 S4 iv4
   refine zjO (jv3.by S4) iv4 bf bg ((zn5 hm j i.toNat).mono (by omega)) (fun v5 H5 S5 iv5=>?_)
   exact zb7 inv (by omega) zcN ⟨_,rfl⟩ (S4.trans S5) (by rw [ziO hj,zdj]; exact iv5)
 . rintro D ys H4 hn S4 e4 hl4 hr4
   have hvl:=t.length
   rw [List.length_map] at hvl
   have hyl : ys.length = xs.length:=by omega
   clear hs t hx3 iv2' iv3
   wtm_at "gg"
   refine zg9 (j:=i.toNat) e4 (by unfold ixN; rw [if_pos i0,if_pos (by omega)]) (fun H5 E5 e5=>?_)
   wtm_at "gg"
   have hD:=zcM T3 hn
   refine q D H5 _ hD ((T3.trans S4).grow hD E5) e5 (zc6 (by rw [List.length_set,zgR]; exact hyl) fun j v hv=>?_)
   rw [List.getElem?_set] at hv
   by_cases hij : i.toNat = j
   . subst hij
     rw [if_pos rfl,if_pos (by omega)] at hv
     cases hv
     rw [zbQ _ _ _ _ _ _ (by omega),if_pos rfl]
     exact zda 0 (T.t_NOUGHT _) rfl rfl
   . rw [if_neg hij] at hv
     have hj : j < xs.length:=by
       rcases Nat.lt_or_ge j ys.length with z | z
       . omega
       . rw [List.getElem?_eq_none z] at hv; cases hv
     have hz:=hr4 j v hv
     rw [ziO hj] at hz
     rw [zbQ _ _ _ _ _ _ hj,if_neg (Ne.symm hij)]
     exact hz.byN (E5.keep e4)
structure za1 (a b : Rat) (ns : List Int) (xs : List Rat) : Prop where
 ba : Bdr 10 a
 bb : Bdr 10 b
 n0 : ∀ n ∈ ns,0 <= n /\ n <= 64
 len : ns.length = xs.length + 1
 few : ns.length <= 50
 cm : ∃ m,Cm m xs /\ m + 2 * ns.length + 21 * upTo ns ns.length <= 8000
theorem zme {ns : List Int} : ∀ {k j : Nat},k <= j -> j <= ns.length -> upTo ns k <= upTo ns j:=by
 intro k j hk
 induction j with
 | zero => intro _; have : k = 0 := by omega
           subst this; exact Nat.le_refl _
 | succ j ih =>
   intro hj
   rcases Nat.lt_or_ge k (j + 1) with z | z
   . rw [ze0 (by omega)]
     have:=ih (by omega) (by omega)
     omega
   . have : k = j + 1:=by omega
     subst this; exact Nat.le_refl _
theorem za1.row {a b : Rat} {ns : List Int} {xs : List Rat} (h : za1 a b ns xs) {k : Nat} (hk : k <= ns.length) : ∃ m,Cm m (zaS a b ns (xs ++ [0]) k) /\ m <= 8000:=by
 obtain ⟨m,hm,hm2⟩:=h.cm
 refine ⟨_,(hm.snoc).rows h.ba h.bb k hk,?_⟩
 have:=zme (ns:=ns) hk (Nat.le_refl _)
 omega
def ze9 (a b : Rat) (ns : List Int) (xs : List Rat) : List (List Rat):=(List.range (ns.length + 1)).map (zaS a b ns (xs ++ [0]))
theorem zdN (a b : Rat) (ns : List Int) (xs : List Rat) : (ze9 a b ns xs).length = ns.length + 1:=by simp [ze9]
theorem zeJ {a b : Rat} {ns : List Int} {xs : List Rat} {k : Nat} (h : k <= ns.length) : (ze9 a b ns xs).getD k [] = zaS a b ns (xs ++ [0]) k:=by
 unfold ze9
 rw [List.getD_eq_getElem?_getD,List.getElem?_map,List.getElem?_range (by omega)]
 rfl
def ziE (K : PySem.W.Frag) : Sp:=fun vs H Q _=>∃ x0 x1 x2,vs = [x0,x1,x2] /\ ∃ (a b : Rat) (ns : List Int) (xs : List Rat),Is K H x0 (R a b) /\ Is K H x1 (TZ ns) /\ Is K H x2 (TN xs) /\ za1 a b ns xs /\ ∀ l H',zai H H' -> Is K H' (.ref l) (LL (ze9 a b ns xs)) -> Q (.ref l) H'
theorem ziI {K : PySem.W.Frag} {H : Hp} {Q : VK} {E : XK} {a b : Rat} {ns : List Int} {xs : List Rat} {v w u : V} (h1 : Is K H v (R a b)) (h2 : Is K H w (TZ ns)) (h3 : Is K H u (TN xs)) (ok : za1 a b ns xs) (q : ∀ l H',zai H H' -> Is K H' (.ref l) (LL (ze9 a b ns xs)) -> Q (.ref l) H') : ziE K [v,w,u] H Q E:=⟨_,_,_,rfl,a,b,ns,xs,h1,h2,h3,ok,q⟩
set_option maxHeartbeats 4000000 in
theorem ziy (T : Txt K mg a) : zbd P w K mg base CX0 5 a.stands a.fd_stands ["rule","sizes","places"] (ziE K):=by
 refine T.F_stands.ok zeY (fun vs H Q E h=>by obtain ⟨_,_,_,rfl,_⟩:=h; rfl) (fun cdv A outer s H vs Q E hr h=>?_)
 obtain ⟨x0,x1,x2,rfl,h⟩:=h
 have hu:=hr.units
 refine ⟨_,(zad (zak (i:=3) zeY.nd rfl (Or.inl rfl) (za2 (zaa (zal zau (za0 (show zaP _ (.type "list") (zdI K) from zeo) rfl T.z_list zha (zaa (pv 2) zab)) (za2 (zaa (zaM (v:=.ref a.k_NOUGHT) rfl T.c_NOUGHT rfl) zab))) zab)))
     (zad (zc8 PassesOwn.never rfl (znS rfl T.z_enumerate (zaa (pv 1) zab)) (zeS (n:=2) rfl (za7 (zaA (i:=4) zeY.nd rfl (Or.inl rfl)) (za7 (zaA (i:=5) zeY.nd rfl (Or.inl rfl)) zdm))) (zag (zev (zhA PySem.F.plainAttrs_list PySem.F.slot_list_append PySem.F.type_list_append zcx (pv 3) (zaa (zaf (zgg T) (hr.mono (by decide)) rfl T.g_phases_behind T.F_phases_behind.kp T.b_phases_behind .nil zaj (zaa (pv 0) (zaa (pv 5) (zaa (zam zah (pv 3) (pv 4) (fun _ _=>rfl)) (zaa (pv 4) zab))))) zab)))))
     (zag (zan (pv 3))))),?_⟩
 clear hu
 try clear hgd
 try dsimp only [za8,zaQ]
 rw [show start ["rule","sizes","places","told","turn","size"] [x0,x1,x2] = [some x0,some x1,some x2,none,none,none] from rfl]
 obtain ⟨a',b',ns,xs,hr',hn',hp',ok,q⟩:=h
 have hlen:=ok.len
 have hfew:=ok.few
 wtm_at "gg"
 refine zgs hp' (fun l1 H1 us hl1 S1 e1 t1=>?_)
 have hul:=t1.length
 rw [List.length_map] at hul
 wtm_at "gg"
 refine zcm (by simp) (fun l2 H2 hl2 S2 e2=>?_)
 refine zfV (S2 _ _ e1) e2 (Nat.le_of_lt (zcv (by simp; omega))) (fun l3 H3 hl3 S3 e3=>?_)
 wtm_at "gg"
 refine zcm (by simp) (fun lt H4 hlt S4 e4=>?_)
 have T4 : zai H H4:=S1.trans (S2.trans (S3.trans S4))
 have e3':=S4 _ _ e3
 have ne43 : l3 ≠ lt:=fun z=>by subst z; rw [e3] at hlt; cases hlt
 have t3 : IsAll K H4 (us ++ [V.ref a.k_NOUGHT]) ((xs ++ [0]).map N):=by
   rw [List.map_append]
   exact (IsAll.same (S2.trans (S3.trans S4)) _ _ t1).append (.cons (zda 0 (T.t_NOUGHT _) rfl rfl) .nil)
 have hD:=zcM (S1.trans (S2.trans S3)) hlt
 clear hl1 hl2 hl3 S1 S2 S3 S4 e1 e2 e3 t1 hlt
 wtm_at "gg"
 obtain ⟨an,rfl,hsn⟩:=zkc.mp hn'
 refine zmE (T4.sqT hsn) (fun k σ H'=>∃ o1 o2 vs,σ = [some x0,some (.ref an),some x2,some (.ref lt),o1,o2] /\ zai H H' /\ H' lt = some (.lst vs) /\ vs.length = k + 1 /\ ∀ j v,vs[j]? = some v -> ∃ lj ws,v = .ref lj /\ lj ≠ lt /\ H' lj = some (.lst ws) /\ IsAll K H' ws ((zaS a' b' ns (xs ++ [0]) j).map N))
   ⟨_,_,_,rfl,T4,e4,rfl,fun j v hv=>?_⟩ (fun k σ H' _ ⟨_,_,_,_,s,_⟩=>s.sqT hsn) ?_ ?_
 . match j,hv with
   | 0,e=>cases Option.some.inj e; exact ⟨l3,_,rfl,ne43,e3',t3⟩
   | j + 1,e=>simp at e
 . rintro k x σ H5 t H6 hx ⟨o1,o2,vs,rfl,S5,e5,hl5,hr5⟩ ht S6 e6
   have hk : k < ns.length:=by
     rcases Nat.lt_or_ge k ns.length with z | z
     . exact z
     . rw [List.getElem?_eq_none (by simpa using z)] at hx; cases hx
   have hxv : x = .int (ns.getD k 0):=by
     rw [List.getElem?_map,List.getElem?_eq_getElem hk] at hx
     rw [List.getD_eq_getElem?_getD,List.getElem?_eq_getElem hk]
     exact (Option.some.inj hx).symm
   subst hxv
   have hnk:=ok.n0 (ns.getD k 0) (by rw [List.getD_eq_getElem?_getD,List.getElem?_eq_getElem hk]; exact List.getElem_mem hk)
   refine ze8 (.of e6) rfl ?_
   wtm_at "gg"
   have e5':=S6 _ _ e5
   refine zfx (SqL.of e5') ?_
   wtm_at "gg"
   have hkv : ∃ v,vs[k]? = some v:=⟨vs[k]'(by omega),List.getElem?_eq_getElem (by omega)⟩
   obtain ⟨v,hv⟩:=hkv
   obtain ⟨lk,ws,rfl,nek,ek,tk⟩:=hr5 k v hv
   refine zeN (SqL.of e5') (zdM hv) ?_
   wtm_at "gg"
   obtain ⟨m,hm,hm2⟩:=ok.row (k:=k) (by omega)
   have hrl:=zbs a' b' ns (xs ++ [0]) k
   rw [List.length_append] at hrl
   have T6:=S5.trans S6
   refine zgw (hr'.by T6) (zcn (S6 _ _ ek) (IsAll.same S6 _ _ tk)) ok.ba ok.bb hnk.1 hnk.2 (by omega) (by rw [hrl]; simp; omega) (by rw [hrl]; simp; omega) hm hm2 (fun l7 H7 us7 hl7 S7 e7 t7=>?_)
   have e5'':=S7 _ _ e5'
   have ne7 : l7 ≠ lt:=fun z=>by subst z; rw [e5'] at hl7; cases hl7
   wtm_at "gg"
   refine zcX e5'' (by omega) (fun H8 E8 e8=>?_)
   have K8 : zaY H7 H8:=E8.keep e5''
   refine ⟨_,_,_,rfl,(T6.trans S7).grow hD E8,e8,by simp [hl5],fun j v hv=>?_⟩
   rcases Nat.lt_or_ge j vs.length with z | z
   . rw [List.getElem?_append_left z] at hv
     obtain ⟨lj,wj,rfl,nej,ej,tj⟩:=hr5 j v hv
     exact ⟨lj,wj,rfl,nej,E8 _ _ nej (S7 _ _ (S6 _ _ ej)),IsAll.keep (S6.keep.trans (S7.keep.trans K8)) _ _ (zbM _) tj⟩
   . have hj : j = vs.length:=by
       rcases Nat.lt_or_ge vs.length j with q | q
       . rw [List.getElem?_eq_none (by simp; omega)] at hv; cases hv
       . omega
     subst hj
     rw [List.getElem?_append_right (Nat.le_refl _),Nat.sub_self] at hv
     cases Option.some.inj hv
     rw [hl5]
     refine ⟨l7,us7,rfl,ne7,E8 _ _ ne7 e7,IsAll.keep K8 _ _ (zbM _) ?_⟩
     rw [zaS]
     simpa using t7
 . rintro σ H5 ⟨o1,o2,vs,rfl,S5,e5,hl5,hr5⟩
   wtm_at "gg"
   refine q lt H5 S5 (zbp.mpr ⟨lt,vs,rfl,.of e5,zhr (by rw [hl5,zdN]; simp) fun j v hv=>?_⟩)
   have hj : j < vs.length:=by
     rcases Nat.lt_or_ge j vs.length with z | z
     . exact z
     . rw [List.getElem?_eq_none z] at hv; cases hv
   obtain ⟨lj,wj,rfl,nej,ej,tj⟩:=hr5 j v hv
   rw [zeJ (by simp at hl5; omega)]
   exact zcn ej tj
def zaJ (a b : Rat) (ns : List Int) (xs : List Rat) : List Rat:=(zaS a b ns (xs ++ [0]) ns.length).dropLast
def zeB (K : PySem.W.Frag) : Sp:=fun vs H Q _=>∃ x0 x1 x2,vs = [x0,x1,x2] /\ ∃ (a b : Rat) (ns : List Int) (xs : List Rat),Is K H x0 (R a b) /\ Is K H x1 (TZ ns) /\ Is K H x2 (TN xs) /\ za1 a b ns xs /\ ∀ v H',zai H H' -> Is K H' v (TN (zaJ a b ns xs)) -> Q v H'
theorem zgY {K : PySem.W.Frag} {H : Hp} {Q : VK} {E : XK} {a b : Rat} {ns : List Int} {xs : List Rat} {v w u : V} (h1 : Is K H v (R a b)) (h2 : Is K H w (TZ ns)) (h3 : Is K H u (TN xs)) (ok : za1 a b ns xs) (q : ∀ v H',zai H H' -> Is K H' v (TN (zaJ a b ns xs)) -> Q v H') : zeB K [v,w,u] H Q E:=⟨_,_,_,rfl,a,b,ns,xs,h1,h2,h3,ok,q⟩
set_option maxHeartbeats 4000000 in
theorem zgU (T : Txt K mg a) : zbd P w K mg base CX0 6 a.round_behind a.fd_round_behind ["rule","sizes","places"] (zeB K):=by
 refine T.F_round_behind.ok zgZ (fun vs H Q E h=>by obtain ⟨_,_,_,rfl,_⟩:=h; rfl) (fun cdv A outer s H vs Q E hr h=>?_)
 obtain ⟨x0,x1,x2,rfl,h⟩:=h
 have hu:=hr.units
 refine ⟨_,(zag (zan (za0 (show zaP _ (.type "tuple") (zbl K) from za3) rfl T.z_tuple zbY (zaa (zc5 zgq (zam zah (zaf (ziy T) (hr.mono (by decide)) rfl T.g_stands T.F_stands.kp T.b_stands .nil zaj (zaa (pv 0) (zaa (pv 1) (zaa (pv 2) zab)))) (zfq zdV zac) (fun _ _=>rfl)) zdL (zdS (zfq zdV zac))) zab)))),?_⟩
 clear hu
 try clear hgd
 try dsimp only [za8,zaQ]
 rw [show start ["rule","sizes","places"] [x0,x1,x2] = [some x0,some x1,some x2] from rfl]
 obtain ⟨a',b',ns,xs,hr',hn',hp',ok,q⟩:=h
 wtm_at "gg"
 refine ziI hr' hn' hp' ok (fun l H1 S1 i1=>?_)
 wtm_at "gg"
 refine zgu i1 (by rw [zdN]; omega) (fun v2 i2=>?_)
 rw [zdN,Nat.add_sub_cancel,zeJ (Nat.le_refl _)] at i2
 wtm_at "gg"
 refine zhb i2 (fun l3 H3 ys hn3 S3 e3 t3=>?_)
 rw [zf8,<- List.map_dropLast] at t3
 wtm_at "gg"
 refine zbu (zcn e3 t3) (fun w H4 S4 i4=>?_)
 exact q w H4 (S1.trans (S3.trans S4)) i4
def zbN (a b : Rat) (ns : List Int) (xs : List Rat) : List Rat:=(List.range ns.length).map fun k=>(zaS a b ns (xs ++ [0]) (k + 1)).getD ((k + 1) % ns.length) 0
theorem zbF (a b : Rat) (ns : List Int) (xs : List Rat) : (zbN a b ns xs).length = ns.length:=by simp [zbN]
theorem zdv {a b : Rat} {ns : List Int} {xs : List Rat} {k : Nat} (h : k < ns.length) : (zbN a b ns xs).getD k 0 = (zaS a b ns (xs ++ [0]) (k + 1)).getD ((k + 1) % ns.length) 0:=by
 unfold zbN
 rw [List.getD_eq_getElem?_getD,List.getElem?_map,List.getElem?_range h]
 rfl
def zms (K : PySem.W.Frag) : Sp:=fun vs H Q _=>∃ x0 x1 x2,vs = [x0,x1,x2] /\ ∃ (a b : Rat) (ns : List Int) (xs : List Rat),Is K H x0 (R a b) /\ Is K H x1 (TZ ns) /\ Is K H x2 (TN xs) /\ za1 a b ns xs /\ ∀ v H',zai H H' -> Is K H' v (TN (zbN a b ns xs)) -> Q v H'
theorem zl3 {K : PySem.W.Frag} {H : Hp} {Q : VK} {E : XK} {a b : Rat} {ns : List Int} {xs : List Rat} {v w u : V} (h1 : Is K H v (R a b)) (h2 : Is K H w (TZ ns)) (h3 : Is K H u (TN xs)) (ok : za1 a b ns xs) (q : ∀ v H',zai H H' -> Is K H' v (TN (zbN a b ns xs)) -> Q v H') : zms K [v,w,u] H Q E:=⟨_,_,_,rfl,a,b,ns,xs,h1,h2,h3,ok,q⟩
set_option maxHeartbeats 4000000 in
theorem zl6 (T : Txt K mg a) : zbd P w K mg base CX0 6 a.tops a.fd_tops ["rule","sizes","places"] (zms K):=by
 refine T.F_tops.ok zjy (fun vs H Q E h=>by obtain ⟨_,_,_,rfl,_⟩:=h; rfl) (fun cdv A outer s H vs Q E hr h=>?_)
 obtain ⟨x0,x1,x2,rfl,h⟩:=h
 have hu:=hr.units
 refine ⟨_,(zad (zak (i:=3) zjy.nd rfl (Or.inr rfl) (zaf (ziy T) (hr.mono (by decide)) rfl T.g_stands T.F_stands.kp T.b_stands .nil zaj (zaa (pv 0) (zaa (pv 1) (zaa (pv 2) zab)))))
     (zad (zak (i:=4) zjy.nd rfl (Or.inr rfl) (zaE (show zaP _ (.builtin "len") (zgt K) from zcA) rfl T.z_len zeG (zaa (pv 1) zab)))
     (zag (zan (za0 (show zaP _ (.type "tuple") (zbl K) from za3) rfl T.z_tuple zbY (zaa (zcK rfl (zbG.by (N':=["turn","rows","count"]) (src:=[none,some 3,some 4]) rfl (show zbz _ (zae zfH).names ["rule","sizes","places","rows","count"] ["turn","rows","count"] [none,some 3,some 4] = true from by decide +kernel)) (zcZ rfl T.z_range (zaa (pv 4) zab)) (fun _ _ _ _ _=>(zaA (i:=0) (show (["turn","rows","count"] : List Str).Nodup from by decide) rfl (Or.inl rfl))) (fun _ _ _ _ _=>zb5) (fun _ _ _ _ _=>(zam (show IxR _ (rIx K) from zah) (zam (show IxR _ (rIx K) from zah) (pv 1) (zal zau (pv 0) zac) (fun _ _=>rfl)) (zal zcW (zal zau (pv 0) zac) (pv 2)) (fun _ _=>rfl)))) zab)))))),?_⟩
 clear hu
 try clear hgd
 try dsimp only [za8,zaQ]
 rw [show start ["rule","sizes","places","rows","count"] [x0,x1,x2] = [some x0,some x1,some x2,none,none] from rfl]
 obtain ⟨a',b',ns,xs,hr',hn',hp',ok,q⟩:=h
 have hlen:=ok.len
 have hfew:=ok.few
 wtm_at "gg"
 refine ziI hr' hn' hp' ok (fun l H1 S1 i1=>?_)
 wtm_at "gg"
 refine zd6 (hn'.by S1) ?_
 wtm_at "gg"
 refine zp4 (n:=(ns.length : Int)) (by omega) (by omega) (o0:=none) (tl:=[some (.ref l),some (.int (ns.length : Int))]) rfl (fun i v H=>Is K H v (N ((zbN a' b' ns xs).getD i 0))) ?_ ?_
 . rintro D i ys o H2 hi inv
   have hi' : i < ns.length:=by simpa using hi
   have i2:=i1.by inv.same
   have hn0 : (0 : Int) < (ns.length : Int):=by omega
   wtm_at "gg"
   refine zpU i2 (by omega) (by rw [zdN]; omega) (fun v3 i3=>?_)
   rw [show ((i : Int) + 1).toNat = i + 1 by omega,zeJ (by omega)] at i3
   wtm_at "gg"
   have e : ((i : Int) + 1) % (ns.length : Int) = (((i + 1) % ns.length : Nat) : Int):=by push_cast; rfl
   have hm : (i + 1) % ns.length < ns.length:=Nat.mod_lt _ (by omega)
   rw [e]
   refine zf0 i3 (by omega) (by rw [zbs,List.length_append]; simp; omega) (fun v4 i4=>?_)
   rw [Int.toNat_natCast,<- zdv hi'] at i4
   exact zb7 inv (by omega) zcN ⟨_,rfl⟩ (zai.refl _) i4
 . rintro D ys H2 hn S2 e2 hl2 hr2
   wtm_at "gg"
   refine zbu (zcn e2 (zc6 (by rw [hl2,zbF]; simp) hr2)) (fun w H3 S3 i3=>?_)
   exact q w H3 (S1.trans (S2.trans S3)) i3
theorem ze7 {bs : List Bool} {zs : List V} (hl : zs.length = bs.length) (h : ∀ j z,zs[j]? = some z -> z = V.bl (bs.getD j true)) : zs = bs.map V.bl:=by
 refine List.ext_getElem (by rw [List.length_map]; exact hl) fun i h1 h2=>?_
 rw [h i _ (List.getElem?_eq_getElem h1),List.getElem_map,List.getD_eq_getElem?_getD,List.getElem?_eq_getElem (by omega)]
 rfl
def zbg (xs : List Rat) : List Rat:=[1] ++ xs ++ [0]
theorem zdP (xs : List Rat) : (zbg xs).length = xs.length + 2:=by simp [zbg]
def zgr (xs : List Rat) : List Bool:=(List.range (xs.length + 1)).map fun i=>decide ((zbg xs).getD (i + 1) 0 < (zbg xs).getD i 0)
def zhl (ts : List Rat) : List Bool:=ts.map fun x=>decide (x < 1)
def zc0 (a b : Rat) (ns : List Int) (xs : List Rat) : Bool:=(zgr xs).all id && (zhl (zbN a b ns xs)).all id
theorem zlz {xs : List Rat} {i : Nat} (h : i < xs.length + 1) : (zgr xs).getD i true = decide ((zbg xs).getD (i + 1) 0 < (zbg xs).getD i 0):=by
 unfold zgr
 rw [List.getD_eq_getElem?_getD,List.getElem?_map,List.getElem?_range h]
 rfl
theorem zmY {ts : List Rat} {i : Nat} (h : i < ts.length) : (zhl ts).getD i true = decide (ts.getD i 0 < 1):=by
 unfold zhl
 rw [List.getD_eq_getElem?_getD,List.getElem?_map,List.getD_eq_getElem?_getD,List.getElem?_eq_getElem h]
 rfl
theorem zkf {m : Nat} {xs : List Rat} (h : Cm m xs) (i : Nat) : Bdr m ((zbg xs).getD i 0):=by
 unfold zbg
 rcases Nat.eq_zero_or_pos i with rfl | hi
 . exact Bdr.one.mono h.pos
 . obtain ⟨j,rfl⟩ : ∃ j,i = j + 1:=⟨i - 1,by omega⟩
   exact h.snoc.get j
theorem zkC {a b : Rat} {ns : List Int} {xs : List Rat} (ok : za1 a b ns xs) {i : Nat} (hi : i < ns.length) : Bdr 8000 ((zbN a b ns xs).getD i 0):=by
 rw [zdv hi]
 obtain ⟨m,hm,hm2⟩:=ok.row (k:=i + 1) (by omega)
 exact (hm.get _).mono hm2
def zho (K : PySem.W.Frag) : Sp:=fun vs H Q _=>∃ x0 x1 x2,vs = [x0,x1,x2] /\ ∃ (a b : Rat) (ns : List Int) (xs : List Rat),Is K H x0 (R a b) /\ Is K H x1 (TZ ns) /\ Is K H x2 (TN xs) /\ za1 a b ns xs /\ ∀ H',zai H H' -> Q (.bl (zc0 a b ns xs)) H'
theorem zfD {K : PySem.W.Frag} {H : Hp} {Q : VK} {E : XK} {a b : Rat} {ns : List Int} {xs : List Rat} {v w u : V} (h1 : Is K H v (R a b)) (h2 : Is K H w (TZ ns)) (h3 : Is K H u (TN xs)) (ok : za1 a b ns xs) (q : ∀ H',zai H H' -> Q (.bl (zc0 a b ns xs)) H') : zho K [v,w,u] H Q E:=⟨_,_,_,rfl,a,b,ns,xs,h1,h2,h3,ok,q⟩
set_option maxHeartbeats 4000000 in
theorem zfA (T : Txt K mg a) : zbd P w K mg base CX0 7 a.is_free a.fd_is_free ["rule","sizes","places"] (zho K):=by
 refine T.F_is_free.ok zhn (fun vs H Q E h=>by obtain ⟨_,_,_,rfl,_⟩:=h; rfl) (fun cdv A outer s H vs Q E hr h=>?_)
 obtain ⟨x0,x1,x2,rfl,h⟩:=h
 have hu:=hr.units
 refine ⟨_,(zad (zak (i:=3) zhn.nd rfl (Or.inl rfl) (zal zau (zal zau (za2 (zaa (zaM (v:=.ref a.k_ONE) rfl T.c_ONE rfl) zab)) (za0 (show zaP _ (.type "list") (zdI K) from zeo) rfl T.z_list zha (zaa (pv 2) zab))) (za2 (zaa (zaM (v:=.ref a.k_NOUGHT) rfl T.c_NOUGHT rfl) zab))))
     (zad (za4 (zdz (zb3 (zaE (show zaP _ (.builtin "all") (zkV K) from zgD rfl) rfl T.z_all zlq (zaa (zcK rfl (zbG.by (N':=["upper","lower"]) (src:=[none,none]) rfl (show zbz _ (zae zcu).names ["rule","sizes","places","steps"] ["upper","lower"] [none,none] = true from by decide +kernel)) (zpO rfl T.z_zip (zaa (pv 3) (zaa (zc5 zgq (pv 3) (zdS zac) zdL) zab))) (fun _ _ _ _ _=>by exact (show PG _ _ (zij K 2 _) from zeS (n:=2) rfl (za7 (zaA (i:=0) (show (["upper","lower"] : List Str).Nodup from by decide) rfl (Or.inl rfl)) (za7 (zaA (i:=1) (show (["upper","lower"] : List Str).Nodup from by decide) rfl (Or.inl rfl)) zdm)))) (fun _ _ _ _ _=>zb5) (fun _ _ _ _ _=>(zaf (zew (K:=K) (mg:=mg) (a:=a) T) (hr.mono (by decide)) rfl T.g_less T.F_less.kp T.b_less .nil zaj (zaa (pv 1) (zaa (pv 0) zab))))) zab)))) (zag (zan zeQ)) zaF)
     (zag (zan (zaE (show zaP _ (.builtin "all") (zkV K) from zgD rfl) rfl T.z_all zlq (zaa (zcK rfl (zbG.by (N':=["top"]) (src:=[none]) rfl (show zbz _ (zae zcu).names ["rule","sizes","places","steps"] ["top"] [none] = true from by decide +kernel)) (zet (zaf (zl6 T) (hr.mono (by decide)) rfl T.g_tops T.F_tops.kp T.b_tops .nil zaj (zaa (pv 0) (zaa (pv 1) (zaa (pv 2) zab))))) (fun _ _ _ _ _=>(zaA (i:=0) (show (["top"] : List Str).Nodup from by decide) rfl (Or.inl rfl))) (fun _ _ _ _ _=>zb5) (fun _ _ _ _ _=>(zaf (zew (K:=K) (mg:=mg) (a:=a) T) (hr.mono (by decide)) rfl T.g_less T.F_less.kp T.b_less .nil zaj (zaa (pv 0) (zaa (zaM (v:=.ref a.k_ONE) rfl T.c_ONE rfl) zab))))) zab)))))),?_⟩
 clear hu
 try clear hgd
 try dsimp only [za8,zaQ]
 rw [show start ["rule","sizes","places","steps"] [x0,x1,x2] = [some x0,some x1,some x2,none] from rfl]
 obtain ⟨a',b',ns,xs,hr',hn',hp',ok,q⟩:=h
 have hlen:=ok.len
 have hfew:=ok.few
 obtain ⟨m,hcm,hcm2⟩:=ok.cm
 wtm_at "gg"
 refine zcm (by simp) (fun l0 H1 n1 S1 e1=>?_)
 wtm_at "gg"
 refine zgs (hp'.by S1) (fun l1 H2 us n2 S2 e2 t2=>?_)
 have hul:=t2.length
 rw [List.length_map] at hul
 refine zfV (S2 _ _ e1) e2 (Nat.le_of_lt (zcv (by simp; omega))) (fun l2 H3 n3 S3 e3=>?_)
 wtm_at "gg"
 refine zcm (by simp) (fun l3 H4 n4 S4 e4=>?_)
 refine zfV (S4 _ _ e3) e4 (Nat.le_of_lt (zcv (by simp; omega))) (fun l5 H5 n5 S5 e5=>?_)
 have T5 : zai H H5:=S1.trans (S2.trans (S3.trans (S4.trans S5)))
 have t5 : IsAll K H5 ([V.ref a.k_ONE] ++ us ++ [V.ref a.k_NOUGHT]) ((zbg xs).map N):=by
   unfold zbg
   rw [List.map_append,List.map_append]
   exact (IsAll.append (.cons (zda 1 (T.t_ONE _) rfl rfl) .nil) (IsAll.same (S3.trans (S4.trans S5)) _ _ t2)).append (.cons (zda 0 (T.t_NOUGHT _) rfl rfl) .nil)
 have ir5:=hr'.by T5
 have in5:=hn'.by T5
 have ip5:=hp'.by T5
 clear n1 n2 n3 n4 n5 S1 S2 S3 S4 S5 e1 e2 e3 e4 t2 hr' hn' hp'
 generalize [V.ref a.k_ONE] ++ us ++ [V.ref a.k_NOUGHT] = ws at e5 t5
 have hws:=t5.length
 rw [List.length_map,zdP] at hws
 wtm_at "gg"
 refine zhb (zcn e5 t5) (fun l6 H6 ys n6 S6 e6 t6=>?_)
 rw [show (1 : Int) = ((1 : Nat) : Int) from rfl,znX _ _ (by rw [List.length_map,zdP]; omega),<- List.map_drop] at t6
 have hys:=t6.length
 rw [List.length_map,List.length_drop,zdP] at hys
 have e56:=S6 _ _ e5
 have t56:=IsAll.same S6 _ _ t5
 have T6:=T5.trans S6
 have ir6:=ir5.by S6
 have in6:=in5.by S6
 have ip6:=ip5.by S6
 clear ir5 in5 ip5 T5 S6 e5 t5 n6
 wtm_at "gg"
 refine zoY (t:=false) (u:=false) (SqL.of e56) (SqL.of e6) (by omega) (o0:=none) (o0':=none) (tl:=[]) rfl (fun i v H=>v = V.bl ((zgr xs).getD i true)) (fun _ _ _ _ _ h=>h) ?_ ?_
 . rintro D i x y zs o1 o2 H7 c hx hy inv e7
   obtain ⟨hi,ix⟩:=zdc t56 hx
   obtain ⟨hj,iy⟩:=zdc t6 hy
   rw [List.length_drop,zdP] at hj
   have ed : ((zbg xs).drop 1).getD i 0 = (zbg xs).getD (i + 1) 0:=by
     rw [List.getD_eq_getElem?_getD,List.getElem?_drop,List.getD_eq_getElem?_getD,Nat.add_comm]
   rw [ed] at iy
   have S7:=inv.2.2.1
   have b1 : Bdr 8000 ((zbg xs).getD i 0):=(zkf hcm i).mono (by omega)
   have b2 : Bdr 8000 ((zbg xs).getD (i + 1) 0):=(zkf hcm (i + 1)).mono (by omega)
   refine zhN (ze8 (.of e7) rfl ?_)
   have ix7:=ix.by S7
   have iy7:=iy.by S7
   wtm_at "gg"
   exact ziG inv (by omega) (fun _ _ _ _ _ h=>h) ⟨_,_,rfl⟩ (zai.refl _) (by rw [zlz (by omega)])
 . rintro D zs H7 hn S7 e7 hl7 hr7
   have hz:=ze7 (bs:=zgr xs) (by unfold zgr; rw [List.length_map,List.length_range]; omega) hr7
   rw [hz] at e7
   wtm_at "gg"
   refine zi7 (.of e7) ?_
   wtm_at "gg"
   . rename_i z
     have ef : zc0 a' b' ns xs = false:=by unfold zc0; rw [z]; rfl
     rw [<- ef]
     exact q _ (T6.trans S7)
   . rename_i z
     have ef : zc0 a' b' ns xs = (zhl (zbN a' b' ns xs)).all id:=by unfold zc0; rw [z]; rfl
     rw [ef] at q
     refine zl3 (ir6.by S7) (in6.by S7) (ip6.by S7) ok (fun v8 H8 S8 i8=>?_)
     have T8:=T6.trans (S7.trans S8)
     obtain ⟨a8,us8,rfl,hs8,t8⟩:=zaT.mp i8
     have hl8:=t8.length
     rw [List.length_map,zbF] at hl8
     refine zeZ hs8 (o0:=none) (tl:=[]) rfl (fun i v H=>v = V.bl ((zhl (zbN a' b' ns xs)).getD i true)) ?_ ?_
     . rintro D i x ys' o H9 hx inv
       obtain ⟨hi,ix⟩:=zdc t8 hx
       rw [zbF] at hi
       have ix9:=ix.by inv.same
       have b1 : Bdr 8000 ((zbN a' b' ns xs).getD i 0):=zkC ok hi
       have b2 : Bdr 8000 1:=Bdr.one.mono (by decide)
       wtm_at "gg"
       exact zb7 inv (by omega) (fun _ _ _ _ _ h=>h) ⟨_,rfl⟩ (zai.refl _) (by rw [zmY (by rw [zbF]; exact hi)])
     . rintro D ys' H9 hn9 S9 e9 hl9 hr9
       have hz':=ze7 (bs:=zhl (zbN a' b' ns xs)) (by unfold zhl; rw [List.length_map,zbF]; omega) hr9
       rw [hz'] at e9
       wtm_at "gg"
       refine zi7 (.of e9) ?_
       exact q _ (T8.trans S9)
def zbx (n : Nat) : List Rat:=List.replicate n 0
theorem ziH (n i : Nat) : (zbx n).getD i 0 = 0:=by
 unfold zbx
 rw [List.getD_eq_getElem?_getD,List.getElem?_replicate]
 split <;> rfl
theorem zeM (n : Nat) : Cm 1 (zbx n):=by
 refine ⟨1,by decide,⟨by decide⟩,fun x hx=>⟨0,?_,⟨by decide⟩⟩⟩
 rw [List.eq_of_mem_replicate hx]
 rfl
def zfQ (K : PySem.W.Frag) : Sp:=fun vs H Q _=>∃ x0 x1,vs = [x0,x1] /\ ∃ (a b : Rat) (ns : List Int),Is K H x0 (R a b) /\ Is K H x1 (TZ ns) /\ za1 a b ns (zbx (ns.length - 1)) /\ 0 <= ns.sum /\ ns.sum <= 64 /\ ∀ v H',zai H H' -> Is K H' v (.tuple [N (a ^ ns.sum.toNat),TN (zaJ a b ns (zbx (ns.length - 1)))]) -> Q v H'
theorem zcd {K : PySem.W.Frag} {H : Hp} {Q : VK} {E : XK} {a b : Rat} {ns : List Int} {v w : V} (h1 : Is K H v (R a b)) (h2 : Is K H w (TZ ns)) (ok : za1 a b ns (zbx (ns.length - 1))) (h0 : 0 <= ns.sum) (h64 : ns.sum <= 64) (q : ∀ v H',zai H H' -> Is K H' v (.tuple [N (a ^ ns.sum.toNat),TN (zaJ a b ns (zbx (ns.length - 1)))]) -> Q v H') : zfQ K [v,w] H Q E:=⟨_,_,rfl,a,b,ns,h1,h2,ok,h0,h64,q⟩
set_option maxHeartbeats 4000000 in
theorem zci (T : Txt K mg a) : zbd P w K mg base CX0 7 a.round_map a.fd_round_map ["rule","sizes"] (zfQ K):=by
 refine T.F_round_map.ok zef (fun vs H Q E h=>by obtain ⟨_,_,rfl,_⟩:=h; rfl) (fun cdv A outer s H vs Q E hr h=>?_)
 obtain ⟨x0,x1,rfl,h⟩:=h
 have hu:=hr.units
 refine ⟨_,(zad (zak (i:=2) zef.nd rfl (Or.inl rfl) (zam zah (zaf (zd4 T) (hr.mono (by decide)) rfl T.g_pushes T.F_pushes.kp T.b_pushes .nil zaj (zaa (pv 0) (zaa (zaE (show zaP _ (.builtin "sum") (zmg K) from ziC rfl) rfl T.z_sum zof (zaa (pv 1) zab)) zab))) zac (fun _ _=>rfl)))
     (zad (zak (i:=3) zef.nd rfl (Or.inl rfl) (za0 (show zaP _ (.type "tuple") (zbl K) from za3) rfl T.z_tuple zbY (zaa (zcK rfl (zbG.by (N':=["size"]) (src:=[none]) rfl (show zbz _ (zae zb8).names ["rule","sizes","factor","noughts"] ["size"] [none] = true from by decide +kernel)) (zet (zc5 zgq (pv 1) (zdS zac) zdL)) (fun _ _ _ _ _=>(zaA (i:=0) (show (["size"] : List Str).Nodup from by decide) rfl (Or.inl rfl))) (fun _ _ _ _ _=>zb5) (fun _ _ _ _ _=>(zaM (v:=.ref a.k_NOUGHT) rfl T.c_NOUGHT rfl))) zab)))
     (zag (zan (zay (zaa (pv 2) (zaa (zaf (zgU T) (hr.mono (by decide)) rfl T.g_round_behind T.F_round_behind.kp T.b_round_behind .nil zaj (zaa (pv 0) (zaa (pv 1) (zaa (pv 3) zab)))) zab))))))),?_⟩
 clear hu
 try clear hgd
 try dsimp only [za8,zaQ]
 rw [show start ["rule","sizes","factor","noughts"] [x0,x1] = [some x0,some x1,none,none] from rfl]
 obtain ⟨a',b',ns,hr',hn',ok,h0,h64,q⟩:=h
 have hlen:=ok.len
 have hfew:=ok.few
 wtm_at "gg"
 refine zjV hn' ?_
 wtm_at "gg"
 refine zgz hr' ok.ba ok.bb h0 h64 (fun v1 H1 S1 i1=>?_)
 wtm_at "gg"
 rename_i v2 i2
 have hn1 : Is K H1 x1 (.tuple (ns.map PyData.int)):=hn'.by S1
 refine zmd hn1 ?_ (fun v3 H3 S3 i3=>?_)
 . rintro ⟨e,_⟩
   have e' : min 1 (ns.map PyData.int).length = 0:=e
   rw [List.length_map] at e'
   omega
 rw [ziY] at i3
 obtain ⟨a3,vs3,rfl,hs3,t3⟩:=zaT.mp i3
 have hl3:=t3.length
 rw [List.length_tail,List.length_map] at hl3
 have hzl : (zbx (ns.length - 1)).length = ns.length - 1:=List.length_replicate ..
 wtm_at "gg"
 refine zeZ hs3 (o0:=none) (tl:=[]) rfl (fun i v H=>Is K H v (N ((zbx (ns.length - 1)).getD i 0))) ?_ ?_
 . rintro D i x ys o H4 hx inv
   have hi : i < vs3.length:=by
     rcases Nat.lt_or_ge i vs3.length with z | z
     . exact z
     . rw [List.getElem?_eq_none z] at hx; cases hx
   wtm_at "gg"
   exact zb7 inv (by omega) zcN ⟨_,rfl⟩ (zai.refl _) (by rw [ziH]; exact zda 0 (T.t_NOUGHT _) rfl rfl)
 . rintro D ys H4 hn4 S4 e4 hl4 hr4
   wtm_at "gg"
   refine zbu (zcn (xs:=zbx (ns.length - 1)) e4 (zc6 (by omega) hr4)) (fun v5 H5 S5 i5=>?_)
   have T5 : zai H1 H5:=S3.trans (S4.trans S5)
   wtm_at "gg"
   refine zgY ((hr'.by S1).by T5) ((hn'.by S1).by T5) i5 ok (fun v6 H6 S6 i6=>?_)
   wtm_at "gg"
   exact zcp (by simp) (.cons (i2.by (T5.trans S6)) (.cons i6 .nil)) (fun v H' S h=>q v H' (S1.trans (T5.trans (S6.trans S))) h)
def zat (a b : Rat) (ns : List Int) : List Rat:=(zaJ a b ns (zbx (ns.length - 1))).map (fun s=>s / (1 - a ^ ns.sum.toNat))
theorem zdy {a b : Rat} {ns : List Int} {xs : List Rat} (h : ns.length = xs.length + 1) : (zaJ a b ns xs).length = xs.length:=by
 unfold zaJ
 rw [List.length_dropLast,zbs]
 simp
theorem zei {a b : Rat} {ns : List Int} {xs : List Rat} (h : ns.length = xs.length + 1) {i : Nat} (hi : i < xs.length) : (zaJ a b ns xs).getD i 0 = (zaS a b ns (xs ++ [0]) ns.length).getD i 0:=by
 unfold zaJ
 have hl : (zaS a b ns (xs ++ [0]) ns.length).length = xs.length + 1:=by rw [zbs]; simp
 rw [List.getD_eq_getElem?_getD,List.getD_eq_getElem?_getD,List.getElem?_dropLast,if_pos (by omega)]
theorem zj9 {xs : List Rat} {i : Nat} (h : i < xs.length) : (xs ++ [0]).getD i 0 = xs.getD i 0:=by
 rw [List.getD_eq_getElem?_getD,List.getD_eq_getElem?_getD,List.getElem?_append_left h]
theorem ze2 {xs : List Rat} : (xs ++ [0]).getD xs.length 0 = 0:=by
 rw [List.getD_eq_getElem?_getD,List.getElem?_append_right (Nat.le_refl _),Nat.sub_self]
 rfl
theorem ziu : ∀ {ns : List Int},(∀ n ∈ ns,0 <= n) -> ((ns.map Int.toNat).sum : Int) = ns.sum
 | [],_=>rfl
 | n :: ns,h=>by
   have h1:=ziu (ns:=ns) fun m hm=>h m (List.mem_cons_of_mem _ hm)
   have h2:=h n (List.mem_cons_self ..)
   rw [List.map_cons,List.sum_cons,List.sum_cons]
   omega
theorem zj6 {ns : List Int} (h : ∀ n ∈ ns,0 <= n) : upTo ns ns.length = ns.sum.toNat:=by
 have:=ziu h
 unfold GM.upTo
 rw [List.take_length]
 omega
theorem zfl {a b : Rat} {ns : List Int} {xs : List Rat} (h : ns.length = xs.length + 1) (hn : ∀ n ∈ ns,0 <= n) {i : Nat} (hi : i < xs.length) : (zaJ a b ns xs).getD i 0 = a ^ ns.sum.toNat * xs.getD i 0 + (zaJ a b ns (zbx (ns.length - 1))).getD i 0:=by
 have hz : (zbx (ns.length - 1)).length = xs.length:=by unfold zbx; rw [List.length_replicate]; omega
 have hu:=zj6 hn
 rw [zei h hi,zei (by omega) (by omega)]
 have hr:=zgp a b ns (xs ++ [0]) (zbx (ns.length - 1) ++ [0]) (by simp [hz]) (by simp [h]) xs.length (by simp) (by rw [ze2]; rw [<- hz,ze2]) ns.length (Nat.le_refl _) i (by simp; omega)
 rw [if_neg (by omega),show ns.length - 1 = xs.length by omega] at hr
 rw [show ns.length - 1 = xs.length by omega] at hz ⊢
 rw [ze2,zj9 hi,zj9 (by omega),ziH,hu] at hr
 have hl0 : (zbx xs.length ++ [0]).getD xs.length 0 = 0:=by
   have:=ze2 (xs:=zbx xs.length)
   rw [hz] at this
   exact this
 rw [hl0] at hr
 grind
theorem zbP {a b : Rat} {ns : List Int} (h : 1 <= ns.length) : (zat a b ns).length = ns.length - 1:=by
 unfold zat
 rw [List.length_map,zdy (by unfold zbx; rw [List.length_replicate]; omega)]
 unfold zbx
 rw [List.length_replicate]
theorem zc7 {a b : Rat} {ns : List Int} {i : Nat} (h : i < (zat a b ns).length) : (zat a b ns).getD i 0 = (zaJ a b ns (zbx (ns.length - 1))).getD i 0 / (1 - a ^ ns.sum.toNat):=by
 unfold zat at *
 rw [List.length_map] at h
 rw [List.getD_eq_getElem?_getD,List.getElem?_map,List.getD_eq_getElem?_getD,List.getElem?_eq_getElem h]; rfl
theorem zrC {m n : Nat} {xs : List Rat} {g : Rat} (h : Cm m xs) (bg : Bdr n g) (hg : g ≠ 0) : Cm (m + n) (xs.map (fun s=>s / g)):=by
 obtain ⟨B,h0,bB,hx⟩:=h
 have hgn:=zfJ hg
 have key : ∀ (t : Int),Rat.divInt t B / g = Rat.divInt (t * (g.den : Int)) (B * g.num):=by
   intro t
   conv=>lhs; rw [<- Rat.num_divInt_den g]
   rw [Rat.div_def,Rat.inv_divInt,Rat.divInt_mul_divInt]
 rcases Int.lt_or_gt_of_ne hgn with z | z
 . refine ⟨B * -g.num,Int.mul_pos h0 (by omega),bB.mul bg.t.neg,fun x hxm=>?_⟩
   obtain ⟨s,hs,rfl⟩:=List.mem_map.mp hxm
   obtain ⟨t,rfl,bt⟩:=hx s hs
   refine ⟨-(t * (g.den : Int)),?_,(bt.mul bg.b).neg⟩
   show Rat.divInt t B / g = _
   rw [key t,Int.mul_neg,Rat.divInt_neg',Int.neg_neg]
 . refine ⟨B * g.num,Int.mul_pos h0 (by omega),bB.mul bg.t,fun x hxm=>?_⟩
   obtain ⟨s,hs,rfl⟩:=List.mem_map.mp hxm
   obtain ⟨t,rfl,bt⟩:=hx s hs
   exact ⟨t * (g.den : Int),key t,bt.mul bg.b⟩
theorem ze5 {a b : Rat} {ns : List Int} {xs : List Rat} {m : Nat} (ba : Bdr 10 a) (bb : Bdr 10 b) (hm : Cm m xs) : Cm (m + 2 * ns.length + 21 * upTo ns ns.length) (zaJ a b ns xs):=by
 obtain ⟨B,h0,h1,h2⟩:=(hm.snoc).rows ba bb (ns:=ns) ns.length (Nat.le_refl _)
 exact ⟨B,h0,h1,fun x hx=>h2 x (List.dropLast_subset _ hx)⟩
theorem zo0 {a b : Rat} {ns : List Int} (ba : Bdr 10 a) (bb : Bdr 10 b) (h8 : ns.length <= 8) (hu : upTo ns ns.length <= 8) (hs : ns.sum.toNat <= 8) (hF : a ^ ns.sum.toNat ≠ 1) : Cm 268 (zat a b ns):=by
 have bF : Bdr 81 (a ^ ns.sum.toNat):=(ba.pow ns.sum.toNat).mono (by omega)
 have bg : Bdr 83 (1 - a ^ ns.sum.toNat):=(Bdr.one.sub bF).mono (by decide)
 have hg : 1 - a ^ ns.sum.toNat ≠ 0:=fun e=>hF (by grind)
 exact (zrC (ze5 (ns:=ns) ba bb (zeM (ns.length - 1))) bg hg).mono (by omega)
theorem zjj {a b : Rat} {ns : List Int} (ok : za1 a b ns (zbx (ns.length - 1))) (h8 : ns.sum <= 8) (i : Nat) : Bdr 400 ((zaJ a b ns (zbx (ns.length - 1))).getD i 0):=((ze5 ok.ba ok.bb (zeM _)).get i).mono (by
 have h1:=zj6 (fun n hn=>(ok.n0 n hn).1)
 have h2:=ok.few
 omega)
def zjZ (K : PySem.W.Frag) : Sp:=fun vs H Q _=>∃ x0 x1,vs = [x0,x1] /\ ∃ (a b : Rat) (ns : List Int),Is K H x0 (R a b) /\ Is K H x1 (TZ ns) /\ za1 a b ns (zbx (ns.length - 1)) /\ 0 <= ns.sum /\ ns.sum <= 8 /\ (a ^ ns.sum.toNat = 1 -> ∀ H',zai H H' -> Q .non H') /\ (a ^ ns.sum.toNat ≠ 1 -> ∀ v H',zai H H' -> Is K H' v (TN (zat a b ns)) -> Q v H')
theorem zeK {K : PySem.W.Frag} {H : Hp} {Q : VK} {E : XK} {a b : Rat} {ns : List Int} {v w : V} (h1 : Is K H v (R a b)) (h2 : Is K H w (TZ ns)) (ok : za1 a b ns (zbx (ns.length - 1))) (h0 : 0 <= ns.sum) (h8 : ns.sum <= 8) (q1 : a ^ ns.sum.toNat = 1 -> ∀ H',zai H H' -> Q .non H') (q2 : a ^ ns.sum.toNat ≠ 1 -> ∀ v H',zai H H' -> Is K H' v (TN (zat a b ns)) -> Q v H') : zjZ K [v,w] H Q E:=⟨_,_,rfl,a,b,ns,h1,h2,ok,h0,h8,q1,q2⟩
set_option maxHeartbeats 4000000 in
theorem zeD (T : Txt K mg a) : zbd P w K mg base CX0 8 a.still a.fd_still ["rule","sizes"] (zjZ K):=by
 refine T.F_still.ok zhW (fun vs H Q E h=>by obtain ⟨_,_,rfl,_⟩:=h; rfl) (fun cdv A outer s H vs Q E hr h=>?_)
 obtain ⟨x0,x1,rfl,h⟩:=h
 have hu:=hr.units
 refine ⟨_,(zad (zak (i:=2) zhW.nd rfl (Or.inl rfl) (zaf (zci T) (hr.mono (by decide)) rfl T.g_round_map T.F_round_map.kp T.b_round_map .nil zaj (zaa (pv 0) (zaa (pv 1) zab))))
     (zad (za4 (zax (show OpR _ (compareOp .Eq) (zcL K) from zbC hu) (zam zah (pv 2) zac (fun _ _=>rfl)) (zaM (v:=.ref a.k_ONE) rfl T.c_ONE rfl) (zaw _)) (zag (zan zdY)) zaF)
     (zad (zak (i:=3) zhW.nd rfl (Or.inr rfl) (zaf (zgd T) (hr.mono (by decide)) rfl T.g_minus T.F_minus.kp T.b_minus .nil zaj (zaa (zaM (v:=.ref a.k_ONE) rfl T.c_ONE rfl) (zaa (zam zah (pv 2) zac (fun _ _=>rfl)) zab))))
     (zag (zan (za0 (show zaP _ (.type "tuple") (zbl K) from za3) rfl T.z_tuple zbY (zaa (zcK rfl (zbG.by (N':=["shift","gap"]) (src:=[none,some 3]) rfl (show zbz _ (zae zes).names ["rule","sizes","both","gap"] ["shift","gap"] [none,some 3] = true from by decide +kernel)) (zet (zam zah (pv 2) zac (fun _ _=>rfl))) (fun _ _ _ _ _=>(zaA (i:=0) (show (["shift","gap"] : List Str).Nodup from by decide) rfl (Or.inl rfl))) (fun _ _ _ _ _=>zb5) (fun _ _ _ _ _=>(zaf (zl8 (K:=K) (mg:=mg) (a:=a) T) (hr.mono (by decide)) rfl T.g_over T.F_over.kp T.b_over .nil zaj (zaa (pv 0) (zaa (pv 1) zab))))) zab))))))),?_⟩
 clear hu
 try clear hgd
 try dsimp only [za8,zaQ]
 rw [show start ["rule","sizes","both","gap"] [x0,x1] = [some x0,some x1,none,none] from rfl]
 obtain ⟨ra,rb,ns,hr',hn',ok,h0,h8,q1,q2⟩:=h
 have bF : Bdr 100 (ra ^ ns.sum.toNat):=(ok.ba.pow ns.sum.toNat).mono (by omega)
 wtm_at "gg"
 refine zcd hr' hn' ok h0 (by omega) (fun v1 H1 S1 i1=>?_)
 wtm_at "gg"
 refine zcl (j:=0) i1 rfl (fun v2 i2=>?_)
 wtm_at "gg"
 . rename_i z
   exact q1 z H1 S1
 . rename_i z
   refine zcl (j:=0) i1 rfl (fun v3 i3=>?_)
   wtm_at "gg"
   rename_i v4 H4 S4 i4
   have hg : (1 - ra ^ ns.sum.toNat) ≠ 0:=fun e=>z (by grind)
   have bg : Bdr 102 (1 - ra ^ ns.sum.toNat):=(Bdr.one.sub bF).mono (by decide)
   refine zcl (j:=1) (i1.by S4) rfl (fun v5 i5=>?_)
   obtain ⟨ap,us,rfl,hu,tu⟩:=zaT.mp i5
   refine zeZ (o0:=none) (tl:=[some v4]) hu rfl (fun j y H'=>Is K H' y (N ((zat ra rb ns).getD j 0))) ?_ ?_
   . intro D i x ys o H5 hx inv
     obtain ⟨hi,ix⟩:=zdc tu hx
     have ix5:=ix.by inv.same
     have i45:=i4.by inv.same
     have hi1000 : i <= 1000:=by
       have h1:=ok.len
       have h2:=ok.few
       have h3:=zdy (a:=ra) (b:=rb) (show ns.length = (zbx (ns.length - 1)).length + 1 from ok.len)
       omega
     wtm_at "gg"
     refine zlY ix5 i45 ((zjj ok h8 i).mono (by decide)) (bg.mono (by decide)) hg (fun v6 H6 S6 i6=>?_)
     wtm_at "gg"
     have e : (zat ra rb ns).getD i 0 = (zaJ ra rb ns (zbx (ns.length - 1))).getD i 0 / (1 - ra ^ ns.sum.toNat):=by
       unfold zat
       rw [List.getD_eq_getElem?_getD,List.getElem?_map,List.getD_eq_getElem?_getD,List.getElem?_eq_getElem hi]; rfl
     exact zb7 inv hi1000 zcN ⟨_,rfl⟩ S6 (by rw [e]; exact i6)
   . intro D ys H5 hn S5 hD hl hr5
     have hl' : ys.length = (zat ra rb ns).length:=by
       unfold zat
       rw [hl,tu.length,List.length_map,List.length_map]
     refine zbu (zcn hD (zc6 hl' hr5)) (fun w H6 S6 i6=>?_)
     wtm_at "gg"
     exact q2 z w H6 (S1.trans (S4.trans (S5.trans S6))) i6
def zdh (p q : Rat) (xs ss : List Rat) : List Rat:=(List.range xs.length).map fun i=>p * xs.getD i 0 + q * ss.getD i 0
theorem zmW (p q : Rat) (xs ss : List Rat) : (zdh p q xs ss).length = xs.length:=by unfold zdh; rw [List.length_map,List.length_range]
theorem znm {p q : Rat} {xs ss : List Rat} {i : Nat} (h : i < xs.length) : (zdh p q xs ss).getD i 0 = p * xs.getD i 0 + q * ss.getD i 0:=by
 unfold zdh
 rw [List.getD_eq_getElem?_getD,List.getElem?_map,List.getElem?_range h]; rfl
def zhH (K : PySem.W.Frag) : Sp:=fun vs H Q _=>∃ x0 x1 x2 x3,vs = [x0,x1,x2,x3] /\ ∃ (d : PyData) (p q : Rat) (xs ss : List Rat),Is K H x0 (.tuple [d,TN ss]) /\ Is K H x1 (TN xs) /\ Is K H x2 (N p) /\ Is K H x3 (N q) /\ ss.length = xs.length /\ xs.length <= 50 /\ Bdr 2000 p /\ Bdr 2000 q /\ (∀ i,Bdr 6900 (xs.getD i 0)) /\ (∀ i,Bdr 6900 (ss.getD i 0)) /\ ∀ v H',zai H H' -> Is K H' v (TN (zdh p q xs ss)) -> Q v H'
theorem zlL {K : PySem.W.Frag} {H : Hp} {Q : VK} {E : XK} {d : PyData} {p q' : Rat} {xs ss : List Rat} {v w u z : V} (h0 : Is K H v (.tuple [d,TN ss])) (h1 : Is K H w (TN xs)) (h2 : Is K H u (N p)) (h3 : Is K H z (N q')) (hl : ss.length = xs.length) (hf : xs.length <= 50) (b1 : Bdr 2000 p) (b2 : Bdr 2000 q') (b3 : ∀ i,Bdr 6900 (xs.getD i 0)) (b4 : ∀ i,Bdr 6900 (ss.getD i 0)) (q : ∀ v H',zai H H' -> Is K H' v (TN (zdh p q' xs ss)) -> Q v H') : zhH K [v,w,u,z] H Q E:=⟨_,_,_,_,rfl,d,p,q',xs,ss,h0,h1,h2,h3,hl,hf,b1,b2,b3,b4,q⟩
set_option maxHeartbeats 4000000 in
theorem zk0 (T : Txt K mg a) : zbd P w K mg base CX0 3 a.weighed a.fd_weighed ["both","places","of_place","of_shift"] (zhH K):=by
 refine T.F_weighed.ok zk6 (fun vs H Q E h=>by obtain ⟨_,_,_,_,rfl,_⟩:=h; rfl) (fun cdv A outer s H vs Q E hr h=>?_)
 obtain ⟨x0,x1,x2,x3,rfl,h⟩:=h
 have hu:=hr.units
 refine ⟨_,(zag (zan (za0 (show zaP _ (.type "tuple") (zbl K) from za3) rfl T.z_tuple zbY (zaa (zcK rfl (zbG.by (N':=["place","shift","of_place","of_shift"]) (src:=[none,none,some 2,some 3]) rfl (show zbz _ (zae zcP).names ["both","places","of_place","of_shift"] ["place","shift","of_place","of_shift"] [none,none,some 2,some 3] = true from by decide +kernel)) (zqm rfl T.z_zip (zaa (pv 1) (zaa (zam zah (pv 0) zac (fun _ _=>rfl)) zab))) (fun _ _ _ _ _=>by exact (show PG _ _ (zij K 2 _) from zeS (n:=2) rfl (za7 (zaA (i:=0) (show (["place","shift","of_place","of_shift"] : List Str).Nodup from by decide) rfl (Or.inl rfl)) (za7 (zaA (i:=1) (show (["place","shift","of_place","of_shift"] : List Str).Nodup from by decide) rfl (Or.inl rfl)) zdm)))) (fun _ _ _ _ _=>zb5) (fun _ _ _ _ _=>(zaf (zfZ (K:=K) (mg:=mg) (a:=a) T) (hr.mono (by decide)) rfl T.g_plus T.F_plus.kp T.b_plus .nil zaj (zaa (zaf (zd9 (K:=K) (mg:=mg) (a:=a) T) (hr.mono (by decide)) rfl T.g_times T.F_times.kp T.b_times .nil zaj (zaa (pv 2) (zaa (pv 0) zab))) (zaa (zaf (zd9 (K:=K) (mg:=mg) (a:=a) T) (hr.mono (by decide)) rfl T.g_times T.F_times.kp T.b_times .nil zaj (zaa (pv 3) (zaa (pv 1) zab))) zab))))) zab)))),?_⟩
 clear hu
 try clear hgd
 try dsimp only [za8,zaQ]
 rw [show start ["both","places","of_place","of_shift"] [x0,x1,x2,x3] = [some x0,some x1,some x2,some x3] from rfl]
 obtain ⟨d,p,q',xs,ss,h0,h1,h2,h3,hl,hf,b1,b2,b3,b4,q⟩:=h
 obtain ⟨a1,us,rfl,hs1,t1⟩:=zaT.mp h1
 wtm_at "gg"
 refine zcl (j:=1) h0 rfl (fun v5 i5=>?_)
 obtain ⟨a2,ws,rfl,hs2,t2⟩:=zaT.mp i5
 have l1:=t1.length
 have l2:=t2.length
 rw [List.length_map] at l1 l2
 wtm_at "gg"
 refine zqG (t:=true) (u:=true) hs1 hs2 (by omega) (o0:=none) (o0':=none) (tl:=[some x2,some x3]) rfl (fun j y H'=>Is K H' y (N ((zdh p q' xs ss).getD j 0))) zcN ?_ ?_
 . intro D j y z zs o1 o2 H7 c hy hz inv hc
   obtain ⟨hj,iy⟩:=zdc t1 hy
   obtain ⟨_,iz⟩:=zdc t2 hz
   have S7:=inv.2.2.1
   have iy7:=iy.by S7
   have iz7:=iz.by S7
   have ip7:=h2.by S7
   have iq7:=h3.by S7
   have c1:=b3 j
   have c2:=b4 j
   have m1 : Bdr 8999 (p * xs.getD j 0):=(b1.mul c1).mono (by decide)
   have m2 : Bdr 8999 (q' * ss.getD j 0):=(b2.mul c2).mono (by decide)
   refine ze8 (.of hc) rfl ?_
   wtm_at "gg"
   rename_i v8 H8 S8 i8 v9 H9 S9 i9 v10 H10 S10 i10
   rw [<- znm hj] at i10
   exact ziG inv (by omega) zcN ⟨_,_,rfl⟩ (S8.trans (S9.trans S10)) i10
 . intro D zs H7 hn S7 hD hl7 hr7
   have tz : IsAll K H7 zs ((zdh p q' xs ss).map N):=zc6 (by rw [hl7,zmW]; omega) hr7
   wtm_at "gg"
   refine zbu (zcn hD tz) (fun v8 H8 S8 i8=>?_)
   exact q v8 H8 (S7.trans S8) i8
structure zaz (ns : List Int) : Prop where
 some : 1 <= ns.length
 few : ns.length <= 8
 each : ∀ n ∈ ns,1 <= n /\ n <= 8
 sum : ns.sum <= 8
theorem zjw : ∀ {ns : List Int},(∀ n ∈ ns,0 <= n) -> ((ns.map Int.toNat).sum : Int) = ns.sum
 | [],_=>rfl
 | n :: ns,h=>by
   have h1:=zjw (ns:=ns) fun m hm=>h m (List.mem_cons_of_mem _ hm)
   have h2:=h n (List.mem_cons_self ..)
   rw [List.map_cons,List.sum_cons,List.sum_cons]
   omega
theorem zaz.upTo {ns : List Int} (h : zaz ns) : upTo ns ns.length <= 8:=by
 have h1:=zjw (ns:=ns) fun n hn=>by have:=h.each n hn; omega
 have h2:=h.sum
 unfold GM.upTo
 rw [List.take_length]
 omega
def zaR (a b : Rat) (ns : List Int) : List Rat:=zaJ a b ns (zbx (ns.length - 1))
def zbe (a b : Rat) (ns : List Int) (n : Nat) (xs : List Rat) : List Rat:=(List.range xs.length).map fun i=>zfB (a ^ ns.sum.toNat) ((zaR a b ns).getD i 0) n (xs.getD i 0)
theorem zgk (n : Nat) : (zbx n).length = n:=List.length_replicate ..
theorem zey {a b : Rat} {ns : List Int} (h : 1 <= ns.length) : (zaR a b ns).length = ns.length - 1:=by
 unfold zaR
 rw [zdy (by rw [zgk]; omega),zgk]
theorem zaG (a b : Rat) (ns : List Int) (n : Nat) (xs : List Rat) : (zbe a b ns n xs).length = xs.length:=by unfold zbe; rw [List.length_map,List.length_range]
theorem zbV {a b : Rat} {ns : List Int} {n : Nat} {xs : List Rat} {i : Nat} (h : i < xs.length) : (zbe a b ns n xs).getD i 0 = zfB (a ^ ns.sum.toNat) ((zaR a b ns).getD i 0) n (xs.getD i 0):=by
 unfold zbe
 rw [List.getD_eq_getElem?_getD,List.getElem?_map,List.getElem?_range h]; rfl
theorem zhk {xs ys : List Rat} (hl : xs.length = ys.length) (h : ∀ i,i < xs.length -> xs.getD i 0 = ys.getD i 0) : xs = ys:=List.ext_getElem hl fun i h1 h2=>by
 have:=h i h1
 rw [List.getD_eq_getElem?_getD,List.getD_eq_getElem?_getD,List.getElem?_eq_getElem h1,List.getElem?_eq_getElem h2] at this
 exact this
theorem zc3 (a b : Rat) (ns : List Int) (xs : List Rat) : zbe a b ns 0 xs = xs:=zhk (zaG ..) fun i hi=>by
 rw [zaG] at hi
 rw [zbV hi,zmU]
theorem zib (a b : Rat) (ns : List Int) (m n : Nat) (xs : List Rat) : zbe a b ns n (zbe a b ns m xs) = zbe a b ns (m + n) xs:=zhk (by rw [zaG,zaG,zaG]) fun i hi=>by
 rw [zaG,zaG] at hi
 rw [zbV (by rw [zaG]; exact hi),zbV hi,zbV hi,zoZ]
theorem zfF {a b : Rat} {ns : List Int} {xs : List Rat} (h : ns.length = xs.length + 1) (hn : ∀ n ∈ ns,0 <= n) : zbe a b ns 1 xs = zaJ a b ns xs:=zhk (by rw [zaG,zdy h]) fun i hi=>by
 rw [zaG] at hi
 rw [zbV hi,zhX,zfl h hn hi]
 rfl
structure zgc (a b : Rat) (ns : List Int) (n : Nat) : Prop where
 ok : zaK a b
 sz : zaz ns
 few : n <= 60
 k : (6 * ns.sum.toNat + 1 + 1) * n <= 1600
theorem zpu {a b : Rat} (h : zaK a b) : Bdr 6 a:=by
 have h1:=h.a0
 have h2:=h.a4
 have h3:=h.ad
 have n0 : 0 <= a.num:=Rat.num_nonneg.mpr (Rat.le_of_lt h1)
 have n1 : a.num <= 4 * a.den:=by
   have:=(Rat.le_iff a 4).mp h2
   simpa using this
 have e : (2 : Nat) ^ 6 = 64:=by decide
 exact ⟨⟨by rw [e]; omega⟩,⟨by rw [e]; omega⟩⟩
theorem zgb {a b : Rat} (h : zaK a b) (S : Nat) : Bdr (6 * S + 1) (a ^ S):=(zpu h).pow S
theorem zgc.le {a b : Rat} {ns : List Int} {m n : Nat} (h : zgc a b ns n) (e : m <= n) : zgc a b ns m:=⟨h.ok,h.sz,Nat.le_trans e h.few,Nat.le_trans (Nat.mul_le_mul_left _ e) h.k⟩
theorem zgc.pow {a b : Rat} {ns : List Int} {n : Nat} (h : zgc a b ns n) {i : Nat} (hi : i <= n) : Bdr 1601 ((a ^ ns.sum.toNat) ^ i):=((zgb h.ok _).pow i).mono (by
 have h1:=(h.le hi).k
 have h2:=Nat.mul_le_mul_right i (show 6 * ns.sum.toNat + 1 <= 6 * ns.sum.toNat + 1 + 1 by omega)
 omega)
theorem zgc.shf {a b : Rat} {ns : List Int} {n : Nat} (h : zgc a b ns n) {i : Nat} (hi : i <= n) : Bdr 1601 (shf (a ^ ns.sum.toNat) 1 i):=(zjg (zgb h.ok _) i).mono (by have:=(h.le hi).k; omega)
theorem zbA {a b : Rat} {ns : List Int} (h : zaK a b) (k : zaz ns) : za1 a b ns (zbx (ns.length - 1)):=⟨h.ba,h.bb,fun n hn=>by have:=k.each n hn; omega,by rw [zgk]; have:=k.some; omega,by have:=k.few; omega,⟨1,zeM _,by have:=k.few; have:=k.upTo; omega⟩⟩
theorem ziz {a b : Rat} {ns : List Int} (h : zaK a b) (k : zaz ns) : Cm 185 (zaR a b ns):=(ze5 (ns:=ns) h.ba h.bb (zeM (ns.length - 1))).mono (by have:=k.few; have:=k.upTo; omega)
theorem zbW {a b : Rat} {ns : List Int} (h : zaK a b) (k : zaz ns) (i : Nat) : Bdr 185 ((zaR a b ns).getD i 0):=(ziz h k).get i
theorem zaz.nn {ns : List Int} (k : zaz ns) : ∀ n ∈ ns,0 <= n:=fun n hn=>by have:=k.each n hn; omega
theorem zaz.pos {ns : List Int} (k : zaz ns) : 1 <= ns.sum /\ ns.sum <= 8:=by
 refine ⟨?_,k.sum⟩
 have h1:=zjw k.nn
 have h2:=k.some
 match ns,h2,k.each with
 | n :: ns,_,he =>
   have:=he n (List.mem_cons_self ..)
   rw [List.map_cons,List.sum_cons] at h1
   omega
theorem zjr {a b : Rat} (h : zaK a b) {S : Nat} (hS : 1 <= S) : a ^ S = 1 ↔ a = 1:=by
 obtain ⟨m,rfl⟩ : ∃ m,S = m + 1:=⟨S - 1,by omega⟩
 constructor
 . intro e
   by_cases z : a < 1
   . have:=zlh h.a0 z m
     rw [e] at this; exact absurd this (by grind)
   . by_cases y : a = 1
     . exact y
     . have z3 : 1 < a:=Rat.lt_of_le_of_ne (Rat.not_lt.mp z) (Ne.symm y)
       have:=zlK z3 m
       rw [e] at this; exact absurd this (by grind)
 . intro e
   rw [e,GM.one_pow']
theorem zmN {a b : Rat} {ns : List Int} (hF : a ^ ns.sum.toNat ≠ 1) {i : Nat} (hi : i < (zat a b ns).length) : (zat a b ns).getD i 0 * (1 - a ^ ns.sum.toNat) = (zaR a b ns).getD i 0:=by
 rw [zc7 hi]
 exact Rat.div_mul_cancel (fun e=>hF (by grind))
theorem zqf {a b : Rat} (h : zaK a b) (S n : Nat) : Bdr ((6 * S + 3) * n + 1) ((a ^ S) ^ n):=((zgb h S).pow n).mono (by have:=Nat.mul_le_mul_right n (show 6 * S + 1 <= 6 * S + 3 by omega); omega)
theorem zqB {a b : Rat} (h : zaK a b) (S n : Nat) : Bdr ((6 * S + 3) * n + 1) (shf (a ^ S) 1 n):=(zjg (zgb h S) n).mono (by have:=Nat.mul_le_mul_right n (show 6 * S + 1 + 1 <= 6 * S + 3 by omega); omega)
def ziA (K : PySem.W.Frag) : Sp:=fun vs H Q _=>∃ x0 x1 x2,vs = [x0,x1,x2] /\ ∃ (F : Rat) (n : Int) (xs ss : List Rat),x2 = .int n /\ Is K H x0 (.tuple [N F,TN ss]) /\ Is K H x1 (TN xs) /\ 0 <= n /\ n <= 64 /\ ss.length = xs.length /\ xs.length <= 50 /\ Bdr 2000 F /\ (∀ i,i <= n.toNat -> Bdr 2000 (F ^ i)) /\ (∀ i,i <= n.toNat -> Bdr 2000 (shf F 1 i)) /\ (∀ i,Bdr 6900 (xs.getD i 0)) /\ (∀ i,Bdr 6900 (ss.getD i 0)) /\ ∀ v H',zai H H' -> Is K H' v (TN ((List.range xs.length).map fun i=>zfB F (ss.getD i 0) n.toNat (xs.getD i 0))) -> Q v H'
theorem zmS {K : PySem.W.Frag} {H : Hp} {Q : VK} {E : XK} {F : Rat} {n : Int} {xs ss : List Rat} {v w : V} (h0 : Is K H v (.tuple [N F,TN ss])) (h1 : Is K H w (TN xs)) (n0 : 0 <= n) (n1 : n <= 64) (hl : ss.length = xs.length) (hf : xs.length <= 50) (b0 : Bdr 2000 F) (b1 : ∀ i,i <= n.toNat -> Bdr 2000 (F ^ i)) (b2 : ∀ i,i <= n.toNat -> Bdr 2000 (shf F 1 i)) (b3 : ∀ i,Bdr 6900 (xs.getD i 0)) (b4 : ∀ i,Bdr 6900 (ss.getD i 0)) (q : ∀ v H',zai H H' -> Is K H' v (TN ((List.range xs.length).map fun i=>zfB F (ss.getD i 0) n.toNat (xs.getD i 0))) -> Q v H') : ziA K [v,w,.int n] H Q E:=⟨_,_,_,rfl,F,n,xs,ss,rfl,h0,h1,n0,n1,hl,hf,b0,b1,b2,b3,b4,q⟩
set_option maxHeartbeats 4000000 in
theorem zmT (T : Txt K mg a) : zbd P w K mg base CX0 4 a.led_on a.fd_led_on ["both","places","many"] (ziA K):=by
 refine T.F_led_on.ok ziK (fun vs H Q E h=>by obtain ⟨_,_,_,rfl,_⟩:=h; rfl) (fun cdv A outer s H vs Q E hr h=>?_)
 obtain ⟨x0,x1,x2,rfl,h⟩:=h
 have hu:=hr.units
 refine ⟨_,(zad (zak (i:=3) ziK.nd rfl (Or.inl rfl) (zaf (zd4 T) (hr.mono (by decide)) rfl T.g_pushes T.F_pushes.kp T.b_pushes .nil zaj (zaa (zay (zaa (zam zah (pv 0) zac (fun _ _=>rfl)) (zaa (zaM (v:=.ref a.k_ONE) rfl T.c_ONE rfl) zab))) (zaa (pv 2) zab))))
     (zag (zan (zaf (zk0 T) (hr.mono (by decide)) rfl T.g_weighed T.F_weighed.kp T.b_weighed .nil zaj (zaa (pv 0) (zaa (pv 1) (zaa (zam zah (pv 3) zac (fun _ _=>rfl)) (zaa (zam zah (pv 3) zac (fun _ _=>rfl)) zab)))))))),?_⟩
 clear hu
 try clear hgd
 try dsimp only [za8,zaQ]
 rw [show start ["both","places","many","push"] [x0,x1,x2] = [some x0,some x1,some x2,none] from rfl]
 obtain ⟨F,n,xs,ss,rfl,h0,h1,n0,n1,hl,hf,b0,b1,b2,b3,b4,q⟩:=h
 wtm_at "gg"
 refine zcl (j:=0) h0 rfl (fun v1 i1=>?_)
 wtm_at "gg"
 refine zh1 i1 (zda 1 (T.t_ONE _) rfl rfl) (fun v2 H2 S2 i2=>?_)
 wtm_at "gg"
 refine zft i2 (b0.mono (by decide)) (Bdr.one.mono (by decide)) n0 n1 (fun i hi=>(b1 i hi).mono (by decide)) (fun i hi=>(b2 i hi).mono (by decide)) (fun v3 H3 S3 i3=>?_)
 wtm_at "gg"
 rename_i v4 i4 v5 i5
 have T3:=S2.trans S3
 refine zlL (h0.by T3) (h1.by T3) i4 i5 hl hf (b1 _ (Nat.le_refl _)) (b2 _ (Nat.le_refl _)) b3 b4 (fun v6 H6 S6 i6=>?_)
 exact q v6 H6 (T3.trans S6) i6
def ziZ (ts : List Rat) : List Bool:=ts.map fun x=>decide (1 < x)
theorem zmD {ts : List Rat} {i : Nat} (h : i < ts.length) : (ziZ ts).getD i true = decide (1 < ts.getD i 0):=by
 unfold ziZ
 rw [List.getD_eq_getElem?_getD,List.getElem?_map,List.getD_eq_getElem?_getD,List.getElem?_eq_getElem h]
 rfl
def zlP (a b : Rat) (ns : List Int) : Bool:=!((ziZ (zbN a b ns (zat a b ns))).any id)
theorem zj3 {a b : Rat} {ns : List Int} (h : zaK a b) (k : zaz ns) (hF : a ^ ns.sum.toNat ≠ 1) : za1 a b ns (zat a b ns):=⟨h.ba,h.bb,fun n hn=>by have:=k.each n hn; omega,by rw [zbP k.some]; have:=k.some; omega,by have:=k.few; omega,⟨268,zo0 h.ba h.bb k.few k.upTo (by have:=k.sum; omega) hF,by have:=k.few; have:=k.upTo; omega⟩⟩
def zeA (K : PySem.W.Frag) : Sp:=fun vs H Q _=>∃ x0 x1,vs = [x0,x1] /\ ∃ (a b : Rat) (ns : List Int),Is K H x0 (R a b) /\ Is K H x1 (TZ ns) /\ zaK a b /\ zaz ns /\ a ≠ 1 /\ ∀ H',zai H H' -> Q (.bl (zlP a b ns)) H'
theorem zgW {K : PySem.W.Frag} {H : Hp} {Q : VK} {E : XK} {a b : Rat} {ns : List Int} {v w : V} (h1 : Is K H v (R a b)) (h2 : Is K H w (TZ ns)) (ok : zaK a b) (sz : zaz ns) (ha : a ≠ 1) (q : ∀ H',zai H H' -> Q (.bl (zlP a b ns)) H') : zeA K [v,w] H Q E:=⟨_,_,rfl,a,b,ns,h1,h2,ok,sz,ha,q⟩
set_option maxHeartbeats 4000000 in
theorem zgT (T : Txt K mg a) : zbd P w K mg base CX0 9 a.draws_freely a.fd_draws_freely ["rule","sizes"] (zeA K):=by
 refine T.F_draws_freely.ok zgS (fun vs H Q E h=>by obtain ⟨_,_,rfl,_⟩:=h; rfl) (fun cdv A outer s H vs Q E hr h=>?_)
 obtain ⟨x0,x1,rfl,h⟩:=h
 have hu:=hr.units
 refine ⟨_,(zag (zan (zoc (zaE (show zaP _ (.builtin "any") (zon K) from zmM rfl) rfl T.z_any zq9 (zaa (zcK rfl (zbG.by (N':=["top"]) (src:=[none]) rfl (show zbz _ (zae zbw).names ["rule","sizes"] ["top"] [none] = true from by decide +kernel)) (zet (zaf (zl6 T) (hr.mono (by decide)) rfl T.g_tops T.F_tops.kp T.b_tops .nil zaj (zaa (pv 0) (zaa (pv 1) (zaa (zaf (zeD T) (hr.mono (by decide)) rfl T.g_still T.F_still.kp T.b_still .nil zaj (zaa (pv 0) (zaa (pv 1) zab))) zab))))) (fun _ _ _ _ _=>(zaA (i:=0) (show (["top"] : List Str).Nodup from by decide) rfl (Or.inl rfl))) (fun _ _ _ _ _=>zb5) (fun _ _ _ _ _=>(zaf (zew (K:=K) (mg:=mg) (a:=a) T) (hr.mono (by decide)) rfl T.g_less T.F_less.kp T.b_less .nil zaj (zaa (zaM (v:=.ref a.k_ONE) rfl T.c_ONE rfl) (zaa (pv 0) zab))))) zab))))),?_⟩
 clear hu
 try clear hgd
 try dsimp only [za8,zaQ]
 rw [show start ["rule","sizes"] [x0,x1] = [some x0,some x1] from rfl]
 obtain ⟨ra,rb,ns,hr',hn',ok,sz,ha,q⟩:=h
 have h8:=sz.few
 have hps:=sz.pos
 have hF : ra ^ ns.sum.toNat ≠ 1:=fun e=>ha ((zjr ok (by omega)).mp e)
 have rok:=zj3 ok sz hF
 wtm_at "gg"
 refine zeK hr' hn' (zbA ok sz) (by omega) (by omega) (fun e=>absurd e hF) (fun _ v1 H1 S1 i1=>?_)
 wtm_at "gg"
 refine zl3 (hr'.by S1) (hn'.by S1) i1 rok (fun v2 H2 S2 i2=>?_)
 obtain ⟨a2,us,rfl,hs2,t2⟩:=zaT.mp i2
 have hl2:=t2.length
 rw [List.length_map,zbF] at hl2
 refine zeZ hs2 (o0:=none) (tl:=[]) rfl (fun i v H=>v = V.bl ((ziZ (zbN ra rb ns (zat ra rb ns))).getD i true)) ?_ ?_
 . rintro D i x ys o H3 hx inv
   obtain ⟨hi,ix⟩:=zdc t2 hx
   rw [zbF] at hi
   have ix3:=ix.by inv.same
   have b1:=zkC rok hi
   have b2 : Bdr 1 1:=Bdr.one
   wtm_at "gg"
   exact zb7 inv (by omega) (fun _ _ _ _ _ h=>h) ⟨_,rfl⟩ (zai.refl _) (by rw [zmD (by rw [zbF]; exact hi)])
 . rintro D ys H3 hn3 S3 e3 hl3 hr3
   have hz:=ze7 (bs:=ziZ (zbN ra rb ns (zat ra rb ns))) (by unfold ziZ; rw [List.length_map,zbF]; omega) hr3
   rw [hz] at e3
   wtm_at "gg"
   refine zqw (.of e3) ?_
   wtm_at "gg"
   exact q _ (S1.trans (S2.trans S3))
def ziM (ss : List Rat) : List Bool:=ss.map fun s=>decide (s = 0)
theorem znf {ts : List Rat} {i : Nat} (h : i < ts.length) : (ziM ts).getD i true = decide (ts.getD i 0 = 0):=by
 unfold ziM
 rw [List.getD_eq_getElem?_getD,List.getElem?_map,List.getD_eq_getElem?_getD,List.getElem?_eq_getElem h]
 rfl
def za6 (a b : Rat) (ns : List Int) (xs : List Rat) : Bool:=if 1 < a then decide (xs = zat a b ns) else if a = 1 then (ziM (zaR a b ns)).all id else zlP a b ns
def zfe (K : PySem.W.Frag) : Sp:=fun vs H Q _=>∃ x0 x1 x2,vs = [x0,x1,x2] /\ ∃ (a b : Rat) (ns : List Int) (xs : List Rat),Is K H x0 (R a b) /\ Is K H x1 (TZ ns) /\ Is K H x2 (TN xs) /\ zaK a b /\ zaz ns /\ ∀ H',zai H H' -> Q (.bl (za6 a b ns xs)) H'
theorem zik {K : PySem.W.Frag} {H : Hp} {Q : VK} {E : XK} {a b : Rat} {ns : List Int} {xs : List Rat} {v w u : V} (h1 : Is K H v (R a b)) (h2 : Is K H w (TZ ns)) (h3 : Is K H u (TN xs)) (ok : zaK a b) (sz : zaz ns) (q : ∀ H',zai H H' -> Q (.bl (za6 a b ns xs)) H') : zfe K [v,w,u] H Q E:=⟨_,_,_,rfl,a,b,ns,xs,h1,h2,h3,ok,sz,q⟩
set_option maxHeartbeats 4000000 in
theorem zin (T : Txt K mg a) : zbd P w K mg base CX0 10 a.stays_free a.fd_stays_free ["rule","sizes","places"] (zfe K):=by
 refine T.F_stays_free.ok zfi (fun vs H Q E h=>by obtain ⟨_,_,_,rfl,_⟩:=h; rfl) (fun cdv A outer s H vs Q E hr h=>?_)
 obtain ⟨x0,x1,x2,rfl,h⟩:=h
 have hu:=hr.units
 refine ⟨_,(zad (zak (i:=3) zfi.nd rfl (Or.inl rfl) (zaf (zg5 T) (hr.mono (by decide)) rfl T.g_bend T.F_bend.kp T.b_bend .nil zaj (zaa (pv 0) zab)))
     (zad (za4 (zax (show OpR _ (compareOp .Eq) (zcL K) from zbC hu) (pv 3) zbD (zaw _)) (zag (zan (zcH (show OpR _ (compareOp .Eq) (zcL K) from zbC hu) (za0 (show zaP _ (.type "tuple") (zbl K) from za3) rfl T.z_tuple zbY (zaa (pv 2) zab)) (zaf (zeD T) (hr.mono (by decide)) rfl T.g_still T.F_still.kp T.b_still .nil zaj (zaa (pv 0) (zaa (pv 1) zab))) (zaw _)))) zaF)
     (zad (za4 (zax (show OpR _ (compareOp .Eq) (zcL K) from zbC hu) (pv 3) zbD (zaw _)) (zag (zan (zaE (show zaP _ (.builtin "all") (zkV K) from zgD rfl) rfl T.z_all zlq (zaa (zcK rfl (zbG.by (N':=["shift"]) (src:=[none]) rfl (show zbz _ (zae zbT).names ["rule","sizes","places","way"] ["shift"] [none] = true from by decide +kernel)) (zet (zam zah (zaf (zci T) (hr.mono (by decide)) rfl T.g_round_map T.F_round_map.kp T.b_round_map .nil zaj (zaa (pv 0) (zaa (pv 1) zab))) zac (fun _ _=>rfl))) (fun _ _ _ _ _=>(zaA (i:=0) (show (["shift"] : List Str).Nodup from by decide) rfl (Or.inl rfl))) (fun _ _ _ _ _=>zb5) (fun _ _ _ _ _=>(zcH (show OpR _ (compareOp .Eq) (zcL K) from zbC hu) (pv 0) (zaM (v:=.ref a.k_NOUGHT) rfl T.c_NOUGHT rfl) (zaw _)))) zab)))) zaF)
     (zag (zan (zaf (zgT T) (hr.mono (by decide)) rfl T.g_draws_freely T.F_draws_freely.kp T.b_draws_freely .nil zaj (zaa (pv 0) (zaa (pv 1) zab)))))))),?_⟩
 clear hu
 try clear hgd
 try dsimp only [za8,zaQ]
 rw [show start ["rule","sizes","places","way"] [x0,x1,x2] = [some x0,some x1,some x2,none] from rfl]
 obtain ⟨ra,rb,ns,xs,hr',hn',hx',ok,sz,q⟩:=h
 have h8:=sz.few
 have h1:=sz.some
 have hps:=sz.pos
 wtm_at "gg"
 refine zdG hr' (ok.ba.mono (by decide)) ?_
 unfold zcI
 unfold za6 at q
 by_cases z1 : 1 < ra
 . rw [if_pos z1] at q ⊢
   have hF : ra ^ ns.sum.toNat ≠ 1:=fun e=>absurd ((zjr ok (by omega)).mp e) (by grind)
   wtm_at "gg"
   refine zca _ _ true (by rw [PyData.eqv]; decide) ?_
   wtm_at "gg"
   refine zlp hx' ?_
   wtm_at "gg"
   refine zeK hr' hn' (zbA ok sz) (by omega) (by omega) (fun e=>absurd e hF) (fun _ v1 H1 S1 i1=>?_)
   wtm_at "gg"
   refine zmw (hx'.by S1) i1 ?_
   exact q _ S1
 . rw [if_neg z1] at q ⊢
   by_cases z2 : ra = 1
   . rw [if_pos z2] at q ⊢
     wtm_at "gg"
     refine zca _ _ false (by rw [PyData.eqv]; decide) ?_
     wtm_at "gg"
     refine zca _ _ true (by rw [PyData.eqv]; decide) ?_
     wtm_at "gg"
     refine zcd hr' hn' (zbA ok sz) (by omega) (by omega) (fun v1 H1 S1 i1=>?_)
     wtm_at "gg"
     refine zcl (j:=1) i1 rfl (fun v2 i2=>?_)
     obtain ⟨a2,us,rfl,hs2,t2⟩:=zaT.mp i2
     have hl2:=t2.length
     rw [List.length_map] at hl2
     have hsl : (zaR ra rb ns).length = ns.length - 1:=zey h1
     have t2 : IsAll K H1 us ((zaR ra rb ns).map N):=t2
     have hl2 : us.length = (zaR ra rb ns).length:=hl2
     refine zeZ hs2 (o0:=none) (tl:=[]) rfl (fun i v H=>v = V.bl ((ziM (zaR ra rb ns)).getD i true)) ?_ ?_
     . rintro D i x ys o H3 hx inv
       obtain ⟨hi,ix⟩:=zdc t2 hx
       have ix3:=ix.by inv.same
       wtm_at "gg"
       exact zb7 inv (by omega) (fun _ _ _ _ _ h=>h) ⟨_,rfl⟩ (zai.refl _) (by rw [znf hi])
     . rintro D ys H3 hn3 S3 e3 hl3 hr3
       have hz:=ze7 (bs:=ziM (zaR ra rb ns)) (by unfold ziM; rw [List.length_map]; omega) hr3
       rw [hz] at e3
       wtm_at "gg"
       refine zi7 (.of e3) ?_
       exact q _ (S1.trans S3)
   . rw [if_neg z2] at q ⊢
     wtm_at "gg"
     refine zca _ _ false (by rw [PyData.eqv]; decide) ?_
     wtm_at "gg"
     refine zca _ _ false (by rw [PyData.eqv]; decide) ?_
     wtm_at "gg"
     exact zgW hr' hn' ok sz z2 q
theorem zoy {m j c d : Nat} {p q : Rat} {xs ss : List Rat} (hx : Cm m xs) (hs : Cm j ss) (bp : Bdr c p) (bq : Bdr d q) : Cm (m + j + c + d + 1) (zdh p q xs ss):=by
 obtain ⟨B,h0,h1,h2⟩:=hx
 obtain ⟨D,g0,g1,g2⟩:=hs
 have hb : 0 < B * (p.den : Int) * (D * (q.den : Int)):=Int.mul_pos (Int.mul_pos h0 (den_pos p)) (Int.mul_pos g0 (den_pos q))
 refine ⟨_,hb,((h1.mul bp.b).mul (g1.mul bq.b)).mono (by omega),fun x hx=>?_⟩
 obtain ⟨i,hi,rfl⟩:=List.mem_map.mp hx
 have hi:=List.mem_range.mp hi
 obtain ⟨u,eu,bu⟩:=h2 _ (zd8 (d:=0) hi)
 have hv : ∃ v : Int,ss.getD i 0 = Rat.divInt v D /\ Bd j v:=by
   rcases Nat.lt_or_ge i ss.length with z | z
   . exact g2 _ (zd8 z)
   . rw [List.getD_eq_getElem?_getD,List.getElem?_eq_none z]
     exact ⟨0,by simp,⟨by simp; exact Nat.two_pow_pos j⟩⟩
 obtain ⟨v,ev,bv⟩:=hv
 refine ⟨p.num * u * (D * (q.den : Int)) + q.num * v * (B * (p.den : Int)),?_,(((bp.t.mul bu).mul (g1.mul bq.b)).add ((bq.t.mul bv).mul (h1.mul bp.b))).mono (by omega)⟩
 symm
 show Rat.divInt _ _ = p * xs.getD i 0 + q * ss.getD i 0
 refine zbc (by omega) ?_
 have k1:=zap u (show B ≠ 0 by omega)
 have k2:=zap v (show D ≠ 0 by omega)
 have k3:=zbi p
 have k4:=zbi q
 rw [eu,ev]
 simp only [Rat.intCast_add,Rat.intCast_mul]
 rw [<- k1,<- k2,<- k3,<- k4]
 generalize Rat.divInt u B = y
 generalize Rat.divInt v D = z
 generalize (B : Rat) = B'
 generalize (D : Rat) = D'
 generalize ((p.den : Int) : Rat) = P'
 generalize ((q.den : Int) : Rat) = Q'
 grind
theorem zrx {a b : Rat} {ns : List Int} {xs : List Rat} {n m : Nat} (ok : zgc a b ns n) (c : Cm m xs) : Cm (m + 188 + 2 * ((6 * ns.sum.toNat + 3) * n)) (zbe a b ns n xs):=(zoy c (ziz ok.ok ok.sz) (zqf ok.ok _ n) (zqB ok.ok _ n)).mono (by omega)
theorem zmf {a b : Rat} {ns : List Int} {xs : List Rat} (hF : a ^ ns.sum.toNat ≠ 1) (hl : ns.length = xs.length + 1) (k : Nat) : zbe a b ns k xs = znq ((a ^ ns.sum.toNat) ^ k) (zat a b ns) xs:=by
 have hs : (zat a b ns).length = xs.length:=by rw [zbP (by omega)]; omega
 refine zeE (by rw [zaG,zjI hs,hs]) fun i hi=>?_
 rw [zaG] at hi
 rw [zi1 hs (by omega),zbV hi,zku (zmN hF (by omega))]
theorem zkK {a b : Rat} {ns : List Int} {xs : List Rat} : zc0 a b ns xs = true ↔ (∀ i,i < xs.length + 1 -> (zbg xs).getD (i + 1) 0 < (zbg xs).getD i 0) /\ ∀ i,i < ns.length -> (zbN a b ns xs).getD i 0 < 1:=by
 unfold zc0
 rw [Bool.and_eq_true,List.all_eq_true,List.all_eq_true]
 constructor
 . rintro ⟨h1,h2⟩
   refine ⟨fun i hi=>?_,fun i hi=>?_⟩
   . have:=h1 _ (List.mem_map.mpr ⟨i,List.mem_range.mpr hi,rfl⟩)
     exact of_decide_eq_true this
   . have:=h2 _ (List.mem_map.mpr ⟨_,zd8 (d:=0) (show i < (zbN a b ns xs).length by rw [zbF]; exact hi),rfl⟩)
     exact of_decide_eq_true this
 . rintro ⟨h1,h2⟩
   refine ⟨fun x hx=>?_,fun x hx=>?_⟩
   . obtain ⟨i,hi,rfl⟩:=List.mem_map.mp hx
     exact decide_eq_true (h1 i (List.mem_range.mp hi))
   . obtain ⟨t,ht,rfl⟩:=List.mem_map.mp hx
     obtain ⟨i,hi,rfl⟩:=List.mem_map.mp ht
     have:=h2 i (List.mem_range.mp hi)
     rw [zdv (List.mem_range.mp hi)] at this
     exact decide_eq_true this
theorem zkO : ∀ l : List Rat,(∀ i,i + 1 < l.length -> l.getD (i + 1) 0 < l.getD i 0) -> l.Pairwise (· > ·)
 | [],_=>.nil
 | x :: l,h=>by
   have h' : ∀ i,i + 1 < l.length -> l.getD (i + 1) 0 < l.getD i 0:=fun i hi=>by
     have:=h (i + 1) (by simp; omega)
     simpa using this
   have hd : ∀ j,j < l.length -> l.getD j 0 < x:=fun j=>by
     induction j with
     | zero=>intro hj; have:=h 0 (by simp; omega); simpa using this
     | succ j ih=>intro hj; have h3:=h' j hj; have h4:=ih (by omega); grind
   refine List.pairwise_cons.mpr ⟨fun y hy=>?_,zkO l h'⟩
   obtain ⟨j,hj,e⟩:=List.getElem_of_mem hy
   have:=hd j hj
   rw [List.getD_eq_getElem?_getD,List.getElem?_eq_getElem hj] at this
   show y < x
   rw [<- e]; exact this
theorem zfv (xs : List Rat) (i : Nat) : (zbg xs).getD (i + 1) 0 = (xs ++ [0]).getD i 0:=by
 unfold zbg
 rw [List.append_assoc]
 rfl
theorem zlB {xs : List Rat} (h : ∀ i,i < xs.length + 1 -> (zbg xs).getD (i + 1) 0 < (zbg xs).getD i 0) : zsV (xs ++ [0]) /\ (xs ++ [0]).getD 0 0 < 1:=by
 have pw : (xs ++ [0]).Pairwise (· > ·):=zkO _ fun i hi=>by
   have:=h (i + 1) (by simp at hi; omega)
   rw [zfv,zfv] at this
   exact this
 refine ⟨⟨pw,fun y hy=>?_⟩,?_⟩
 . rcases List.mem_append.mp hy with z | z
   . exact Rat.le_of_lt ((List.pairwise_append.mp pw).2.2 y z 0 (List.mem_singleton.mpr rfl))
   . rw [List.mem_singleton.mp z]; exact Rat.le_refl
 . have:=h 0 (by omega)
   rw [zfv] at this
   exact this
theorem zj4 (c : Rat) (xs : List Rat) : znq c xs xs = xs:=zeE (zjI rfl) fun i hi=>by
 rw [zjI rfl] at hi
 rw [zi1 rfl hi]
 grind
def zaC (a b : Rat) (ns : List Int) (xs : List Rat) (k : Nat) : Bool:=zc0 a b ns (zbe a b ns k xs)
theorem zow {a b : Rat} {ns : List Int} (ok : zaK a b) (sz : zaz ns) {k : Nat} (hk : k <= 31) : zgc a b ns k:=⟨ok,sz,by omega,by
 have h1:=sz.sum
 have h2 : (6 * ns.sum.toNat + 1 + 1) * k <= 50 * k:=Nat.mul_le_mul_right k (by omega)
 omega⟩
theorem zsY {a b : Rat} {ns : List Int} {xs : List Rat} {m : Nat} (ok : zaK a b) (sz : zaz ns) (c : Cm m xs) {k : Nat} (hk : k <= 31) : Cm (m + 188 + 102 * k) (zbe a b ns k xs):=(zrx (zow ok sz hk) c).mono (by
 have h1:=sz.sum
 have h2 : (6 * ns.sum.toNat + 3) * k <= 51 * k:=Nat.mul_le_mul_right k (by omega)
 omega)
theorem zpE {a b : Rat} {ns : List Int} {xs : List Rat} {m : Nat} (ok : zaK a b) (sz : zaz ns) (hn : ns.length = xs.length + 1) (c : Cm m xs) (hm : m <= 3700) {k : Nat} (hk : k <= 30) : za1 a b ns (zbe a b ns k xs):=⟨ok.ba,ok.bb,fun n hn=>by have:=sz.each n hn; omega,by rw [zaG]; exact hn,by have:=sz.few; omega,⟨_,zsY ok sz c (by omega),by have:=sz.few; have:=sz.upTo; omega⟩⟩
def zcG (K : PySem.W.Frag) (a : Ad) : Sp:=fun vs H Q E=>∃ x0 x1 x2,vs = [x0,x1,x2] /\ ∃ (ra rb : Rat) (ns : List Int) (xs : List Rat) (n : Nat),Is K H x0 (R ra rb) /\ Is K H x1 (TZ ns) /\ Is K H x2 (TN xs) /\ zaK ra rb /\ zaz ns /\ ns.length = xs.length + 1 /\ n <= 30 /\ (n = 30 \/ zaC ra rb ns xs n = false) /\ (∀ k,k <= n -> za1 ra rb ns (zbe ra rb ns k xs)) /\ (∀ k,k < n -> ∀ j,Bdr 6900 ((zbe ra rb ns k xs).getD j 0)) /\
 (zaC ra rb ns xs 0 = false -> ∀ H',zai H H' -> Q (.int 0) H') /\
 (zaC ra rb ns xs 0 = true -> za6 ra rb ns xs = true -> ∀ H',zai H H' -> Q .non H') /\
 (∀ c : Nat,1 <= c -> c <= 30 -> za6 ra rb ns xs = false -> (∀ k,k < c -> zaC ra rb ns xs k = true) -> zaC ra rb ns xs c = false -> ∀ H',zai H H' -> Q (.int (c : Int)) H') /\
 (za6 ra rb ns xs = false -> (∀ k,k <= 30 -> zaC ra rb ns xs k = true) -> ∀ H',zai H H' -> E (.ref a.C_TooLong) none H')
theorem zg0 {K : PySem.W.Frag} {a : Ad} {H : Hp} {Q : VK} {E : XK} {ra rb : Rat} {ns : List Int} {xs : List Rat} {n : Nat} {v w u : V} (h1 : Is K H v (R ra rb)) (h2 : Is K H w (TZ ns)) (h3 : Is K H u (TN xs)) (ok : zaK ra rb) (sz : zaz ns) (hn : ns.length = xs.length + 1) (n30 : n <= 30) (stop : n = 30 \/ zaC ra rb ns xs n = false) (rd : ∀ k,k <= n -> za1 ra rb ns (zbe ra rb ns k xs)) (bd : ∀ k,k < n -> ∀ j,Bdr 6900 ((zbe ra rb ns k xs).getD j 0))
   (q0 : zaC ra rb ns xs 0 = false -> ∀ H',zai H H' -> Q (.int 0) H')
   (q1 : zaC ra rb ns xs 0 = true -> za6 ra rb ns xs = true -> ∀ H',zai H H' -> Q .non H')
   (q2 : ∀ c : Nat,1 <= c -> c <= 30 -> za6 ra rb ns xs = false -> (∀ k,k < c -> zaC ra rb ns xs k = true) -> zaC ra rb ns xs c = false -> ∀ H',zai H H' -> Q (.int (c : Int)) H')
   (q3 : za6 ra rb ns xs = false -> (∀ k,k <= 30 -> zaC ra rb ns xs k = true) -> ∀ H',zai H H' -> E (.ref a.C_TooLong) none H') : zcG K a [v,w,u] H Q E:=⟨_,_,_,rfl,ra,rb,ns,xs,n,h1,h2,h3,ok,sz,hn,n30,stop,rd,bd,q0,q1,q2,q3⟩
theorem zh4 {K : PySem.W.Frag} {a : Ad} {H : Hp} {Q : VK} {E : XK} {ra rb : Rat} {ns : List Int} {xs : List Rat} {m : Nat} {v w u : V} (h1 : Is K H v (R ra rb)) (h2 : Is K H w (TZ ns)) (h3 : Is K H u (TN xs)) (ok : zaK ra rb) (sz : zaz ns) (hn : ns.length = xs.length + 1) (c : Cm m xs) (hm : m <= 3700)
   (q0 : zaC ra rb ns xs 0 = false -> ∀ H',zai H H' -> Q (.int 0) H')
   (q1 : zaC ra rb ns xs 0 = true -> za6 ra rb ns xs = true -> ∀ H',zai H H' -> Q .non H')
   (q2 : ∀ c : Nat,1 <= c -> c <= 30 -> za6 ra rb ns xs = false -> (∀ k,k < c -> zaC ra rb ns xs k = true) -> zaC ra rb ns xs c = false -> ∀ H',zai H H' -> Q (.int (c : Int)) H')
   (q3 : za6 ra rb ns xs = false -> (∀ k,k <= 30 -> zaC ra rb ns xs k = true) -> ∀ H',zai H H' -> E (.ref a.C_TooLong) none H') : zcG K a [v,w,u] H Q E :=
 zg0 h1 h2 h3 ok sz hn (Nat.le_refl 30) (.inl rfl) (fun k hk=>zpE ok sz hn c hm hk) (fun k hk j=>((zsY ok sz c (k:=k) (by omega)).get j).mono (by omega)) q0 q1 q2 q3
set_option maxHeartbeats 4000000 in
theorem zhs (T : Txt K mg a) : zbd P w K mg base (CX1 P w) 11 a.free_rounds a.fd_free_rounds ["rule","sizes","places"] (zcG K a):=by
 refine T.F_free_rounds.ok1 zcb (fun vs H Q E h=>by obtain ⟨_,_,_,rfl,_⟩:=h; rfl) (fun cdv A outer s H vs Q E hr h=>?_)
 obtain ⟨x0,x1,x2,rfl,h⟩:=h
 have hu:=hr.units
 refine ⟨_,(zad (za4 (zdz (zb3 (zaf (zfA T) (hr.mono (by decide)) rfl T.g_is_free T.F_is_free.kp T.b_is_free .nil zaj (zaa (pv 0) (zaa (pv 1) (zaa (pv 2) zab)))))) (zag (zan zac)) zaF)
     (zad (za4 (zb3 (zaf (zin T) (hr.mono (by decide)) rfl T.g_stays_free T.F_stays_free.kp T.b_stays_free .nil zaj (zaa (pv 0) (zaa (pv 1) (zaa (pv 2) zab))))) (zag (zan zdY)) zaF)
     (zad (zak (i:=3) zcb.nd rfl (Or.inl rfl) (zaf (zci T) (hr.mono (by decide)) rfl T.g_round_map T.F_round_map.kp T.b_round_map .nil zaj (zaa (pv 0) (zaa (pv 1) zab))))
     (zad (zak (i:=4) zcb.nd rfl (Or.inl rfl) (pv 2))
     (zad (zc8 PassesOwn.leaving rfl (zmR rfl T.z_range (zaa zac (zaa (zal zau (zoi rfl T.c_MOST_FREE) zac) zab))) (zaA (i:=5) zcb.nd rfl (Or.inl rfl)) (zad (zak (i:=4) zcb.nd rfl (Or.inl rfl) (zaf (zmT T) (hr.mono (by decide)) rfl T.g_led_on T.F_led_on.kp T.b_led_on .nil zaj (zaa (pv 3) (zaa (pv 4) (zaa zac zab)))))
     (zag (za4 (zdz (zb3 (zaf (zfA T) (hr.mono (by decide)) rfl T.g_is_free T.F_is_free.kp T.b_is_free .nil zaj (zaa (pv 0) (zaa (pv 1) (zaa (pv 4) zab)))))) (zag (zan (pv 5))) zaF))))
     (zag (zn0 T.x_TooLong rfl rfl T.g_TooLong zr0 (zaa zbD zab)))))))),?_⟩
 clear hu
 try clear hgd
 try dsimp only [za8,zaQ]
 rw [show start ["rule","sizes","places","both","ahead","count"] [x0,x1,x2] = [some x0,some x1,some x2,none,none,none] from rfl]
 obtain ⟨ra,rb,ns,xs,n,hr',hn',hx',ok,sz,hn,n30,stop,rd,bd,q0,q1,q2,q3⟩:=h
 have h8:=sz.few
 have h1:=sz.some
 have hps:=sz.pos
 have e0 : zaC ra rb ns xs 0 = zc0 ra rb ns xs:=by unfold zaC; rw [zc3]
 have r0 : za1 ra rb ns xs:=by have:=rd 0 (by omega); rw [zc3] at this; exact this
 wtm_at "gg"
 refine zfD hr' hn' hx' r0 (fun H1 S1=>?_)
 wtm_at "gg"
 . rename_i z
   exact q0 (by rw [e0]; exact z) H1 S1
 . rename_i z
   have hr1:=hr'.by S1
   have hn1:=hn'.by S1
   have hx1:=hx'.by S1
   refine zik hr1 hn1 hx1 ok sz (fun H2 S2=>?_)
   wtm_at "gg"
   . rename_i y
     exact q1 (by rw [e0]; exact z) y H2 (S1.trans S2)
   . rename_i y
     have y : za6 ra rb ns xs = false:=by first | exact y | exact Bool.not_eq_true _ ▸ y
     refine zcd (hr1.by S2) (hn1.by S2) (zbA ok sz) (by omega) (by omega) (fun v3 H3 S3 i3=>?_)
     have T3 : zai H H3:=S1.trans (S2.trans S3)
     have hr3:=hr'.by T3
     have hn3:=hn'.by T3
     have hx3:=hx'.by T3
     clear hr1 hn1 hx1 S1 S2 S3
     wtm_at "gg"
     refine znW ?_
     wtm_at "gg"
     refine zlv (lo:=1) (hi:=31) (by decide) (by decide) (by decide) (by decide) (fun i σ H'=>∃ (v : V) (o : Option V),σ = [some x0,some x1,some x2,some v3,some v,o] /\ zai H3 H' /\ Is K H' v (TN (zbe ra rb ns i xs)) /\ ∀ k,k <= i -> zaC ra rb ns xs k = true) ⟨_,_,rfl,zai.refl _,by rw [zc3]; exact hx3,fun k hk=>by rw [show k = 0 by omega,e0]; exact z⟩ ?_ ?_
     . rintro i σ H4 hi ⟨v,o,rfl,S4,iv,fr⟩
       have hi : i < 30:=hi
       have i34:=i3.by S4
       have hin : i < n:=by
         rcases stop with e | e
         . omega
         . rcases Nat.lt_or_ge i n with u | u
           . exact u
           . rw [fr n u] at e; cases e
       wtm_at "gg"
       refine zmS (ss:=zaR ra rb ns) i34 iv (by decide) (by decide) (by rw [zey h1,zaG]; omega) (by rw [zaG]; omega) ((zgb ok _).mono (by have:=sz.sum; omega)) (fun j hj=>((zow ok sz (k:=1) (by decide)).pow hj).mono (by decide)) (fun j hj=>((zow ok sz (k:=1) (by decide)).shf hj).mono (by decide)) (fun j=>bd i hin j) (fun j=>(zbW ok sz j).mono (by decide)) (fun v5 H5 S5 i5=>?_)
       have i5 : Is K H5 v5 (TN (zbe ra rb ns 1 (zbe ra rb ns i xs))):=i5
       rw [zib] at i5
       have T5:=S4.trans S5
       wtm_at "gg"
       refine zfD (hr3.by T5) (hn3.by T5) i5 (rd (i + 1) (by omega)) (fun H6 S6=>?_)
       have T6:=T5.trans S6
       wtm_at "gg"
       . rename_i w
         have q:=q2 (i + 1) (by omega) (by omega) y (fun k hk=>fr k (by omega)) (by unfold zaC; exact w) H6 (T3.trans T6)
         rw [show ((i + 1 : Nat) : Int) = 1 + (i : Int) by omega] at q
         exact q
       . rename_i w
         refine ⟨_,_,rfl,T6,i5.by S6,fun k hk=>?_⟩
         rcases Nat.lt_or_ge k (i + 1) with u | u
         . exact fr k (by omega)
         . have : k = i + 1:=by omega
           subst this
           unfold zaC
           first | exact w | exact Bool.not_eq_false _ ▸ w
     . rintro σ H4 ⟨v,o,rfl,S4,iv,fr⟩
       wtm_at "gg"
       exact ⟨by simp; decide,q3 y (fun k hk=>fr k hk) H4 (T3.trans S4)⟩
def zgK (K : PySem.W.Frag) : Sp:=fun vs H Q _=>∃ x0 x1,vs = [x0,x1] /\ ∃ (f g x : Rat),Is K H x0 (R f g) /\ Is K H x1 (N x) /\ Bdr 8999 f /\ Bdr 8999 g /\ Bdr 8999 x /\ Bdr 8999 (x - g) /\ f ≠ 0 /\ ∀ v H',zai H H' -> Is K H' v (N ((x - g) / f)) -> Q v H'
theorem zdF {K : PySem.W.Frag} {H : Hp} {Q : VK} {E : XK} {f g x : Rat} {v w : V} (h1 : Is K H v (R f g)) (h2 : Is K H w (N x)) (b1 : Bdr 8999 f) (b2 : Bdr 8999 g) (b3 : Bdr 8999 x) (b4 : Bdr 8999 (x - g)) (hf : f ≠ 0) (q : ∀ v H',zai H H' -> Is K H' v (N ((x - g) / f)) -> Q v H') : zgK K [v,w] H Q E:=⟨_,_,rfl,f,g,x,h1,h2,b1,b2,b3,b4,hf,q⟩
set_option maxHeartbeats 4000000 in
theorem zdJ (T : Txt K mg a) : zbd P w K mg base CX0 4 a.ahead_of a.fd_ahead_of ["push","x"] (zgK K):=by
 refine T.F_ahead_of.ok zkT (fun vs H Q E h=>by obtain ⟨_,_,rfl,_⟩:=h; rfl) (fun cdv A outer s H vs Q E hr h=>?_)
 obtain ⟨x0,x1,rfl,h⟩:=h
 have hu:=hr.units
 refine ⟨_,(zag (zan (zaf (zl8 T) (hr.mono (by decide)) rfl T.g_over T.F_over.kp T.b_over .nil zaj (zaa (zaf (zgd T) (hr.mono (by decide)) rfl T.g_minus T.F_minus.kp T.b_minus .nil zaj (zaa (pv 1) (zaa (zam zah (pv 0) zac (fun _ _=>rfl)) zab))) (zaa (zam zah (pv 0) zac (fun _ _=>rfl)) zab))))),?_⟩
 clear hu
 try clear hgd
 try dsimp only [za8,zaQ]
 rw [show start ["push","x"] [x0,x1] = [some x0,some x1] from rfl]
 obtain ⟨f,g,x,hp,hx,bf,bg,bx,bd,hf,q⟩:=h
 wtm_at "gg"
 rename_i v1 i1 v2 H2 S2 i2 v3 i3
 refine zlY i2 i3 bd bf hf (fun v4 H4 S4 i4=>?_)
 wtm_at "gg"
 exact q v4 H4 (S2.trans S4) i4
def zfo (K : PySem.W.Frag) : Sp:=fun vs H Q _=>∃ x0 x1,vs = [x0,x1] /\ ∃ (x y : Rat),Is K H x0 (N x) /\ Is K H x1 (N y) /\ Bdr 8999 x /\ Bdr 8999 y /\ ∀ v,Is K H v (N (if x < y then y else x)) -> Q v H
theorem zfj {K : PySem.W.Frag} {H : Hp} {Q : VK} {E : XK} {x y : Rat} {v w : V} (h1 : Is K H v (N x)) (h2 : Is K H w (N y)) (b1 : Bdr 8999 x) (b2 : Bdr 8999 y) (q : ∀ v,Is K H v (N (if x < y then y else x)) -> Q v H) : zfo K [v,w] H Q E:=⟨_,_,rfl,x,y,h1,h2,b1,b2,q⟩
set_option maxHeartbeats 4000000 in
theorem zfm (T : Txt K mg a) : zbd P w K mg base CX0 2 a.greater_of a.fd_greater_of ["one","other"] (zfo K):=by
 refine T.F_greater_of.ok zim (fun vs H Q E h=>by obtain ⟨_,_,rfl,_⟩:=h; rfl) (fun cdv A outer s H vs Q E hr h=>?_)
 obtain ⟨x0,x1,rfl,h⟩:=h
 have hu:=hr.units
 refine ⟨_,(zag (zan (zf9 (zb3 (zaf (zew T) (hr.mono (by decide)) rfl T.g_less T.F_less.kp T.b_less .nil zaj (zaa (pv 0) (zaa (pv 1) zab)))) (pv 1) (pv 0)))),?_⟩
 clear hu
 try clear hgd
 try dsimp only [za8,zaQ]
 rw [show start ["one","other"] [x0,x1] = [some x0,some x1] from rfl]
 obtain ⟨x,y,hx,hy,bx,by',q⟩:=h
 wtm_at "gg"
 . rename_i z
   exact q x1 (by rw [if_pos z]; exact hy)
 . rename_i z
   exact q x0 (by rw [if_neg z]; exact hx)
def zge (K : PySem.W.Frag) : Sp:=fun vs H Q _=>∃ x0 x1,vs = [x0,x1] /\ ∃ (x y : Rat),Is K H x0 (N x) /\ Is K H x1 (N y) /\ Bdr 8999 x /\ Bdr 8999 y /\ ∀ v,Is K H v (N (if y < x then y else x)) -> Q v H
theorem zga {K : PySem.W.Frag} {H : Hp} {Q : VK} {E : XK} {x y : Rat} {v w : V} (h1 : Is K H v (N x)) (h2 : Is K H w (N y)) (b1 : Bdr 8999 x) (b2 : Bdr 8999 y) (q : ∀ v,Is K H v (N (if y < x then y else x)) -> Q v H) : zge K [v,w] H Q E:=⟨_,_,rfl,x,y,h1,h2,b1,b2,q⟩
set_option maxHeartbeats 4000000 in
theorem zf3 (T : Txt K mg a) : zbd P w K mg base CX0 2 a.lesser_of a.fd_lesser_of ["one","other"] (zge K):=by
 refine T.F_lesser_of.ok zjP (fun vs H Q E h=>by obtain ⟨_,_,rfl,_⟩:=h; rfl) (fun cdv A outer s H vs Q E hr h=>?_)
 obtain ⟨x0,x1,rfl,h⟩:=h
 have hu:=hr.units
 refine ⟨_,(zag (zan (zf9 (zb3 (zaf (zew T) (hr.mono (by decide)) rfl T.g_less T.F_less.kp T.b_less .nil zaj (zaa (pv 1) (zaa (pv 0) zab)))) (pv 1) (pv 0)))),?_⟩
 clear hu
 try clear hgd
 try dsimp only [za8,zaQ]
 rw [show start ["one","other"] [x0,x1] = [some x0,some x1] from rfl]
 obtain ⟨x,y,hx,hy,bx,by',q⟩:=h
 wtm_at "gg"
 . rename_i z
   exact q x1 (by rw [if_pos z]; exact hy)
 . rename_i z
   exact q x0 (by rw [if_neg z]; exact hx)
@[irreducible] def gk (F s : Rat) (k : Nat) (x : Rat) : Rat:=(x - shf F s k) / F ^ k
theorem zjT {F s : Rat} (hF : 0 < F) (k : Nat) (x : Rat) : gk F s k x * F ^ k + shf F s k = x:=by
 have hp:=zbt hF k
 have : (x - shf F s k) / F ^ k * F ^ k = x - shf F s k:=Rat.div_mul_cancel (fun e=>by rw [e] at hp; exact absurd hp (by decide))
 unfold gk
 rw [this]
 grind
def zez (F s L : Rat) (k : Nat) : Rat:=if L < gk F s k L then gk F s k L else L
def zdb (F s U : Rat) (k : Nat) : Rat:=if gk F s k U < U then gk F s k U else U
theorem zsf (F s L : Rat) (k : Nat) : L <= zez F s L k:=by
 unfold zez
 split
 . rename_i z; exact Rat.le_of_lt z
 . exact Rat.le_refl
theorem zpf (F s U : Rat) (k : Nat) : zdb F s U k <= U:=by
 unfold zdb
 split
 . rename_i z; exact Rat.le_of_lt z
 . exact Rat.le_refl
theorem zg7 {k : Nat} {x : Int} (h : Bd k x) : ∀ n : Nat,Bd (k * n + 1) (x ^ n)
 | 0=>⟨by simp⟩
 | n + 1=>by
   rw [Int.pow_succ]
   exact ((zg7 h n).mul h).mono (by rw [Nat.mul_add]; omega)
theorem ziw {a b : Rat} {m n : Nat} (ba : Bdr m a) (bb : Bdr n b) : ∀ k : Nat,∃ T : Int,shf a b k = Rat.divInt T ((a.den : Int) ^ k * (b.den : Int)) /\ Bd (m * k + n + 2 * k + 1) T
 | 0=>⟨0,by simp [shf],⟨by simp; exact Nat.two_pow_pos _⟩⟩
 | k + 1=>by
   obtain ⟨T,e,hT⟩:=ziw ba bb k
   have hd : 0 < (a.den : Int) ^ k * (b.den : Int):=Int.mul_pos (Int.pow_pos (den_pos a)) (den_pos b)
   have hd2 : 0 < (a.den : Int) ^ (k + 1) * (b.den : Int):=Int.mul_pos (Int.pow_pos (den_pos a)) (den_pos b)
   refine ⟨a.num * T + b.num * (a.den : Int) ^ (k + 1),?_,(((ba.t.mul hT).add (bb.t.mul (zg7 ba.b (k + 1)))).mono (by rw [Nat.mul_add]; omega))⟩
   symm
   refine zbc (by omega) ?_
   show (a * shf a b k + b) * _ = _
   have h1:=zap T (show (a.den : Int) ^ k * (b.den : Int) ≠ 0 by omega)
   rw [<- e] at h1
   have h2:=zbi a
   have h3:=zbi b
   rw [Rat.intCast_mul] at h1
   rw [Rat.intCast_mul,Int.pow_succ,Rat.intCast_mul,Rat.intCast_add,Rat.intCast_mul,Rat.intCast_mul,Rat.intCast_mul,<- h1,<- h2,<- h3]
   grind
theorem zhC {a b : Rat} {m n : Nat} (ba : Bdr m a) (bb : Bdr n b) (k : Nat) : Bdr (m * k + n + 2 * k + 1) (shf a b k):=by
 obtain ⟨T,e,hT⟩:=ziw ba bb k
 have hd : 0 < (a.den : Int) ^ k * (b.den : Int):=Int.mul_pos (Int.pow_pos (den_pos a)) (den_pos b)
 rw [e]
 exact Bdr.divInt (by omega) hT (((zg7 ba.b k).mul bb.b).mono (by omega))
@[irreducible] def zdA (a b : Rat) (n : Nat) : Rat:=if 0 < 1 - (1 - shf a b n) / a ^ n then 1 - (1 - shf a b n) / a ^ n else 0
@[irreducible] def zek (F s : Rat) : Rat:=if (1 - s) / F < 1 then (1 - s) / F else 1
theorem zkR {a b : Rat} {n : Nat} (ba : Bdr 10 a) (bb : Bdr 10 b) (hn : n <= 8) (ha : a ^ n ≠ 0) : Bdr 300 (zdA a b n):=by
 unfold zdA
 split
 . exact (Bdr.one.sub ((Bdr.one.sub (ba.shf bb n)).div (ba.pow n) ha)).mono (by omega)
 . exact Bdr.zero.mono (by decide)
theorem zj5 {F s : Rat} (bF : Bdr 81 F) (bs : Bdr 200 s) (hF : F ≠ 0) : Bdr 300 (zek F s):=by
 unfold zek
 split
 . exact ((Bdr.one.sub bs).div bF hF).mono (by decide)
 . exact Bdr.one.mono (by decide)
def zf6 (K : PySem.W.Frag) : Sp:=fun vs H Q _=>∃ x0 x1 x2,vs = [x0,x1,x2] /\ ∃ (a b F s : Rat) (n0 n1 : Int),Is K H x0 (R a b) /\ Is K H x1 (TZ [n0,n1]) /\ Is K H x2 (R F s) /\ Bdr 10 a /\ Bdr 10 b /\ 0 < a /\ 0 <= n0 /\ n0 <= 8 /\ 0 < F /\ Bdr 81 F /\ Bdr 200 s /\ ∀ v H',zai H H' -> Is K H' v (R (zdA a b n0.toNat) (zek F s)) -> Q v H'
theorem zjl {K : PySem.W.Frag} {H : Hp} {Q : VK} {E : XK} {a b F s : Rat} {n0 n1 : Int} {v w u : V} (h1 : Is K H v (R a b)) (h2 : Is K H w (TZ [n0,n1])) (h3 : Is K H u (R F s)) (ba : Bdr 10 a) (bb : Bdr 10 b) (ha : 0 < a) (hn : 0 <= n0) (hn8 : n0 <= 8) (hF : 0 < F) (bF : Bdr 81 F) (bs : Bdr 200 s) (q : ∀ v H',zai H H' -> Is K H' v (R (zdA a b n0.toNat) (zek F s)) -> Q v H') : zf6 K [v,w,u] H Q E:=⟨_,_,_,rfl,a,b,F,s,n0,n1,h1,h2,h3,ba,bb,ha,hn,hn8,hF,bF,bs,q⟩
theorem zcS {x : Rat} (h : 0 < x) : x ≠ 0:=fun e=>by rw [e] at h; exact absurd h (by decide)
set_option maxHeartbeats 4000000 in
theorem zjH (T : Txt K mg a) : zbd P w K mg base CX0 5 a.free_ends a.fd_free_ends ["rule","sizes","whole"] (zf6 K):=by
 refine T.F_free_ends.ok zf5 (fun vs H Q E h=>by obtain ⟨_,_,_,rfl,_⟩:=h; rfl) (fun cdv A outer s H vs Q E hr h=>?_)
 obtain ⟨x0,x1,x2,rfl,h⟩:=h
 have hu:=hr.units
 refine ⟨_,(zad (zak (i:=3) zf5.nd rfl (Or.inl rfl) (zaf (zgd T) (hr.mono (by decide)) rfl T.g_minus T.F_minus.kp T.b_minus .nil zaj (zaa (zaM (v:=.ref a.k_ONE) rfl T.c_ONE rfl) (zaa (zaf (zdJ T) (hr.mono (by decide)) rfl T.g_ahead_of T.F_ahead_of.kp T.b_ahead_of .nil zaj (zaa (zaf (zd4 T) (hr.mono (by decide)) rfl T.g_pushes T.F_pushes.kp T.b_pushes .nil zaj (zaa (pv 0) (zaa (zam zah (pv 1) zac (fun _ _=>rfl)) zab))) (zaa (zaM (v:=.ref a.k_ONE) rfl T.c_ONE rfl) zab))) zab))))
     (zag (zan (zay (zaa (zaf (zfm T) (hr.mono (by decide)) rfl T.g_greater_of T.F_greater_of.kp T.b_greater_of .nil zaj (zaa (zaM (v:=.ref a.k_NOUGHT) rfl T.c_NOUGHT rfl) (zaa (pv 3) zab))) (zaa (zaf (zf3 T) (hr.mono (by decide)) rfl T.g_lesser_of T.F_lesser_of.kp T.b_lesser_of .nil zaj (zaa (zaM (v:=.ref a.k_ONE) rfl T.c_ONE rfl) (zaa (zaf (zdJ T) (hr.mono (by decide)) rfl T.g_ahead_of T.F_ahead_of.kp T.b_ahead_of .nil zaj (zaa (pv 2) (zaa (zaM (v:=.ref a.k_ONE) rfl T.c_ONE rfl) zab))) zab))) zab)))))),?_⟩
 clear hu
 try clear hgd
 try dsimp only [za8,zaQ]
 rw [show start ["rule","sizes","whole","low"] [x0,x1,x2] = [some x0,some x1,some x2,none] from rfl]
 obtain ⟨ra,rb,F,s',n0,n1,hr',hn',hw,ba,bb,ha,h0,h8,hF,bF,bs,q⟩:=h
 have hA:=zcS (zbt ha n0.toNat)
 have bA : Bdr 100 (ra ^ n0.toNat):=(ba.pow _).mono (by omega)
 have bB : Bdr 200 (shf ra rb n0.toNat):=(ba.shf bb _).mono (by omega)
 have b1B : Bdr 202 (1 - shf ra rb n0.toNat):=(Bdr.one.sub bB).mono (by decide)
 have bq : Bdr 302 ((1 - shf ra rb n0.toNat) / ra ^ n0.toNat):=(b1B.div bA hA).mono (by decide)
 have bl : Bdr 304 (1 - (1 - shf ra rb n0.toNat) / ra ^ n0.toNat):=(Bdr.one.sub bq).mono (by decide)
 have b1s : Bdr 202 (1 - s'):=(Bdr.one.sub bs).mono (by decide)
 have bu : Bdr 283 ((1 - s') / F):=b1s.div bF (zcS hF)
 wtm_at "gg"
 refine zqc (m:=0) hn' (by decide) (by simp) ?_
 rw [show ([n0,n1].getD (0 : Int).toNat 0) = n0 from rfl]
 wtm_at "gg"
 refine zgz hr' ba bb h0 (by omega) (fun v1 H1 S1 i1=>?_)
 wtm_at "gg"
 refine zdF i1 (zda 1 (T.t_ONE _) rfl rfl) (bA.mono (by decide)) (bB.mono (by decide)) (Bdr.one.mono (by decide)) (b1B.mono (by decide)) hA (fun v2 H2 S2 i2=>?_)
 wtm_at "gg"
 rename_i v3 H3 S3 i3
 have T3:=S1.trans (S2.trans S3)
 refine zfj (zda 0 (T.t_NOUGHT _) rfl rfl) i3 (Bdr.zero.mono (by decide)) (bl.mono (by decide)) (fun v4 i4=>?_)
 wtm_at "gg"
 refine zdF (hw.by T3) (zda 1 (T.t_ONE _) rfl rfl) (bF.mono (by decide)) (bs.mono (by decide)) (Bdr.one.mono (by decide)) (b1s.mono (by decide)) (zcS hF) (fun v5 H5 S5 i5=>?_)
 wtm_at "gg"
 refine zga (zda 1 (T.t_ONE _) rfl rfl) i5 (Bdr.one.mono (by decide)) (bu.mono (by decide)) (fun v6 i6=>?_)
 wtm_at "gg"
 refine zh1 (i4.by S5) i6 (fun v7 H7 S7 i7=>?_)
 exact q v7 H7 (T3.trans (S5.trans S7)) (by unfold zdA zek; exact i7)
@[irreducible] def zaU (a b : Rat) (n0 n1 : Int) : Rat:=(zaJ a b [n0,n1] [0]).getD 0 0
structure zeI (n0 n1 : Int) : Prop where
 p0 : 1 <= n0
 p1 : 1 <= n1
 few : n0 + n1 <= 8
theorem zkx {n0 n1 : Int} (h : zeI n0 n1) : upTo [n0,n1] 2 <= 8:=by
 have h0:=h.p0
 have h1:=h.p1
 have h2:=h.few
 show ([n0.toNat,n1.toNat] : List Nat).sum <= 8
 simp
 omega
theorem zeI.round {a b : Rat} {n0 n1 : Int} (h : zeI n0 n1) (ba : Bdr 10 a) (bb : Bdr 10 b) {x : Rat} {m : Nat} (hx : Bdr m x) (hm : m <= 7500) : za1 a b [n0,n1] [x]:=by
 have h0:=h.p0
 have h1:=h.p1
 have h2:=h.few
 have hu:=zkx h
 refine ⟨ba,bb,fun n hn=>?_,rfl,by simp,⟨m,⟨(x.den : Int),den_pos x,hx.b,fun y hy=>⟨x.num,?_,hx.t⟩⟩,?_⟩⟩
 . rcases List.mem_cons.mp hn with rfl | hn
   . omega
   . rw [List.mem_singleton.mp hn]; omega
 . rw [List.mem_singleton.mp hy,Rat.num_divInt_den]
 . show m + 2 * 2 + 21 * upTo [n0,n1] 2 <= 8000
   omega
theorem zeI.led {a b : Rat} {n0 n1 : Int} (h : zeI n0 n1) (x : Rat) : zaJ a b [n0,n1] [x] = [a ^ (n0 + n1).toNat * x + zaU a b n0 n1]:=by
 have h0:=h.p0
 have h1:=h.p1
 have hl:=zdy (a:=a) (b:=b) (ns:=[n0,n1]) (xs:=[x]) rfl
 have hg:=zfl (a:=a) (b:=b) (ns:=[n0,n1]) (xs:=[x]) rfl (fun n hn=>by
   rcases List.mem_cons.mp hn with rfl | hn
   . omega
   . rw [List.mem_singleton.mp hn]; omega) (i:=0) (by simp)
 have es : ([n0,n1] : List Int).sum = n0 + n1:=by simp
 rw [es] at hg
 match zaJ a b [n0,n1] [x],hl,hg with
 | [y],_,hg =>
   have hg : y = _:=hg
   rw [hg]
   unfold zaU
   rfl
theorem zee {a b : Rat} {n0 n1 : Int} (h : zeI n0 n1) (ba : Bdr 10 a) (bb : Bdr 10 b) : Bdr 200 (zaU a b n0 n1):=by
 have hu:=zkx h
 have:=(ze5 (ns:=[n0,n1]) ba bb (zeM 1)).get 0
 unfold zaU
 refine this.mono ?_
 show 1 + 2 * 2 + 21 * upTo [n0,n1] 2 <= 200
 omega
theorem zhh {F s L : Rat} {k : Nat} (hF : 0 < F) (bF : Bdr 81 F) (bs : Bdr 200 s) (bL : Bdr 300 L) (hk : k <= 29) : Bdr 3000 (L - shf F s k) /\ Bdr 5400 (gk F s k L):=by
 have b1 : Bdr 2999 (L - shf F s k):=(bL.sub (zhC bF bs k)).mono (by omega)
 exact ⟨b1.mono (by decide),by unfold gk; exact (b1.div (bF.pow k) (fun e=>by have:=zbt hF k; rw [e] at this; exact absurd this (by decide))).mono (by omega)⟩
structure zb6 (a b : Rat) (n0 n1 : Int) : Prop where
 ok : zaK a b
 two : zeI n0 n1
@[irreducible] def zaD (a : Rat) (n0 n1 : Int) : Rat:=a ^ (n0 + n1).toNat
theorem zb6.fac {a b : Rat} {n0 n1 : Int} (h : zb6 a b n0 n1) : 0 < zaD a n0 n1 /\ Bdr 81 (zaD a n0 n1):=by
 have h0:=h.two.p0
 have h1:=h.two.p1
 have h2:=h.two.few
 unfold zaD
 exact ⟨zbt h.ok.a0 _,(h.ok.ba.pow _).mono (by omega)⟩
@[irreducible] def zdi (a b : Rat) (n0 n1 : Int) (k : Nat) : Rat:=zez (zaD a n0 n1) (zaU a b n0 n1) (zdA a b n0.toNat) k
@[irreducible] def zdl (a b : Rat) (n0 n1 : Int) (k : Nat) : Rat:=zdb (zaD a n0 n1) (zaU a b n0 n1) (zek (zaD a n0 n1) (zaU a b n0 n1)) k
theorem zb6.lo {a b : Rat} {n0 n1 : Int} (h : zb6 a b n0 n1) {k : Nat} (hk : k <= 29) : Bdr 5400 (zdi a b n0 n1 k):=by
 have h2:=h.two.few
 have h1:=h.two.p1
 have bL:=zkR (n:=n0.toNat) h.ok.ba h.ok.bb (by omega) (zcS (zbt h.ok.a0 _))
 unfold zdi zez
 split
 . exact (zhh h.fac.1 h.fac.2 (zee h.two h.ok.ba h.ok.bb) bL hk).2
 . exact bL.mono (by decide)
theorem zb6.hi {a b : Rat} {n0 n1 : Int} (h : zb6 a b n0 n1) {k : Nat} (hk : k <= 29) : Bdr 5400 (zdl a b n0 n1 k):=by
 have bU:=zj5 h.fac.2 (zee h.two h.ok.ba h.ok.bb) (zcS h.fac.1)
 unfold zdl zdb
 split
 . exact (zhh h.fac.1 h.fac.2 (zee h.two h.ok.ba h.ok.bb) bU hk).2
 . exact bU.mono (by decide)
def zh7 (K : PySem.W.Frag) : Sp:=fun vs H Q _=>∃ x0 x1 x2,vs = [x0,x1,x2] /\ ∃ (a b : Rat) (n0 n1 many : Int),x2 = .int many /\ Is K H x0 (R a b) /\ Is K H x1 (TZ [n0,n1]) /\ zb6 a b n0 n1 /\ 1 <= many /\ many <= 30 /\ (zdi a b n0 n1 (many - 1).toNat < zdl a b n0 n1 (many - 1).toNat -> ∀ v H',zai H H' -> Is K H' v (R (zdi a b n0 n1 (many - 1).toNat) (zdl a b n0 n1 (many - 1).toNat)) -> Q v H') /\ (¬ zdi a b n0 n1 (many - 1).toNat < zdl a b n0 n1 (many - 1).toNat -> ∀ H',zai H H' -> Q .non H')
theorem zlf {K : PySem.W.Frag} {H : Hp} {Q : VK} {E : XK} {a b : Rat} {n0 n1 many : Int} {v w : V} (h1 : Is K H v (R a b)) (h2 : Is K H w (TZ [n0,n1])) (ok : zb6 a b n0 n1) (hm : 1 <= many) (hm30 : many <= 30) (q1 : zdi a b n0 n1 (many - 1).toNat < zdl a b n0 n1 (many - 1).toNat -> ∀ v H',zai H H' -> Is K H' v (R (zdi a b n0 n1 (many - 1).toNat) (zdl a b n0 n1 (many - 1).toNat)) -> Q v H') (q2 : ¬ zdi a b n0 n1 (many - 1).toNat < zdl a b n0 n1 (many - 1).toNat -> ∀ H',zai H H' -> Q .non H') : zh7 K [v,w,.int many] H Q E:=⟨_,_,_,rfl,a,b,n0,n1,many,rfl,h1,h2,ok,hm,hm30,q1,q2⟩
set_option maxHeartbeats 4000000 in
theorem zld (T : Txt K mg a) : zbd P w K mg base CX0 8 a.stretch a.fd_stretch ["rule","sizes","many"] (zh7 K):=by
 refine T.F_stretch.ok zcr (fun vs H Q E h=>by obtain ⟨_,_,_,rfl,_⟩:=h; rfl) (fun cdv A outer s H vs Q E hr h=>?_)
 obtain ⟨x0,x1,x2,rfl,h⟩:=h
 have hu:=hr.units
 refine ⟨_,(zad (zak (i:=3) zcr.nd rfl (Or.inl rfl) (zaf (zci T) (hr.mono (by decide)) rfl T.g_round_map T.F_round_map.kp T.b_round_map .nil zaj (zaa (pv 0) (zaa (pv 1) zab))))
     (zad (zak (i:=4) zcr.nd rfl (Or.inl rfl) (zay (zaa (zam zah (pv 3) zac (fun _ _=>rfl)) (zaa (zam zah (zam zah (pv 3) zac (fun _ _=>rfl)) zac (fun _ _=>rfl)) zab))))
     (zad (zak (i:=5) zcr.nd rfl (Or.inl rfl) (zaf (zjH T) (hr.mono (by decide)) rfl T.g_free_ends T.F_free_ends.kp T.b_free_ends .nil zaj (zaa (pv 0) (zaa (pv 1) (zaa (pv 4) zab)))))
     (zad (zak (i:=6) zcr.nd rfl (Or.inl rfl) (zaf (zd4 T) (hr.mono (by decide)) rfl T.g_pushes T.F_pushes.kp T.b_pushes .nil zaj (zaa (pv 4) (zaa (zal zck (pv 2) zac) zab))))
     (zad (zak (i:=7) zcr.nd rfl (Or.inl rfl) (zaf (zfm T) (hr.mono (by decide)) rfl T.g_greater_of T.F_greater_of.kp T.b_greater_of .nil zaj (zaa (zam zah (pv 5) zac (fun _ _=>rfl)) (zaa (zaf (zdJ T) (hr.mono (by decide)) rfl T.g_ahead_of T.F_ahead_of.kp T.b_ahead_of .nil zaj (zaa (pv 6) (zaa (zam zah (pv 5) zac (fun _ _=>rfl)) zab))) zab))))
     (zad (zak (i:=8) zcr.nd rfl (Or.inl rfl) (zaf (zf3 T) (hr.mono (by decide)) rfl T.g_lesser_of T.F_lesser_of.kp T.b_lesser_of .nil zaj (zaa (zam zah (pv 5) zac (fun _ _=>rfl)) (zaa (zaf (zdJ T) (hr.mono (by decide)) rfl T.g_ahead_of T.F_ahead_of.kp T.b_ahead_of .nil zaj (zaa (pv 6) (zaa (zam zah (pv 5) zac (fun _ _=>rfl)) zab))) zab))))
     (zag (zan (zf9 (zb3 (zaf (zew T) (hr.mono (by decide)) rfl T.g_less T.F_less.kp T.b_less .nil zaj (zaa (pv 7) (zaa (pv 8) zab)))) (zay (zaa (pv 7) (zaa (pv 8) zab))) zdY))))))))),?_⟩
 clear hu
 try clear hgd
 try dsimp only [za8,zaQ]
 rw [show start ["rule","sizes","many","both","whole","ends","last","low","high"] [x0,x1,x2] = [some x0,some x1,some x2,none,none,none,none,none,none] from rfl]
 obtain ⟨ra,rb,n0,n1,many,rfl,hr',hn',ok,hm,hm30,q1,q2⟩:=h
 have p0:=ok.two.p0
 have p1:=ok.two.p1
 have few:=ok.two.few
 have hF:=ok.fac.1
 have bF:=ok.fac.2
 have bs:=zee ok.two ok.ok.ba ok.ok.bb
 have bL:=zkR (n:=n0.toNat) ok.ok.ba ok.ok.bb (by omega) (zcS (zbt ok.ok.a0 _))
 have bU:=zj5 bF bs (zcS hF)
 have es : ([n0,n1] : List Int).sum = n0 + n1:=by simp
 have rok:=ok.two.round ok.ok.ba ok.ok.bb (x:=0) Bdr.zero (by decide)
 have bl2:=zhh hF bF bs bL (k:=(many - 1).toNat) (by omega)
 have bu2:=zhh hF bF bs bU (k:=(many - 1).toNat) (by omega)
 have blo:=ok.lo (k:=(many - 1).toNat) (by omega)
 have bhi:=ok.hi (k:=(many - 1).toNat) (by omega)
 have bP : Bdr 2400 (zaD ra n0 n1 ^ (many - 1).toNat):=(bF.pow _).mono (by omega)
 have bS : Bdr 3000 (shf (zaD ra n0 n1) (zaU ra rb n0 n1) (many - 1).toNat):=(zhC bF bs _).mono (by omega)
 have hP:=zcS (zbt hF (many - 1).toNat)
 wtm_at "gg"
 refine zcd hr' hn' rok (by rw [es]; omega) (by rw [es]; omega) (fun v1 H1 S1 i1=>?_)
 rw [es] at i1
 have i1 : Is K H1 v1 (.tuple [N (zaD ra n0 n1),TN (zaJ ra rb [n0,n1] [0])]):=by unfold zaD; exact i1
 wtm_at "gg"
 refine zcl (j:=0) i1 rfl (fun v2 i2=>?_)
 wtm_at "gg"
 refine zcl (j:=1) i1 rfl (fun v3 i3=>?_)
 wtm_at "gg"
 refine zp9 (m:=0) i3 (by decide) (by rw [ok.two.led]; simp) (fun v4 i4=>?_)
 have i4 : Is K H1 v4 (N (zaU ra rb n0 n1)):=by unfold zaU; exact i4
 wtm_at "gg"
 refine zh1 i2 i4 (fun v5 H5 S5 i5=>?_)
 have T5:=S1.trans S5
 wtm_at "gg"
 refine zjl (hr'.by T5) (hn'.by T5) i5 ok.ok.ba ok.ok.bb ok.ok.a0 (by omega) (by omega) hF bF bs (fun v6 H6 S6 i6=>?_)
 wtm_at "gg"
 refine zft (i5.by S6) (bF.mono (by decide)) (bs.mono (by decide)) (by omega) (by omega) (fun i hi=>(bF.pow i).mono (by omega)) (fun i hi=>(zhC bF bs i).mono (by omega)) (fun v7 H7 S7 i7=>?_)
 have i67:=i6.by S7
 wtm_at "gg"
 rename_i e0 ie0 e1 ie1
 refine zdF i7 ie1 (bP.mono (by decide)) (bS.mono (by decide)) (bL.mono (by decide)) (bl2.1.mono (by decide)) hP (fun v8 H8 S8 i8=>?_)
 have i8 : Is K H8 v8 (N (gk (zaD ra n0 n1) (zaU ra rb n0 n1) (many - 1).toNat (zdA ra rb n0.toNat))):=by unfold gk; exact i8
 wtm_at "gg"
 refine zfj (ie0.by S8) i8 (bL.mono (by decide)) (bl2.2.mono (by decide)) (fun v9 i9=>?_)
 have i9 : Is K H8 v9 (N (zdi ra rb n0 n1 (many - 1).toNat)):=by unfold zdi zez; exact i9
 have i68:=i67.by S8
 wtm_at "gg"
 rename_i e2 ie2 e3 ie3
 refine zdF (i7.by S8) ie3 (bP.mono (by decide)) (bS.mono (by decide)) (bU.mono (by decide)) (bu2.1.mono (by decide)) hP (fun v10 H10 S10 i10=>?_)
 have i10 : Is K H10 v10 (N (gk (zaD ra n0 n1) (zaU ra rb n0 n1) (many - 1).toNat (zek (zaD ra n0 n1) (zaU ra rb n0 n1)))):=by unfold gk; exact i10
 wtm_at "gg"
 refine zga (ie2.by S10) i10 (bU.mono (by decide)) (bu2.2.mono (by decide)) (fun v11 i11=>?_)
 have i11 : Is K H10 v11 (N (zdl ra rb n0 n1 (many - 1).toNat)):=by unfold zdl zdb; exact i11
 have i910:=i9.by S10
 have T10:=T5.trans (S6.trans (S7.trans (S8.trans S10)))
 wtm_at "gg"
 . rename_i z
   refine zh1 i910 i11 (fun v12 H12 S12 i12=>?_)
   wtm_at "gg"
   exact q1 z v12 H12 (T10.trans S12) i12
 . rename_i z
   exact q2 z H10 T10
def Pen (H : Hp) (p : Addr) (k : Int) : Prop:=∃ a b n : Int,H p = some (.lst [.int a,.int b,.int n]) /\ 0 <= n /\ n <= k
theorem Pen.same {H H' : Hp} {p : Addr} {k : Int} (s : zai H H') (h : Pen H p k) : Pen H' p k:=by
 obtain ⟨x,y,n,e,h1,h2⟩:=h
 exact ⟨x,y,n,s _ _ e,h1,h2⟩
theorem Pen.le {H : Hp} {p : Addr} {j k : Int} (h : Pen H p j) (e : j <= k) : Pen H p k:=by
 obtain ⟨x,y,n,z,h1,h2⟩:=h
 exact ⟨x,y,n,z,h1,Int.le_trans h2 e⟩
theorem Pen.ne {H : Hp} {p q : Addr} {k : Int} (e : H q = none) (h : Pen H p k) : q ≠ p:=by
 obtain ⟨x,y,n,z,_⟩:=h
 exact (zba z e).symm
def zhB (K : PySem.W.Frag) : Sp:=fun vs H Q _=>∃ x0 x1,vs = [x0,x1] /\ ∃ (a : Addr) (ns : List Int) (k : Int),x0 = .ref a /\ x1 = .int k /\ SqF K H a (ns.map V.int) /\ ns.length <= 63 /\ 0 <= k /\ k <= 1000 /\
 ∀ p H',H p = none -> zai H H' -> Pen H' p 0 -> Q (.ref p) H'
theorem zlb {K : PySem.W.Frag} {H : Hp} {Q : VK} {E : XK} {a : Addr} {ns : List Int} {k : Int} (h : SqF K H a (ns.map V.int)) (hl : ns.length <= 63) (h0 : 0 <= k) (h1 : k <= 1000)
   (q : ∀ p H',H p = none -> zai H H' -> Pen H' p 0 -> Q (.ref p) H') : zhB K [.ref a,.int k] H Q E:=⟨_,_,rfl,a,ns,k,rfl,rfl,h,hl,h0,h1,q⟩
local macro_rules | `(tactic| wtm_at "pen")=>`(tactic| first
 | assumption
 | (apply Pen.same; (focus assumption); wtm_at "pen"))
local macro_rules | `(tactic| wtm_at "ne")=>`(tactic| ((with_reducible apply Pen.ne); (focus assumption); wtm_at "pen"))
local macro_rules | `(tactic| wtm_at "penle")=>`(tactic| exact Pen.le (by wtm_at "pen") (by omega))
set_option maxHeartbeats 4000000 in
theorem zlC (T : Txt K mg a) : zbd P w K mg base CX0 1 a.law_pen a.fd_law_pen ["_law_script","_law_k"] (zhB K):=by
 refine T.F_law_pen.ok zed (fun vs H Q E h=>by obtain ⟨_,_,rfl,_⟩:=h; rfl) (fun cdv A outer s H vs Q E hr h=>?_)
 obtain ⟨x0,x1,rfl,h⟩:=h
 have hu:=hr.units
 refine ⟨_,(zad (zak (i:=2) zed.nd rfl (Or.inl rfl) (zal zau (zal zau (zal zav (zal zav zac (pv 1)) (pv 1)) (zal zav zac (pv 1))) zac))
     (zad (za4 (zax zix (pv 1) (zaE (show zaP _ (.builtin "len") (zgt K) from zcA) rfl T.z_len zeG (zaa (pv 0) zab)) (zaw _)) (zag (zak (i:=2) zed.nd rfl (Or.inl rfl) (zam zah (pv 0) (pv 1) (fun _ _=>rfl)))) (zag (za4 (zax zhv (zaE (show zaP _ (.builtin "len") (zgt K) from zcA) rfl T.z_len zeG (zaa (pv 0) zab)) zac (zaw _)) (zag (zak (i:=2) zed.nd rfl (Or.inl rfl) (zal zau (zam zah (pv 0) (zal zcW (pv 1) (zaE (show zaP _ (.builtin "len") (zgt K) from zcA) rfl T.z_len zeG (zaa (pv 0) zab))) (fun _ _=>rfl)) (zal zav zac (pv 1))))) zaF)))
     (zad (za4 (zax zsP (pv 2) (zg6 (v:=1000000000000000000) ⟨by decide,by decide,by decide⟩ (by decide +kernel)) (zaw _)) (zag (zan (za2 (zaa (zal zck (pv 2) (zg6 (v:=1000000000000000000) ⟨by decide,by decide,by decide⟩ (by decide +kernel))) (zaa (zal zcW (pv 2) zac) (zaa zac zab)))))) zaF)
     (zag (zan (za2 (zaa zac (zaa (zal zau (zal zcW (pv 2) zac) (zal zav zac (pv 1))) (zaa zac zab))))))))),?_⟩
 clear hu
 try clear hgd
 try dsimp only [za8,zaQ]
 rw [show start ["_law_script","_law_k","_law_cell"] [x0,x1] = [some x0,some x1,none] from rfl]
 obtain ⟨a',ns,k,rfl,rfl,hs,hl,h0,h1,q⟩:=h
 have fin : ∀ (x y : Int),mkL K [.int x,.int y,.int 0] H Q:=fun x y=>zcm (by show 3 <= 1000; decide) fun p H' hp s e=>q p H' hp s ⟨x,y,0,e,by decide,by decide⟩
 wtm_at "gg"
 refine zf4 hs.sq ?_
 wtm_at "gg"
 . refine znR hs h0 (by assumption) (fun z=>?_)
   wtm_at "gg"
   all_goals exact fin _ _
 . refine zf4 hs.sq ?_
   wtm_at "gg"
   . refine zf4 hs.sq ?_
     wtm_at "gg"
     refine znR hs (Int.emod_nonneg _ (by omega)) (Int.emod_lt_of_pos _ (by omega)) (fun z=>?_)
     wtm_at "gg"
     all_goals exact fin _ _
   all_goals exact fin _ _
def zgL (K : PySem.W.Frag) : Sp:=fun vs H Q _=>∃ x0 x1,vs = [x0,x1] /\ ∃ (p : Addr) (k m : Int),x0 = .ref p /\ x1 = .int m /\ Pen H p k /\ k <= 1000000 /\ 0 < m /\ Bd 8999 m /\
 ∀ (r : Int) (H' : Hp),0 <= r -> r < m -> Exc p H H' -> zaY H H' -> Pen H' p (k + 1) -> Q (.int r) H'
theorem zkL {K : PySem.W.Frag} {H : Hp} {Q : VK} {E : XK} {p : Addr} {k m : Int} (h : Pen H p k) (hk : k <= 1000000) (hm : 0 < m) (hb : Bd 8999 m)
   (q : ∀ (r : Int) (H' : Hp),0 <= r -> r < m -> Exc p H H' -> zaY H H' -> Pen H' p (k + 1) -> Q (.int r) H') : zgL K [.ref p,.int m] H Q E:=⟨_,_,rfl,p,k,m,rfl,rfl,h,hk,hm,hb,q⟩
local macro_rules | `(tactic| wtm_at "gs")=>`(tactic| ((with_reducible apply zkL); (focus wtm_at "pen"); (focus omega); (focus omega); (focus wtm_at "bd128"); intro _ _ _ _ _ _ _))
set_option maxHeartbeats 4000000 in
theorem zar (T : Txt K mg a) : zbd P w K mg base CX0 1 a.law_draw a.fd_law_draw ["_law_pen_here","_law_many"] (zgL K):=by
 refine T.F_law_draw.ok zdB (fun vs H Q E h=>by obtain ⟨_,_,rfl,_⟩:=h; rfl) (fun cdv A outer s H vs Q E hr h=>?_)
 obtain ⟨x0,x1,rfl,h⟩:=h
 have hu:=hr.units
 refine ⟨_,(zad (zfy (zal zau (zam zah (pv 0) zac (fun _ _=>rfl)) zac) (zhj (pv 0) zac zeF))
     (zad (za4 (zax zhv (zam zah (pv 0) zac (fun _ _=>rfl)) zac (zaw _)) (zad (zak (i:=2) zdB.nd rfl (Or.inl rfl) (zal zcW (zam zah (pv 0) zac (fun _ _=>rfl)) (pv 1)))
     (zad (zfy (zal zbm (zam zah (pv 0) zac (fun _ _=>rfl)) (pv 1)) (zhj (pv 0) zac zeF))
     (zag (zan (pv 2))))) zaF)
     (zad (zak (i:=3) zdB.nd rfl (Or.inl rfl) (zal zcW (zal zau (zal zau (zal zav (zam zah (pv 0) zac (fun _ _=>rfl)) zac) (zal zav (zal zav zac (zam zah (pv 0) zac (fun _ _=>rfl))) (zam zah (pv 0) zac (fun _ _=>rfl)))) zac) zac))
     (zad (zak (i:=3) zdB.nd rfl (Or.inl rfl) (zal zcW (zal zav (pv 3) (zal zau (zal zcW (pv 3) zac) (zam zah (pv 0) zac (fun _ _=>rfl)))) zac))
     (zag (zan (zal zcW (zal zbm (zal zcW (zal zav (pv 3) (zal zau (zal zcW (pv 3) zac) zac)) zac) zac) (pv 1)))))))),?_⟩
 clear hu
 try clear hgd
 try dsimp only [za8,zaQ]
 rw [show start ["_law_pen_here","_law_many","_law_drawn","_law_mixed"] [x0,x1] = [some x0,some x1,none,none] from rfl]
 obtain ⟨p,k,m,rfl,rfl,⟨x,y,n,hp,hn0,hn1⟩,hk,hm,hbm,q⟩:=h
 wtm_at "gg"
 all_goals
   exact q _ _ (Int.emod_nonneg _ (by omega)) (Int.emod_lt_of_pos _ hm) (by wtm_at "exc") (Exc.keep (p:=p) (by wtm_at "exc") hp) ⟨_,_,_,by assumption,by omega,by omega⟩
def zfC (K : PySem.W.Frag) : Sp:=fun vs H Q _=>∃ x0 x1,vs = [x0,x1] /\ ∃ (t b : Int),x0 = .int t /\ x1 = .int b /\ b ≠ 0 /\ Bd 8999 b /\ ∀ v H',zai H H' -> Is K H' v (N (Rat.divInt t b)) -> Q v H'
theorem zbR {K : PySem.W.Frag} {H : Hp} {Q : VK} {E : XK} {t b : Int} (hb : b ≠ 0) (hB : Bd 8999 b) (q : ∀ v H',zai H H' -> Is K H' v (N (Rat.divInt t b)) -> Q v H') : zfC K [.int t,.int b] H Q E:=⟨_,_,rfl,t,b,rfl,rfl,hb,hB,q⟩
theorem zm5 {K : PySem.W.Frag} {H : Hp} {Q : VK} {E : XK} {t b : Int} (hb : b ≠ 0) (h1 : -100000000000000000000000000000000000000 <= t) (h2 : t <= 100000000000000000000000000000000000000) (h3 : -100000000000000000000000000000000000000 <= b) (h4 : b <= 100000000000000000000000000000000000000)
   (q : ∀ v H' (x : Rat),zai H H' -> Is K H' v (N x) -> x = Rat.divInt t b -> Bdr 128 x -> Q v H') : zfC K [.int t,.int b] H Q E :=
 zbR hb ((Bd.of128 h3 h4).mono (by decide)) fun v H' s h=>q v H' _ s h rfl (Bdr.divInt hb (Bd.of128 h1 h2) (Bd.of128 h3 h4))
local macro_rules | `(tactic| wtm_at "gs")=>`(tactic| ((with_reducible apply zm5); (focus omega); (focus omega); (focus omega); (focus omega); (focus omega); intro _ _ _ _ _ _ _))
set_option maxHeartbeats 4000000 in
theorem zaL (T : Txt K mg a) : zbd P w K mg base CX0 1 a.law_low a.fd_law_low ["_law_top","_law_bottom"] (zfC K):=by
 refine T.F_law_low.ok zdx (fun vs H Q E h=>by obtain ⟨_,_,rfl,_⟩:=h; rfl) (fun cdv A outer s H vs Q E hr h=>?_)
 obtain ⟨x0,x1,rfl,h⟩:=h
 have hu:=hr.units
 refine ⟨_,(zad (zak (i:=2) zdx.nd rfl (Or.inl rfl) (zaE zd7 rfl T.z_abs zhQ (zaa (pv 0) zab)))
     (zad (zak (i:=3) zdx.nd rfl (Or.inl rfl) (zaE zd7 rfl T.z_abs zhQ (zaa (pv 1) zab)))
     (zad (zh9 PassesOwn.never (zax zhv (pv 3) zac (zaw _)) (zag (zrL (i:=2) (j:=3) rfl zdx.nd rfl rfl (by decide) rfl rfl (zaa (pv 3) (zaa (zal zcW (pv 2) (pv 3)) zab)) rfl)))
     (zad (za4 (zax zix (pv 1) zac (zaw _)) (zag (zak (i:=2) zdx.nd rfl (Or.inl rfl) (zal zck zac (pv 2)))) zaF)
     (zag (zan (zay (zaa (zal zbm (pv 0) (pv 2)) (zaa (zal zbm (pv 1) (pv 2)) zab))))))))),?_⟩
 clear hu
 try clear hgd
 try dsimp only [za8,zaQ]
 rw [show start ["_law_top","_law_bottom","_law_one","_law_other"] [x0,x1] = [some x0,some x1,none,none] from rfl]
 obtain ⟨t,b,rfl,rfl,hb,hB,q⟩:=h
 wtm_at "gg"
 refine zkn (fun σ H'=>∃ (x y : Int),σ = [some (.int t),some (.int b),some (.int x),some (.int y)] /\ 0 <= x /\ 0 <= y /\ Int.gcd x y = Int.gcd t b /\ H' = H) (fun σ=>(ixI σ 3).toNat) ⟨_,_,rfl,by split <;> omega,by split <;> omega,?_,rfl⟩ ?_
 . have e1 : Int.gcd (if t < 0 then -t else t) (if b < 0 then -b else b) = Int.gcd t b:=by
     split <;> split <;> simp
   exact e1
 rintro σ H' ⟨x,y,rfl,hx,hy,hg,rfl⟩
 have hgb : Bd 8999 ((Int.gcd t b : Nat) : Int):=hB.le (by
   have : Int.gcd t b ∣ b.natAbs:=Int.gcd_dvd_natAbs_right t b
   have:=Nat.le_of_dvd (by omega) this
   simpa using this)
 wtm_at "gg"
 . refine zmi ?_
   wtm_at "gg"
   have h1:=Int.emod_nonneg x (show y ≠ 0 by omega)
   have h2:=Int.emod_lt_of_pos x (show 0 < y by omega)
   refine ⟨?_,_,_,rfl,hy,h1,?_,rfl⟩
   . show (x % y).toNat < y.toNat
     omega
   . rw [<- hg]; exact zke (by omega) hx
 . rename_i h0 hneg
   have e0 : y = 0:=by omega
   subst e0
   have e : x = ((Int.gcd t b : Nat) : Int):=by
     rw [<- hg,Int.gcd_zero_right]; omega
   have e1 : 0 - x = dv t b:=by unfold dv; rw [if_pos hneg,<- e]; omega
   rw [e1]
   have hd : zfg t (dv t b):=⟨znw hb,by unfold dv; rw [if_pos hneg]; exact hgb.neg⟩
   refine zko hd ?_
   wtm_at "gg"
   exact zdk (zlw hb) (zok hb) q
 . rename_i h0 hneg
   have e0 : y = 0:=by omega
   subst e0
   have e : x = ((Int.gcd t b : Nat) : Int):=by
     rw [<- hg,Int.gcd_zero_right]; omega
   have e1 : x = dv t b:=by unfold dv; rw [if_neg hneg,<- e]
   rw [e1]
   have hd : zfg t (dv t b):=⟨znw hb,by unfold dv; rw [if_neg hneg]; exact hgb⟩
   refine zko hd ?_
   wtm_at "gg"
   exact zdk (zlw hb) (zok hb) q
def zgN (K : PySem.W.Frag) : Sp:=fun vs H Q _=>∃ x0 x1,vs = [x0,x1] /\ ∃ (x y : Rat) (m n : Nat),Is K H x0 (N x) /\ Is K H x1 (N y) /\ Bdr m x /\ Bdr n y /\ m + n <= 8990 /\ Q (.bl (decide (x < y))) H
theorem zdC {K : PySem.W.Frag} {H : Hp} {Q : VK} {E : XK} {x y : Rat} {m n : Nat} {v w : V} (h1 : Is K H v (N x)) (h2 : Is K H w (N y)) (b1 : Bdr m x) (b2 : Bdr n y) (hm : m + n <= 8990) (q : Q (.bl (decide (x < y))) H) : zgN K [v,w] H Q E:=⟨_,_,rfl,x,y,m,n,h1,h2,b1,b2,hm,q⟩
set_option maxHeartbeats 4000000 in
theorem zdE (T : Txt K mg a) : zbd P w K mg base CX0 1 a.law_less a.fd_law_less ["_law_one","_law_other"] (zgN K):=by
 refine T.F_law_less.ok zkP (fun vs H Q E h=>by obtain ⟨_,_,rfl,_⟩:=h; rfl) (fun cdv A outer s H vs Q E hr h=>?_)
 obtain ⟨x0,x1,rfl,h⟩:=h
 have hu:=hr.units
 refine ⟨_,(zag (zan (zcH zix (zal zav (zam zah (pv 0) zac (fun _ _=>rfl)) (zam zah (pv 1) zac (fun _ _=>rfl))) (zal zav (zam zah (pv 1) zac (fun _ _=>rfl)) (zam zah (pv 0) zac (fun _ _=>rfl))) (zaw _)))),?_⟩
 clear hu
 try clear hgd
 try dsimp only [za8,zaQ]
 rw [show start ["_law_one","_law_other"] [x0,x1] = [some x0,some x1] from rfl]
 obtain ⟨x,y,m,n,hx,hy,⟨bx1,bx2⟩,⟨by1,by2⟩,hm,q⟩:=h
 have c1 : Bd 8990 (x.num * (y.den : Int)):=(bx1.mul by2).mono hm
 have c2 : Bd 8990 (y.num * (x.den : Int)):=(by1.mul bx2).mono (by omega)
 have d1:=bx1.mono (show m <= 8990 by omega)
 have d2:=bx2.mono (show m <= 8990 by omega)
 have d3:=by1.mono (show n <= 8990 by omega)
 have d4:=by2.mono (show n <= 8990 by omega)
 wtm_at "gg"
 rw [zq3]
 exact q
def zeO (K : PySem.W.Frag) : Sp:=fun vs H Q _=>∃ x0 x1,vs = [x0,x1] /\ ∃ (x : Rat) (t u : Int) (m n : Nat),Is K H x0 (N x) /\ Is K H x1 (.tuple [.int t,.int u]) /\ 0 < u /\ Bdr m x /\ Bd n t /\ Bd n u /\ m + n <= 8990 /\ ∀ v H',zai H H' -> Is K H' v (N (x + Rat.divInt t u)) -> Q v H'
theorem zep {K : PySem.W.Frag} {H : Hp} {Q : VK} {E : XK} {x : Rat} {t u : Int} {m n : Nat} {v w : V} (h1 : Is K H v (N x)) (h2 : Is K H w (.tuple [.int t,.int u])) (hu : 0 < u) (b1 : Bdr m x) (b2 : Bd n t) (b3 : Bd n u) (hm : m + n <= 8990) (q : ∀ v H',zai H H' -> Is K H' v (N (x + Rat.divInt t u)) -> Q v H') : zeO K [v,w] H Q E:=⟨_,_,rfl,x,t,u,m,n,h1,h2,hu,b1,b2,b3,hm,q⟩
theorem zdo {K : PySem.W.Frag} {H : Hp} {Q : VK} {E : XK} {x y : Rat} {m n : Nat} {v w : V} (h1 : Is K H v (N x)) (h2 : Is K H w (N y)) (b1 : Bdr m x) (b2 : Bdr n y) (hm : m + n <= 8990) (q : ∀ v H',zai H H' -> Is K H' v (N (x + y)) -> Q v H') : zeO K [v,w] H Q E:=zep h1 h2 (den_pos y) b1 b2.t b2.b hm (by rw [Rat.num_divInt_den]; exact q)
theorem zqI {K : PySem.W.Frag} {H : Hp} {Q : VK} {v : V} {t u : Int} (h : Is K H v (.tuple [.int t,.int u])) (q : Q (.int t) H) : rIx K v (.int 0) H Q:=zcl (j:=0) h rfl (fun x i=>by rw [za5.mp i]; exact q)
theorem zmC {K : PySem.W.Frag} {H : Hp} {Q : VK} {v : V} {t u : Int} (h : Is K H v (.tuple [.int t,.int u])) (q : Q (.int u) H) : rIx K v (.int 1) H Q:=zcl (j:=1) h rfl (fun x i=>by rw [za5.mp i]; exact q)
theorem zoD (x : Rat) {t u : Int} (hu : 0 < u) : Rat.divInt (x.num * u + t * (x.den : Int)) ((x.den : Int) * u) = x + Rat.divInt t u:=by
 have hp:=Int.mul_pos (den_pos x) hu
 refine zbc (by omega) ?_
 have k1:=zbi x
 have k2:=zap t (show u ≠ 0 by omega)
 have e1 : ((x.num * u + t * (x.den : Int) : Int) : Rat) = (x.num : Rat) * (u : Rat) + (t : Rat) * ((x.den : Int) : Rat):=by push_cast; rfl
 have e2 : (((x.den : Int) * u : Int) : Rat) = ((x.den : Int) : Rat) * (u : Rat):=by push_cast; rfl
 rw [e1,e2,<- k1,<- k2]
 grind
set_option maxHeartbeats 4000000 in
theorem zcB (T : Txt K mg a) : zbd P w K mg base CX0 2 a.law_plus a.fd_law_plus ["_law_one","_law_other"] (zeO K):=by
 refine T.F_law_plus.ok zkm (fun vs H Q E h=>by obtain ⟨_,_,rfl,_⟩:=h; rfl) (fun cdv A outer s H vs Q E hr h=>?_)
 obtain ⟨x0,x1,rfl,h⟩:=h
 have hu:=hr.units
 refine ⟨_,(zag (zan (zaf (zaL T) (hr.mono (by decide)) rfl T.g_law_low T.F_law_low.kp T.b_law_low .nil zaj (zaa (zal zau (zal zav (zam zah (pv 0) zac (fun _ _=>rfl)) (zam zah (pv 1) zac (fun _ _=>rfl))) (zal zav (zam zah (pv 1) zac (fun _ _=>rfl)) (zam zah (pv 0) zac (fun _ _=>rfl)))) (zaa (zal zav (zam zah (pv 0) zac (fun _ _=>rfl)) (zam zah (pv 1) zac (fun _ _=>rfl))) zab))))),?_⟩
 clear hu
 try clear hgd
 try dsimp only [za8,zaQ]
 rw [show start ["_law_one","_law_other"] [x0,x1] = [some x0,some x1] from rfl]
 obtain ⟨x,t,u,m,n,hx,hy,hu,⟨bx1,bx2⟩,by1,by2,hm,q⟩:=h
 have c1 : Bd 8990 (x.num * u):=(bx1.mul by2).mono hm
 have c2 : Bd 8990 (t * (x.den : Int)):=(by1.mul bx2).mono (by omega)
 have c3 : Bd 8990 ((x.den : Int) * u):=(bx2.mul by2).mono hm
 have d1:=bx1.mono (show m <= 8990 by omega)
 have d2:=bx2.mono (show m <= 8990 by omega)
 have d3:=by1.mono (show n <= 8990 by omega)
 have d4:=by2.mono (show n <= 8990 by omega)
 have hp:=Int.mul_pos (den_pos x) hu
 wtm_at "gg"
 refine zmC hy ?_
 wtm_at "gg"
 refine zqI hy ?_
 wtm_at "gg"
 refine zmC hy ?_
 wtm_at "gg"
 refine zbR (by omega) (c3.mono (by decide)) (fun v H' s hv=>?_)
 rw [zoD x hu] at hv
 exact q v H' s hv
def zeP (K : PySem.W.Frag) (a : Ad) : Addr -> Value -> Sp:=fun ex C vs H Q _=>∃ x0,vs = [x0] /\ x0 = .ref ex /\ ∃ w,zo1 a C w /\ ∀ H',zai H H' -> Q (.str w) H'
theorem zkS {K : PySem.W.Frag} {a : Ad} {H : Hp} {Q : VK} {E : XK} {ex : Addr} {C : Value} {w : Str} (h : zo1 a C w) (q : ∀ H',zai H H' -> Q (.str w) H') : zeP K a ex C [.ref ex] H Q E:=⟨_,rfl,rfl,w,h,q⟩
set_option maxHeartbeats 4000000 in
theorem zkk (T : Txt K mg a) : znY P w K mg base 1 a.law_kind a.fd_law_kind ["_law_caught"] (zeP K a):=by
 refine T.F_law_kind.okH zb9 (fun ex C vs H Q E h=>by obtain ⟨_,rfl,_⟩:=h; rfl) (fun cdv A outer s H vs Q E ex C oe hr hd h=>?_)
 obtain ⟨x0,rfl,h⟩:=h
 have hu:=hr.units
 refine ⟨_,(zad (zak (i:=1) zb9.nd rfl (Or.inl rfl) (za2 (zaa (zay (zaa zbD (zaa (zaE (zbE hd) rfl T.z_isinstance zaW (zaa (pv 0) (zaa (zaM (v:=.ref a.C_NoNumber) rfl T.g_NoNumber rfl) zab))) zab))) (zaa (zay (zaa zbD (zaa (zaE (zbE hd) rfl T.z_isinstance zaW (zaa (pv 0) (zaa (zaM (v:=.ref a.C_NoRule) rfl T.g_NoRule rfl) zab))) zab))) zab))))
     (zad (zak (i:=1) zb9.nd rfl (Or.inl rfl) (zal zau (pv 1) (za2 (zaa (zay (zaa zbD (zaa (zaE (zbE hd) rfl T.z_isinstance zaW (zaa (pv 0) (zaa (zaM (v:=.ref a.C_NoSwarm) rfl T.g_NoSwarm rfl) zab))) zab))) (zaa (zay (zaa zbD (zaa (zaE (zbE hd) rfl T.z_isinstance zaW (zaa (pv 0) (zaa (zaM (v:=.ref a.C_NoStand) rfl T.g_NoStand rfl) zab))) zab))) zab)))))
     (zad (zak (i:=1) zb9.nd rfl (Or.inl rfl) (zal zau (pv 1) (za2 (zaa (zay (zaa zbD (zaa (zaE (zbE hd) rfl T.z_isinstance zaW (zaa (pv 0) (zaa (zaM (v:=.ref a.C_TooLong) rfl T.g_TooLong rfl) zab))) zab))) (zaa (zay (zaa zbD (zaa (zaE (zbE hd) rfl T.z_isinstance zaW (zaa (pv 0) (zaa (zaM (v:=.ref a.C_NoWeb) rfl T.g_NoWeb rfl) zab))) zab))) zab)))))
     (zad (zak (i:=1) zb9.nd rfl (Or.inl rfl) (zal zau (pv 1) (za2 (zaa (zay (zaa zbD (zaa (zaE (zbE hd) rfl T.z_isinstance zaW (zaa (pv 0) (zaa (zaM (v:=.ref a.C_NoText) rfl T.g_NoText rfl) zab))) zab))) (zaa (zay (zaa zbD (zaa (zaE (zbE hd) rfl T.z_isinstance zaW (zaa (pv 0) (zaa (zaM (v:=.ref a.C_NoRow) rfl T.g_NoRow rfl) zab))) zab))) zab)))))
     (zad (zak (i:=1) zb9.nd rfl (Or.inl rfl) (zal zau (pv 1) (za2 (zaa (zay (zaa zbD (zaa (zaE (zbE hd) rfl T.z_isinstance zaW (zaa (pv 0) (zaa (zaM (v:=.ref a.C_NoBack) rfl T.g_NoBack rfl) zab))) zab))) zab))))
     (zad (zkg hd (i:=2) zb9.nd rfl (Or.inl rfl) (zbG.by (N':=["_law_word","_law_one"]) (src:=[none,none]) rfl (show zbz _ (zae zcq).names ["_law_caught","_law_some","_law_found"] ["_law_word","_law_one"] [none,none] = true from by decide +kernel)) (zn6 (pv 1)) (fun _ _ _ _ _=>by exact (zoJ (n:=2) hd (za7 (zaA (i:=0) (show (["_law_word","_law_one"] : List Str).Nodup from by decide) rfl (Or.inl rfl)) (za7 (zaA (i:=1) (show (["_law_word","_law_one"] : List Str).Nodup from by decide) rfl (Or.inl rfl)) zdm)))) (fun _ _ _ _ _=>by exact (zpi (zb3 (pv 1)))) (fun _ _ _ _ _=>by exact (pv 0)))
     (zad (za4 (PW.pt (zkM (zax (show OpR _ (compareOp .NotEq) (zfu K) from zfK hu) (zaE (show zaP _ (.builtin "len") (zgt K) from zcA) rfl T.z_len zeG (zaa (pv 2) zab)) zac (zaw _)) (zjD (zdz (zb3 (zaE (zbE hd) rfl T.z_isinstance zaW (zaa (pv 0) (zaa (zjf (v:=.ty "ValueError") rfl T.z_ValueError ziq rfl) zab)))))))) (zag (zan zbD)) zaF)
     (zag (zan (zam zah (pv 2) zac (fun _ _=>rfl))))))))))),?_⟩
 clear hu
 try clear hgd
 try dsimp only [za8,zaQ]
 rw [show start ["_law_caught","_law_some","_law_found"] [x0] = [some x0,none,none] from rfl]
 obtain ⟨rfl,w,hw,q⟩:=h
 rcases hw with ⟨rfl,rfl⟩
 all_goals
   wtm_at "ga"
   refine zpd (by assumption) (by repeat' (first | exact zbv.nil | with_reducible apply zbv.app | with_reducible apply zbv.cons | (apply zpl; (focus assumption); (focus wtm_at "same")))) (by decide) (fun D H1 S1 e1=>?_)
   simp only [zfh,List.cons_append,List.nil_append,List.filter_cons,List.filter_nil,List.map_cons,List.map_nil,Bool.false_eq_true,if_false,if_true] at e1
   wtm_at "gg"
   refine zf4 (SqL.of e1) ?_
   rw [show ((List.length [V.str _] : Nat) : Int) = 1 from rfl]
   wtm_at "gg"
   exact q _ (by wtm_at "same")
def zgP (K : PySem.W.Frag) : Sp:=fun vs H Q _=>∃ x0,vs = [x0] /\ ∃ (p : Addr) (k : Int),x0 = .ref p /\ Pen H p k /\ k <= 100000 /\ ∀ v H' (a b : Rat),Exc p H H' -> zaY H H' -> Pen H' p (k + 7) -> Is K H' v (R a b) -> zaK a b -> Q v H'
theorem zkX {K : PySem.W.Frag} {H : Hp} {Q : VK} {E : XK} {p : Addr} {k : Int} (h : Pen H p k) (hk : k <= 100000) (q : ∀ v H' (a b : Rat),Exc p H H' -> zaY H H' -> Pen H' p (k + 7) -> Is K H' v (R a b) -> zaK a b -> Q v H') :
   zgP K [.ref p] H Q E:=⟨_,rfl,p,k,rfl,h,hk,q⟩
set_option maxHeartbeats 4000000 in
theorem zj2 (T : Txt K mg a) : zbd P w K mg base CX0 2 a.law_rule a.fd_law_rule ["_law_pen_here"] (zgP K):=by
 refine T.F_law_rule.ok zcD (fun vs H Q E h=>by obtain ⟨_,rfl,_⟩:=h; rfl) (fun cdv A outer s H vs Q E hr h=>?_)
 obtain ⟨x0,rfl,h⟩:=h
 have hu:=hr.units
 refine ⟨_,(zad (zak (i:=1) zcD.nd rfl (Or.inl rfl) (zal zau zac (zaf (zar T) (hr.mono (by decide)) rfl T.g_law_draw T.F_law_draw.kp T.b_law_draw .nil zaj (zaa (pv 0) (zaa zac zab)))))
     (zad (zak (i:=2) zcD.nd rfl (Or.inl rfl) (zaf (zaL T) (hr.mono (by decide)) rfl T.g_law_low T.F_law_low.kp T.b_law_low .nil zaj (zaa (zam zah (za2 (zaa (zal zau zac (zaf (zar T) (hr.mono (by decide)) rfl T.g_law_draw T.F_law_draw.kp T.b_law_draw .nil zaj (zaa (pv 0) (zaa (zal zav zac (pv 1)) zab)))) (zaa (pv 1) zab))) (za0 znp rfl T.z_int zoj (zaa (zcH (show OpR _ (compareOp .Eq) (zcL K) from zbC hu) (zaf (zar T) (hr.mono (by decide)) rfl T.g_law_draw T.F_law_draw.kp T.b_law_draw .nil zaj (zaa (pv 0) (zaa zac zab))) zac (zaw _)) zab)) (fun _ _=>rfl)) (zaa (pv 1) zab))))
     (zad (zak (i:=3) zcD.nd rfl (Or.inl rfl) (zal zau zac (zaf (zar T) (hr.mono (by decide)) rfl T.g_law_draw T.F_law_draw.kp T.b_law_draw .nil zaj (zaa (pv 0) (zaa zac zab)))))
     (zad (zak (i:=4) zcD.nd rfl (Or.inl rfl) (zaf (zaL T) (hr.mono (by decide)) rfl T.g_law_low T.F_law_low.kp T.b_law_low .nil zaj (zaa (zal zbm (zaf (zar T) (hr.mono (by decide)) rfl T.g_law_draw T.F_law_draw.kp T.b_law_draw .nil zaj (zaa (pv 0) (zaa (zal zau (pv 3) zac) zab))) (zal zau zac (zaf (zar T) (hr.mono (by decide)) rfl T.g_law_draw T.F_law_draw.kp T.b_law_draw .nil zaj (zaa (pv 0) (zaa zac zab))))) (zaa (pv 3) zab))))
     (zad (za4 (zax zix (zal zau (zal zav (zam zah (pv 2) zac (fun _ _=>rfl)) (zam zah (pv 4) zac (fun _ _=>rfl))) (zal zav (zam zah (pv 4) zac (fun _ _=>rfl)) (zam zah (pv 2) zac (fun _ _=>rfl)))) (zal zav (zam zah (pv 2) zac (fun _ _=>rfl)) (zam zah (pv 4) zac (fun _ _=>rfl))) (zaw _)) (zag (zak (i:=4) zcD.nd rfl (Or.inl rfl) (zaf (zaL T) (hr.mono (by decide)) rfl T.g_law_low T.F_law_low.kp T.b_law_low .nil zaj (zaa (zal zck (zam zah (pv 2) zac (fun _ _=>rfl)) (zam zah (pv 2) zac (fun _ _=>rfl))) (zaa (zam zah (pv 2) zac (fun _ _=>rfl)) zab))))) zaF)
     (zag (zan (zay (zaa (pv 2) (zaa (pv 4) zab)))))))))),?_⟩
 clear hu
 try clear hgd
 try dsimp only [za8,zaQ]
 rw [show start ["_law_pen_here","_law_bottom","_law_a","_law_under","_law_b"] [x0] = [some x0,none,none,none,none] from rfl]
 obtain ⟨p,k,rfl,hp,hk,q⟩:=h
 wtm_at "ga"
 rename_i z hz v1 H3 x S3 iv ex bx r1 H2 g0 g1 E2 K2 P2 r H1 g2 g3 E1 K1 P1 d H0 g4 g5 E0 K0 P0
 have hd : zfg r (1 + d):=⟨by omega,Bd.mono (Bd.of128 (by omega) (by omega)) (by decide)⟩
 have f0 : 0 <= r.fdiv (1 + d):=by rw [Int.fdiv_eq_ediv_of_nonneg _ (by omega)]; exact Int.ediv_nonneg g2 (by omega)
 have f1 : r.fdiv (1 + d) <= r:=by rw [Int.fdiv_eq_ediv_of_nonneg _ (by omega)]; exact Int.ediv_le_self _ g2
 refine zko hd ?_
 generalize r.fdiv (1 + d) = w at f0 f1 ⊢
 wtm_at "ga"
 . rename_i v H4 y S4 iy ey by' hlt
   refine zbR (zby x) (bx.b.mono (by decide)) (fun v5 H5 S5 h5=>?_)
   rw [zl5] at h5
   wtm_at "gg"
   refine zh1 (a:=x) (b:=1 - x) (by wtm_at "is") (by wtm_at "is") (fun v6 H6 S6 h6=>?_)
   exact q _ _ _ _ (by wtm_at "exc") (by wtm_at "keep") (by wtm_at "penle") h6 (zpN ex (by omega) (by omega) (by omega) (by omega) ey (by omega) (by omega) (by omega) (by omega) hlt)
 . rename_i v H4 y S4 iy ey by' hlt v6 H6 S6 h6
   exact q _ _ x y (by wtm_at "exc") (by wtm_at "keep") (by wtm_at "penle") h6 (zps ex (by omega) (by omega) (by omega) (by omega) ey (by omega) (by omega) (by omega) (by omega) hlt)
def zeC (K : PySem.W.Frag) : Sp:=fun vs H Q _=>∃ x0,vs = [x0] /\ ∃ (p : Addr) (k : Int),x0 = .ref p /\ Pen H p k /\ k <= 1000 /\ ∀ v H' (a b : Rat),Exc p H H' -> zaY H H' -> Pen H' p (k + 8) -> Is K H' v (R a b) -> zaK a b -> Q v H'
theorem zg3 {K : PySem.W.Frag} {H : Hp} {Q : VK} {E : XK} {p : Addr} {k : Int} (h : Pen H p k) (hk : k <= 1000) (q : ∀ v H' (a b : Rat),Exc p H H' -> zaY H H' -> Pen H' p (k + 8) -> Is K H' v (R a b) -> zaK a b -> Q v H') : zeC K [.ref p] H Q E:=⟨_,rfl,p,k,rfl,h,hk,q⟩
theorem zsx {x y : Rat} {z t : Int} (e : x = Rat.divInt z 8) (e' : y = Rat.divInt t 8) (z1 : 1 <= z) (z7 : z <= 32) (t0 : 0 <= t) (t8 : t <= 8) (h : 8 <= z + t) : zaK x y:=by
 obtain ⟨a1,a2,a3⟩:=zlW e (by decide) (by decide) z1 (by omega)
 obtain ⟨b1,b2,b3⟩:=zmm e' (by decide) (by decide) t0 t8
 have hx:=zap z (show (8 : Int) ≠ 0 by decide)
 have hy:=zap t (show (8 : Int) ≠ 0 by decide)
 rw [<- e] at hx
 rw [<- e'] at hy
 have h1 : ((8 : Int) : Rat) <= ((z + t : Int) : Rat):=Rat.intCast_le_intCast.mpr h
 have e8 : ((8 : Int) : Rat) = 8:=rfl
 have e1 : ((z + t : Int) : Rat) = (z : Rat) + (t : Rat):=by push_cast; rfl
 rw [e1,e8] at h1
 rw [e8] at hx hy
 exact ⟨a1,a2,a3,b1,b2,b3,by grind⟩
theorem zoN {x y : Rat} {z t : Int} (e : x = Rat.divInt z 8) (e' : y = Rat.divInt t 12) (z1 : 8 <= z) (z7 : z <= 32) (t0 : 0 <= t) (t8 : t <= 12) : zaK x y:=by
 obtain ⟨a1,a2,a3⟩:=zlW e (by decide) (by decide) (by omega) (by omega)
 obtain ⟨b1,b2,b3⟩:=zmm e' (by decide) (by decide) t0 t8
 have hx:=zap z (show (8 : Int) ≠ 0 by decide)
 rw [<- e] at hx
 have h1 : ((8 : Int) : Rat) <= ((z : Int) : Rat):=Rat.intCast_le_intCast.mpr z1
 have e8 : ((8 : Int) : Rat) = 8:=rfl
 rw [e8] at h1 hx
 exact ⟨a1,a2,a3,b1,b2,b3,by grind⟩
set_option maxHeartbeats 4000000 in
theorem zg1 (T : Txt K mg a) : zbd P w K mg base CX0 3 a.law_any_rule a.fd_law_any_rule ["_law_pen_here"] (zeC K):=by
 refine T.F_law_any_rule.ok zc9 (fun vs H Q E h=>by obtain ⟨_,rfl,_⟩:=h; rfl) (fun cdv A outer s H vs Q E hr h=>?_)
 obtain ⟨x0,rfl,h⟩:=h
 have hu:=hr.units
 refine ⟨_,(zad (zak (i:=1) zc9.nd rfl (Or.inl rfl) (zaf (zar T) (hr.mono (by decide)) rfl T.g_law_draw T.F_law_draw.kp T.b_law_draw .nil zaj (zaa (pv 0) (zaa zac zab))))
     (zad (za4 (zax (show OpR _ (compareOp .Eq) (zcL K) from zbC hu) (pv 1) zac (zaw _)) (zag (zan (zay (zaa (zay (zaa zac (zaa zac zab))) (zaa (zaf (zaL T) (hr.mono (by decide)) rfl T.g_law_low T.F_law_low.kp T.b_law_low .nil zaj (zaa (zaf (zar T) (hr.mono (by decide)) rfl T.g_law_draw T.F_law_draw.kp T.b_law_draw .nil zaj (zaa (pv 0) (zaa zac zab))) (zaa zac zab))) zab))))) zaF)
     (zad (za4 (zax (show OpR _ (compareOp .Eq) (zcL K) from zbC hu) (pv 1) zac (zaw _)) (zad (zak (i:=2) zc9.nd rfl (Or.inl rfl) (zal zau zac (zaf (zar T) (hr.mono (by decide)) rfl T.g_law_draw T.F_law_draw.kp T.b_law_draw .nil zaj (zaa (pv 0) (zaa zac zab)))))
     (zag (zan (zay (zaa (zaf (zaL T) (hr.mono (by decide)) rfl T.g_law_low T.F_law_low.kp T.b_law_low .nil zaj (zaa (pv 2) (zaa zac zab))) (zaa (zaf (zaL T) (hr.mono (by decide)) rfl T.g_law_low T.F_law_low.kp T.b_law_low .nil zaj (zaa (zal zck zac (pv 2)) (zaa zac zab))) zab)))))) zaF)
     (zad (za4 (zax (show OpR _ (compareOp .Eq) (zcL K) from zbC hu) (pv 1) zac (zaw _)) (zag (zan (zay (zaa (zaf (zaL T) (hr.mono (by decide)) rfl T.g_law_low T.F_law_low.kp T.b_law_low .nil zaj (zaa (zal zau zac (zaf (zar T) (hr.mono (by decide)) rfl T.g_law_draw T.F_law_draw.kp T.b_law_draw .nil zaj (zaa (pv 0) (zaa zac zab)))) (zaa zac zab))) (zaa (zay (zaa zac (zaa zac zab))) zab))))) zaF)
     (zad (za4 (zax (show OpR _ (compareOp .Eq) (zcL K) from zbC hu) (pv 1) zac (zaw _)) (zag (zan (zay (zaa (zaf (zaL T) (hr.mono (by decide)) rfl T.g_law_low T.F_law_low.kp T.b_law_low .nil zaj (zaa (zal zau zac (zaf (zar T) (hr.mono (by decide)) rfl T.g_law_draw T.F_law_draw.kp T.b_law_draw .nil zaj (zaa (pv 0) (zaa zac zab)))) (zaa zac zab))) (zaa (zaf (zaL T) (hr.mono (by decide)) rfl T.g_law_low T.F_law_low.kp T.b_law_low .nil zaj (zaa (zaf (zar T) (hr.mono (by decide)) rfl T.g_law_draw T.F_law_draw.kp T.b_law_draw .nil zaj (zaa (pv 0) (zaa zac zab))) (zaa zac zab))) zab))))) zaF)
     (zag (zan (zaf (zj2 T) (hr.mono (by decide)) rfl T.g_law_rule T.F_law_rule.kp T.b_law_rule .nil zaj (zaa (pv 0) zab))))))))),?_⟩
 clear hu
 try clear hgd
 try dsimp only [za8,zaQ]
 rw [show start ["_law_pen_here","_law_way","_law_a"] [x0] = [some x0,none,none] from rfl]
 obtain ⟨p,k,rfl,hp,hk,q⟩:=h
 wtm_at "ga"
 . rename_i r1 H1 r10 r11 E1 K1 P1 z v2 H2 S2 i2 r2 H3 r20 r21 E3 K3 P3 v4 H4 x4 S4 i4 e4 b4
   have i2 : Is K H2 v2 (N 1):=i2
   refine zcp (ds:=[N 1,N x4]) (by simp) (.cons ((i2.byN K3).by S4) (.cons i4 .nil)) (fun v5 H5 S5 i5=>?_)
   have i5 : Is K H5 v5 (R 1 x4):=i5
   exact q _ _ 1 x4 (by wtm_at "exc") (by wtm_at "keep") (by wtm_at "penle") i5 (zoN (z:=8) (by decide +kernel) e4 (by omega) (by omega) (by omega) (by omega))
 . rename_i r1 H1 r10 r11 E1 K1 P1 z0 z1 r2 H2 r20 r21 E2 K2 P2 v3 H3 x3 S3 i3 e3 b3 v4 H4 x4 S4 i4 e4 b4 v5 H5 S5 i5
   exact q _ _ x3 x4 (by wtm_at "exc") (by wtm_at "keep") (by wtm_at "penle") i5 (zsx e3 e4 (by omega) (by omega) (by omega) (by omega) (by omega))
 . rename_i r1 H1 r10 r11 E1 K1 P1 z0 z1 z2 r2 H2 r20 r21 E2 K2 P2 v3 H3 x3 S3 i3 e3 b3 v4 H4 S4 i4 v5 H5 S5 i5
   have i5 : Is K H5 v5 (R x3 1):=i5
   exact q _ _ x3 1 (by wtm_at "exc") (by wtm_at "keep") (by wtm_at "penle") i5 (zsx e3 (t:=8) (by decide +kernel) (by omega) (by omega) (by omega) (by omega) (by omega))
 . rename_i r1 H1 r10 r11 E1 K1 P1 z0 z1 z2 z3 r2 H2 r20 r21 E2 K2 P2 v3 H3 x3 S3 i3 e3 b3 r4 H4 r40 r41 E4 K4 P4 v5 H5 x5 S5 i5 e5 b5 v6 H6 S6 i6
   exact q _ _ x3 x5 (by wtm_at "exc") (by wtm_at "keep") (by wtm_at "penle") i6 (zoN e3 e5 (by omega) (by omega) (by omega) (by omega))
 . rename_i r1 H1 r10 r11 E1 K1 P1 z0 z1 z2 z3
   refine zkX P1 (by omega) (fun v2 H2 ra rb E2 K2 P2 i2 ok=>?_)
   exact q _ _ ra rb (by wtm_at "exc") (by wtm_at "keep") (by wtm_at "penle") i2 ok
def zfW (K : PySem.W.Frag) : Sp:=fun vs H Q _=>∃ x0,vs = [x0] /\ ∃ (p : Addr) (k : Int),x0 = .ref p /\ Pen H p k /\ k <= 1000 /\ ∀ v H' ns,Exc p H H' -> zaY H H' -> Pen H' p (k + 11) -> Is K H' v (TZ ns) -> zaz ns -> (∀ n ∈ ns,n <= 3) -> Q v H'
theorem zjh {K : PySem.W.Frag} {H : Hp} {Q : VK} {E : XK} {p : Addr} {k : Int} (h : Pen H p k) (hk : k <= 1000) (q : ∀ v H' ns,Exc p H H' -> zaY H H' -> Pen H' p (k + 11) -> Is K H' v (TZ ns) -> zaz ns -> (∀ n ∈ ns,n <= 3) -> Q v H') : zfW K [.ref p] H Q E:=⟨_,rfl,p,k,rfl,h,hk,q⟩
set_option maxHeartbeats 4000000 in
theorem zjS (T : Txt K mg a) : zbd P w K mg base CX0 2 a.law_sizes a.fd_law_sizes ["_law_pen_here"] (zfW K):=by
 refine T.F_law_sizes.ok zcg (fun vs H Q E h=>by obtain ⟨_,rfl,_⟩:=h; rfl) (fun cdv A outer s H vs Q E hr h=>?_)
 obtain ⟨x0,rfl,h⟩:=h
 have hu:=hr.units
 refine ⟨_,(zad (zak (i:=1) zcg.nd rfl (Or.inl rfl) (za2 zab))
     (zad (zak (i:=2) zcg.nd rfl (Or.inl rfl) zac)
     (zad (zc8 PassesOwn.never rfl (zcZ rfl T.z_range (zaa (zal zau zac (zaf (zar T) (hr.mono (by decide)) rfl T.g_law_draw T.F_law_draw.kp T.b_law_draw .nil zaj (zaa (pv 0) (zaa zac zab)))) zab)) (zaA (i:=3) zcg.nd rfl (Or.inl rfl)) (zad (zak (i:=4) zcg.nd rfl (Or.inl rfl) (zal zau zac (zaf (zar T) (hr.mono (by decide)) rfl T.g_law_draw T.F_law_draw.kp T.b_law_draw .nil zaj (zaa (pv 0) (zaa (zam zah (za2 (zaa zac (zaa zac (zaa zac zab)))) (zaf (zar T) (hr.mono (by decide)) rfl T.g_law_draw T.F_law_draw.kp T.b_law_draw .nil zaj (zaa (pv 0) (zaa zac zab))) (fun _ _=>rfl)) zab)))))
     (zag (za4 (zax zoH (pv 4) (pv 2) (zaw _)) (zad (zev (zhA PySem.F.plainAttrs_list PySem.F.slot_list_append PySem.F.type_list_append zcx (pv 1) (zaa (pv 4) zab)))
     (zag (zak (i:=2) zcg.nd rfl (Or.inl rfl) (zal zck (pv 2) (pv 4))))) zaF))))
     (zag (zan (za0 (show zaP _ (.type "tuple") (zbl K) from za3) rfl T.z_tuple zbY (zaa (pv 1) zab))))))),?_⟩
 clear hu
 try clear hgd
 try dsimp only [za8,zaQ]
 rw [show start ["_law_pen_here","_law_found","_law_room","_law_k","_law_size"] [x0] = [some x0,none,none,none,none] from rfl]
 obtain ⟨p,k,rfl,hp,hk,q⟩:=h
 wtm_at "gg"
 refine zcm (by simp) (fun lf H1 hf S1 e1=>?_)
 have nef : lf ≠ p:=Pen.ne hf hp
 have hp1:=hp.same S1
 wtm_at "ga"
 rename_i c H3 c0 c1 E3 K3 P3
 have E0 : Exc p H1 H3:=by wtm_at "exc"
 have K0 : zaY H H3:=by wtm_at "keep"
 have P0 : Pen H3 p (k + 1):=by wtm_at "penle"
 have e3 : H3 lf = some (.lst []):=E0.at nef e1
 have X0 : Exc p H H3:=fun b o hb h=>E0 b o hb (S1 b o h)
 have hc : 1 + c <= 5:=by omega
 clear E3 K3 P3 E0 hp1 hp S1 e1
 refine zec (n:=1 + c) (by omega) (by omega) (fun i σ H'=>∃ room o1 o2 ns,σ = [some (.ref p),some (.ref lf),some (.int room),o1,o2] /\ Exc p H H' /\ zaY H H' /\ Pen H' p (k + 1 + 2 * (i : Int)) /\ H' lf = some (.lst (ns.map V.int)) /\ 0 <= room /\ ns.sum + room = 8 /\ ns.length <= i /\ (0 < i -> 1 <= ns.length) /\ (i = 0 -> room = 8) /\ ∀ n ∈ ns,1 <= n /\ n <= 3)
   ⟨8,_,_,[],rfl,X0,K0,P0.le (by omega),e3,by decide,rfl,by simp,by simp,fun _=>rfl,by simp⟩ ?_ ?_
 . rintro i σ H4 hi ⟨room,o1,o2,ns,rfl,X4,K4,P4,e4,r0,hsum,hlen,hpos,hroom,hall⟩
   have hi8 : i < 5:=by omega
   wtm_at "ga"
   . rename_i l5 H5 n5 S5 e5 r6 H6 r60 r61 E6 K6 P6 z hz s0 H7 s1 s2 E7 K7 P7 hle
     have e7 : H7 lf = some (.lst (ns.map V.int)):=E7.at nef (E6.at nef (S5 _ _ e4))
     have X7 : Exc p H H7:=X4.trans (S5.exc.trans (E6.trans E7))
     have L7 : zaY H H7:=K4.trans (S5.keep.trans (K6.trans K7))
     refine zfx (SqL.of e7) ?_
     wtm_at "gg"
     refine zcX e7 (by simp; omega) (fun H8 E8 e8=>?_)
     wtm_at "gg"
     obtain ⟨px,py,pn,pe,pn0,pn1⟩:=P7
     refine ⟨_,_,_,ns ++ [1 + s0],rfl,fun b o hb h=>E8 b o (zba h hf) (X7 b o hb h),L7.trans (E8.keep e7),⟨px,py,pn,E8 p _ (Ne.symm nef) pe,pn0,by omega⟩,by rw [List.map_append]; exact e8,by omega,by rw [List.sum_append]; simp; omega,by simp; omega,by simp,fun h=>absurd h (by omega),fun n hn=>?_⟩
     rcases List.mem_append.mp hn with h | h
     . exact hall n h
     . rw [List.mem_singleton.mp h]; omega
   . rename_i l5 H5 n5 S5 e5 r6 H6 r60 r61 E6 K6 P6 z hz s0 H7 s1 s2 E7 K7 P7 hle
     have e7 : H7 lf = some (.lst (ns.map V.int)):=E7.at nef (E6.at nef (S5 _ _ e4))
     have X7 : Exc p H H7:=X4.trans (S5.exc.trans (E6.trans E7))
     have L7 : zaY H H7:=K4.trans (S5.keep.trans (K6.trans K7))
     refine ⟨room,_,_,ns,rfl,X7,L7,P7.le (by omega),e7,r0,hsum,by omega,fun _=>?_,fun h=>absurd h (by omega),hall⟩
     rcases Nat.eq_zero_or_pos i with hz0 | hz0
     . have:=hroom hz0
       omega
     . exact hpos hz0
 . rintro σ H4 ⟨room,o1,o2,ns,rfl,X4,K4,P4,e4,r0,hsum,hlen,hpos,hroom,hall⟩
   wtm_at "gg"
   refine ziL (SqL.of e4) (fun l5 H5 hl5 S5 e5=>?_)
   refine q _ H5 ns (X4.trans S5.exc) (K4.trans S5.keep) ((P4.same S5).le (by omega)) (zkc.mpr ⟨l5,rfl,.of e5⟩) ⟨hpos (by omega),by omega,fun n hn=>by have:=hall n hn; omega,by omega⟩ (fun n hn=>(hall n hn).2)
theorem Bd.of34 {m : Int} (h1 : -10000000000 <= m) (h2 : m <= 10000000000) : Bd 34 m:=⟨by
 have : (2 : Nat) ^ 34 = 17179869184:=by decide
 omega⟩
theorem zsG {B : Int} (h1 : 0 < B) (h2 : B <= 3000000000) {ts : List Int} (h : ∀ t ∈ ts,-10000000000 <= t /\ t <= 10000000000) : Cm 34 (ts.map fun t=>Rat.divInt t B):=by
 refine ⟨B,h1,Bd.of34 (by omega) (by omega),fun x hx=>?_⟩
 obtain ⟨t,ht,rfl⟩:=List.mem_map.mp hx
 have:=h t ht
 exact ⟨t,rfl,Bd.of34 (by omega) (by omega)⟩
theorem zfw {K : PySem.W.Frag} {H : Hp} {us : List V} {u : V} {xs : List Rat} {x : Rat} (h : IsAll K H us (xs.map N)) (k : Is K H u (N x)) : IsAll K H (us ++ [u]) ((xs ++ [x]).map N):=by
 rw [List.map_append]
 exact h.append (.cons k .nil)
def zfp (K : PySem.W.Frag) : Sp:=fun vs H Q _=>∃ x0 x1,vs = [x0,x1] /\ ∃ (p : Addr) (k many : Int),x0 = .ref p /\ x1 = .int many /\ Pen H p k /\ k <= 1000 /\ 0 <= many /\ many <= 7 /\ ∀ v H' xs,Exc p H H' -> zaY H H' -> Pen H' p (k + 12) -> Is K H' v (TN xs) -> (xs.length : Int) = many -> Cm 34 xs -> Q v H'
theorem zdX {K : PySem.W.Frag} {H : Hp} {Q : VK} {E : XK} {p : Addr} {k many : Int} (h : Pen H p k) (hk : k <= 1000) (h0 : 0 <= many) (h7 : many <= 7) (q : ∀ v H' xs,Exc p H H' -> zaY H H' -> Pen H' p (k + 12) -> Is K H' v (TN xs) -> (xs.length : Int) = many -> Cm 34 xs -> Q v H') : zfp K [.ref p,.int many] H Q E:=⟨_,_,rfl,p,k,many,rfl,rfl,h,hk,h0,h7,q⟩
set_option maxHeartbeats 4000000 in
theorem zif (T : Txt K mg a) : zbd P w K mg base CX0 2 a.law_places a.fd_law_places ["_law_pen_here","_law_many"] (zfp K):=by
 refine T.F_law_places.ok zb0 (fun vs H Q E h=>by obtain ⟨_,_,rfl,_⟩:=h; rfl) (fun cdv A outer s H vs Q E hr h=>?_)
 obtain ⟨x0,x1,rfl,h⟩:=h
 have hu:=hr.units
 refine ⟨_,(zad (zak (i:=2) zb0.nd rfl (Or.inr rfl) (zal zau (zal zau (pv 1) zac) (zaf (zar T) (hr.mono (by decide)) rfl T.g_law_draw T.F_law_draw.kp T.b_law_draw .nil zaj (zaa (pv 0) (zaa (zam zah (za2 (zaa zac (zaa zac (zaa (zg6 (v:=1000000000) ⟨by decide,by decide,by decide⟩ (by decide +kernel)) zab)))) (zaf (zar T) (hr.mono (by decide)) rfl T.g_law_draw T.F_law_draw.kp T.b_law_draw .nil zaj (zaa (pv 0) (zaa zac zab))) (fun _ _=>rfl)) zab)))))
     (zad (za4 (zax (show OpR _ (compareOp .Eq) (zcL K) from zbC hu) (zaf (zar T) (hr.mono (by decide)) rfl T.g_law_draw T.F_law_draw.kp T.b_law_draw .nil zaj (zaa (pv 0) (zaa zac zab))) zac (zaw _)) (zag (zan (za0 (show zaP _ (.type "tuple") (zbl K) from za3) rfl T.z_tuple zbY (zaa (zcK rfl (zbG.by (N':=["_law_k","_law_bottom","_law_pen_here"]) (src:=[none,some 2,some 0]) rfl (show zbz _ (zae zbS).names ["_law_pen_here","_law_many","_law_bottom","_law_found","_law_top","_law_k"] ["_law_k","_law_bottom","_law_pen_here"] [none,some 2,some 0] = true from by decide +kernel)) (zcZ rfl T.z_range (zaa (pv 1) zab)) (fun _ _ _ _ _=>(zaA (i:=0) (show (["_law_k","_law_bottom","_law_pen_here"] : List Str).Nodup from by decide) rfl (Or.inl rfl))) (fun _ _ _ _ _=>zb5) (fun _ _ _ _ _=>(zaf (zaL (K:=K) (mg:=mg) (a:=a) T) (hr.mono (by decide)) rfl T.g_law_low T.F_law_low.kp T.b_law_low .nil zaj (zaa (zal zck (zaf (zar (K:=K) (mg:=mg) (a:=a) T) (hr.mono (by decide)) rfl T.g_law_draw T.F_law_draw.kp T.b_law_draw .nil zaj (zaa (pv 2) (zaa (zal zav zac (pv 1)) zab))) (pv 1)) (zaa (pv 1) zab))))) zab)))) zaF)
     (zad (zak (i:=3) zb0.nd rfl (Or.inl rfl) (za2 zab))
     (zad (zak (i:=4) zb0.nd rfl (Or.inl rfl) (pv 2))
     (zad (zc8 PassesOwn.never rfl (zcZ rfl T.z_range (zaa (pv 1) zab)) (zaA (i:=5) zb0.nd rfl (Or.inl rfl)) (zad (zak (i:=4) zb0.nd rfl (Or.inl rfl) (zal zck (zal zck (pv 4) zac) (zaf (zar T) (hr.mono (by decide)) rfl T.g_law_draw T.F_law_draw.kp T.b_law_draw .nil zaj (zaa (pv 0) (zaa (zal zau zac (zal zbm (zal zck (zal zau (zal zck (pv 4) (pv 1)) (pv 5)) zac) (zal zck (pv 1) (pv 5)))) zab)))))
     (zag (zev (zhA PySem.F.plainAttrs_list PySem.F.slot_list_append PySem.F.type_list_append zcx (pv 3) (zaa (zaf (zaL T) (hr.mono (by decide)) rfl T.g_law_low T.F_law_low.kp T.b_law_low .nil zaj (zaa (pv 4) (zaa (pv 2) zab))) zab))))))
     (zag (zan (za0 (show zaP _ (.type "tuple") (zbl K) from za3) rfl T.z_tuple zbY (zaa (pv 3) zab))))))))),?_⟩
 clear hu
 try clear hgd
 try dsimp only [za8,zaQ]
 rw [show start ["_law_pen_here","_law_many","_law_bottom","_law_found","_law_top","_law_k"] [x0,x1] = [some x0,some x1,none,none,none,none] from rfl]
 obtain ⟨p,k,many,rfl,rfl,hp,hk,h0,h7,q⟩:=h
 wtm_at "ga"
 . rename_i B' H3 B0 B1 E3 K3 P3 d H4 d0 d1 E4 K4 P4 hd0
   have hB1 : 0 < many + 1 + B':=by omega
   have hB2 : many + 1 + B' <= 3000000000:=by omega
   have X0 : Exc p H H4:=by wtm_at "exc"
   have K0 : zaY H H4:=by wtm_at "keep"
   have P0 : Pen H4 p (k + 3):=by wtm_at "penle"
   generalize many + 1 + B' = B at hB1 hB2 ⊢
   clear E3 K3 P3 E4 K4 P4 hp
   refine zid (n:=many) (by omega) (by omega) (fun D i ys σ' H'=>(∃ o,σ' = [o,some (.int B),some (.ref p)]) /\ H4 D = none /\ D ≠ p /\ Exc p H4 H' /\ zaY H4 H' /\ Pen H' p (k + 3 + (i : Int)) /\ ∃ (us : List V) (ts : List Int),H' D = some (.lst us) /\ ts.length = i /\ IsAll K H' us ((ts.map fun t=>Rat.divInt t B).map N) /\ ∀ t ∈ ts,-10000000000 <= t /\ t <= 10000000000) ?_ ?_ ?_
   . intro D H' n s e
     exact ⟨⟨_,rfl⟩,n,Pen.ne n P0,s.exc,s.keep,(P0.same s).le (by omega),[],[],e,rfl,.nil,by simp⟩
   . rintro D i ys σ' H' hi ⟨⟨o,rfl⟩,hn,hne,hE,hK,hP,us,ts,hD,hl,ht,hm⟩
     wtm_at "gg"
     rename_i r H6 r0 r1 E6 K6 P6 v7 H7 x7 S7 i7 e7 b7
     have hul:=ht.length
     simp only [List.length_map] at hul
     have hD7:=S7 _ _ (E6.at hne hD)
     refine zhe hD7 (by omega) (fun H8 E8 e8=>?_)
     have K8 : zaY H7 H8:=E8.keep hD7
     refine ⟨⟨_,rfl⟩,hn,hne,fun b o hb h=>E8 b o (zba h hn) (S7 b o ((hE.trans E6) b o hb h)),(hK.trans K6).trans (S7.keep.trans K8),?_,us ++ [v7],ts ++ [r - B],e8,by simp [hl],?_,?_⟩
     . obtain ⟨x,y,z,e,h1,h2⟩:=P6
       exact ⟨x,y,z,E8 p _ (Ne.symm hne) (S7 _ _ e),h1,by omega⟩
     . rw [List.map_append]
       refine zfw (IsAll.keep (K6.trans (S7.keep.trans K8)) _ _ (zbM _) ht) ?_
       show Is K H8 v7 (N (Rat.divInt (r - B) B))
       rw [<- e7]
       exact i7.byN K8
     . intro t ht'
       rcases List.mem_append.mp ht' with h | h
       . exact hm t h
       . rw [List.mem_singleton.mp h]; omega
   . rintro D ys σ' H' ⟨_,hn,hne,hE,hK,hP,us,ts,hD,hl,ht,hm⟩
     refine zbu (zcn hD ht) (fun w H6 S6 i6=>?_)
     wtm_at "gg"
     exact q w H6 _ (X0.trans (hE.trans S6.exc)) (K0.trans (hK.trans S6.keep)) ((hP.same S6).le (by omega)) i6 (by simp; omega) (zsG hB1 hB2 hm)
 . rename_i B' H3 B0 B1 E3 K3 P3 d H4 d0 d1 E4 K4 P4 hd0 lf H5 n5 S5 e5
   have hB1 : many + 1 <= many + 1 + B':=by omega
   have hB2 : many + 1 + B' <= 3000000000:=by omega
   have X0 : Exc p H H5:=by wtm_at "exc"
   have K0 : zaY H H5:=by wtm_at "keep"
   have P0 : Pen H5 p (k + 3):=by wtm_at "penle"
   have nef : lf ≠ p:=Pen.ne n5 (by assumption)
   generalize many + 1 + B' = B at hB1 hB2 ⊢
   have hfr : H lf = none:=by
     cases e : H lf with
     | none=>rfl
     | some o=>rw [(by wtm_at "exc" : Exc p H H4) lf o nef e] at n5; cases n5
   clear E3 K3 P3 E4 K4 P4 hp S5
   refine zec (n:=many) (by omega) (by omega) (fun i σ H'=>∃ (top : Int) (o1 : Option V) (us : List V) (ts : List Int),σ = [some (.ref p),some (.int many),some (.int B),some (.ref lf),some (.int top),o1] /\ Exc p H H' /\ zaY H H' /\ Pen H' p (k + 3 + (i : Int)) /\ H' lf = some (.lst us) /\ ts.length = i /\ IsAll K H' us ((ts.map fun t=>Rat.divInt t B).map N) /\ many - (i : Int) + 1 <= top /\ top <= B /\ ∀ t ∈ ts,-10000000000 <= t /\ t <= 10000000000)
     ⟨B,_,[],[],rfl,X0,K0,P0.le (by omega),e5,rfl,.nil,by omega,Int.le_refl _,by simp⟩ ?_ ?_
   . rintro i σ H6 hi ⟨top,o1,us,ts,rfl,X6,K6,P6,e6,hl,ht,h1,h2,hm⟩
     have hi' : (i : Int) < many:=by omega
     wtm_at "gg"
     have hd : zfg (top - many + (i : Int) - 1) (many - (i : Int)):=⟨by omega,Bd.mono (Bd.of128 (by omega) (by omega)) (by decide)⟩
     have f0 : 0 <= (top - many + (i : Int) - 1).fdiv (many - (i : Int)):=by rw [Int.fdiv_eq_ediv_of_nonneg _ (by omega)]; exact Int.ediv_nonneg (by omega) (by omega)
     have f1 : (top - many + (i : Int) - 1).fdiv (many - (i : Int)) <= top - many + (i : Int) - 1:=by rw [Int.fdiv_eq_ediv_of_nonneg _ (by omega)]; exact Int.ediv_le_self _ (by omega)
     refine zko hd ?_
     generalize (top - many + (i : Int) - 1).fdiv (many - (i : Int)) = f at f0 f1 ⊢
     wtm_at "gg"
     rename_i r H7 r0 r1 E7 K7 P7
     have e7:=E7.at nef e6
     refine zfx (SqL.of e7) ?_
     wtm_at "gg"
     rename_i v8 H8 x8 S8 i8 e8 b8
     have e8':=S8 _ _ e7
     have hul:=ht.length
     simp only [List.length_map] at hul
     refine zcX e8' (by omega) (fun H9 E9 e9=>?_)
     have K9 : zaY H8 H9:=E9.keep e8'
     obtain ⟨px,py,pn,pe,pn0,pn1⟩:=P7
     refine ⟨_,_,us ++ [v8],ts ++ [top - 1 - r],rfl,fun b o hb h=>E9 b o (zba h hfr) (S8 b o ((X6.trans E7) b o hb h)),(K6.trans K7).trans (S8.keep.trans K9),⟨px,py,pn,E9 p _ (Ne.symm nef) (S8 _ _ pe),pn0,by omega⟩,e9,by simp [hl],?_,by omega,by omega,?_⟩
     . rw [List.map_append]
       refine zfw (IsAll.keep (K7.trans (S8.keep.trans K9)) _ _ (zbM _) ht) ?_
       show Is K H9 v8 (N (Rat.divInt (top - 1 - r) B))
       rw [<- e8]
       exact i8.byN K9
     . intro t ht'
       rcases List.mem_append.mp ht' with h | h
       . exact hm t h
       . rw [List.mem_singleton.mp h]; omega
   . rintro σ H6 ⟨top,o1,us,ts,rfl,X6,K6,P6,e6,hl,ht,h1,h2,hm⟩
     wtm_at "gg"
     refine zbu (zcn e6 ht) (fun w H7 S7 i7=>?_)
     exact q w H7 _ (X6.trans S7.exc) (K6.trans S7.keep) ((P6.same S7).le (by omega)) i7 (by simp; omega) (zsG (by omega) hB2 hm)
theorem zg4 : ∀ {ts : List Int} {ys : List V},ys.length = ts.length -> (∀ (j : Nat) (y : V),ys[j]? = some y -> y = V.int (ts.getD j 0)) -> ys = ts.map V.int
 | [],ys,hl,_=>List.eq_nil_of_length_eq_zero hl
 | t :: ts,[],hl,_=>by cases hl
 | t :: ts,y :: ys,hl,h=>by
   rw [List.map_cons,<- zg4 (by simpa using hl) fun j y e=>h (j + 1) y e,h 0 y rfl]
   rfl
theorem zqn {ts : List Int} {i : Nat} {x : V} (h : (ts.map V.int)[i]? = some x) : i < ts.length /\ x = .int (ts.getD i 0):=by
 have hi : i < ts.length:=by
   rcases Nat.lt_or_ge i ts.length with z | z
   . exact z
   . rw [List.getElem?_eq_none (by simpa using z)] at h; cases h
 refine ⟨hi,?_⟩
 rw [List.getElem?_map,List.getElem?_eq_getElem hi] at h
 rw [List.getD_eq_getElem?_getD,List.getElem?_eq_getElem hi]
 exact (Option.some.inj h).symm
theorem zgC {f : Int -> Int} {ts : List Int} {i : Nat} (h : i < ts.length) : (ts.map f).getD i 0 = f (ts.getD i 0):=by
 rw [List.getD_eq_getElem?_getD,List.getD_eq_getElem?_getD,List.getElem?_map,List.getElem?_eq_getElem h]
 rfl
theorem zkd {ts : List Int} {i : Nat} (h : i < ts.length) : ts.getD i 0 ∈ ts:=by
 rw [List.getD_eq_getElem?_getD,List.getElem?_eq_getElem h]
 exact List.getElem_mem h
theorem zk1 {B : Int} {ts : List Int} {i : Nat} (h : i < ts.length) : (zcc B ts).getD i 0 = Rat.divInt (ts.getD i 0) B:=by
 unfold zcc
 rw [List.getD_eq_getElem?_getD,List.getD_eq_getElem?_getD,List.getElem?_map,List.getElem?_eq_getElem h]
 rfl
theorem znl {α β : Type} {f : α -> β} {xs : List α} {i : Nat} {d : α} {e : β} (h : i < xs.length) : (xs.map f).getD i e = f (xs.getD i d):=by
 rw [List.getD_eq_getElem?_getD,List.getD_eq_getElem?_getD,List.getElem?_map,List.getElem?_eq_getElem h]
 rfl
theorem zj0 (ts : List Int) : ts.map V.int ++ [V.int 0] = (ts ++ [0]).map V.int:=by simp
theorem zmG {B t : Int} (hB : 0 < B) : Rat.divInt (B - t) B = 1 - Rat.divInt t B:=by
 refine zbc (by omega) ?_
 have q2:=zap t (show B ≠ 0 by omega)
 have q3 : ((B - t : Int) : Rat) = (B : Rat) - (t : Rat):=by push_cast; rfl
 rw [q3,<- q2]
 grind
def zeT (a b : Rat) (ns : List Int) (xs : List Rat) (k : Nat) : List Rat:=(List.range k).map fun j=>1 - (zaS a b ns xs j).getD j 0
theorem zju (a b : Rat) (ns : List Int) (xs : List Rat) (k : Nat) : zeT a b ns xs (k + 1) = zeT a b ns xs k ++ [1 - (zaS a b ns xs k).getD k 0]:=by
 unfold zeT
 rw [List.range_succ,List.map_append]
 rfl
structure zsT (K : PySem.W.Frag) (H : Hp) (a b : Rat) (ns : List Int) (ys : List Rat) (lw lr : Addr) (k : Nat) (B : Int) (ts : List Int) (ln : Addr) (H' : Hp) : Prop where
 pos : 0 < B
 bB : Bd (2700 + 2 * k + 21 * upTo ns k) B
 bt : ∀ t ∈ ts,Bd (2700 + 2 * k + 21 * upTo ns k) t
 eq : zcc B ts = turned a b ns ys k
 same : zai H H'
 now : H' ln = some (.lst (ts.map V.int))
 nw : ln ≠ lw
 nr : ln ≠ lr
 w : ∃ ws,H' lw = some (.lst ws) /\ ws.length = k /\ IsAll K H' ws ((zeT a b ns ys k).map N)
 r : ∃ rs,H' lr = some (.lst rs) /\ rs.length = k /\ ∀ j v,rs[j]? = some v -> ∃ lj us,v = .ref lj /\ lj ≠ lw /\ lj ≠ lr /\ H' lj = some (.lst us) /\ IsAll K H' us ((turned a b ns ys (j + 1)).map N)
def zdu (a b : Rat) (ns : List Int) (xs : List Rat) : List (List Rat):=(List.range ns.length).map fun j=>turned a b ns xs (j + 1)
theorem zco (a b : Rat) (ns : List Int) (xs : List Rat) : (zdu a b ns xs).length = ns.length:=by simp [zdu]
theorem zdW {a b : Rat} {ns : List Int} {xs : List Rat} {k : Nat} (h : k < ns.length) : (zdu a b ns xs).getD k [] = turned a b ns xs (k + 1):=by
 unfold zdu
 rw [List.getD_eq_getElem?_getD,List.getElem?_map,List.getElem?_range h]
 rfl
def zf2 (K : PySem.W.Frag) : Sp:=fun vs H Q _=>∃ x0 x1 x2,vs = [x0,x1,x2] /\ ∃ (a b : Rat) (ns : List Int) (xs : List Rat),Is K H x0 (R a b) /\ Is K H x1 (TZ ns) /\ Is K H x2 (TN xs) /\ Bdr 10 a /\ Bdr 10 b /\ zaz ns /\ ns.length = xs.length + 1 /\ (∀ i,Bdr 330 (xs.getD i 0)) /\
 ∀ v H',zai H H' -> Is K H' v (.tuple [LN (zeT a b ns (xs ++ [0]) ns.length),LL (zdu a b ns (xs ++ [0]))]) -> Q v H'
theorem zfM {K : PySem.W.Frag} {H : Hp} {Q : VK} {E : XK} {a b : Rat} {ns : List Int} {xs : List Rat} {v w u : V} (h1 : Is K H v (R a b)) (h2 : Is K H w (TZ ns)) (h3 : Is K H u (TN xs)) (b1 : Bdr 10 a) (b2 : Bdr 10 b) (ok : zaz ns) (hl : ns.length = xs.length + 1) (hb : ∀ i,Bdr 330 (xs.getD i 0))
   (q : ∀ v H',zai H H' -> Is K H' v (.tuple [LN (zeT a b ns (xs ++ [0]) ns.length),LL (zdu a b ns (xs ++ [0]))]) -> Q v H') : zf2 K [v,w,u] H Q E:=⟨_,_,_,rfl,a,b,ns,xs,h1,h2,h3,b1,b2,ok,hl,hb,q⟩
set_option maxHeartbeats 4000000 in
theorem zfL (T : Txt K mg a) : zbd P w K mg base CX0 2 a.law_round a.fd_law_round ["_law_rule_here","_law_sizes_here","_law_places_here"] (zf2 K):=by
 refine T.F_law_round.ok zaI (fun vs H Q E h=>by obtain ⟨_,_,_,rfl,_⟩:=h; rfl) (fun cdv A outer s H vs Q E hr h=>?_)
 obtain ⟨x0,x1,x2,rfl,h⟩:=h
 have hu:=hr.units
 refine ⟨_,(zad (zfy (pv 0) (zeS (n:=2) rfl (za7 (zeS (n:=2) rfl (za7 (zaA (i:=3) zaI.nd rfl (Or.inr rfl)) (za7 (zaA (i:=4) zaI.nd rfl (Or.inr rfl)) zdm))) (za7 (zeS (n:=2) rfl (za7 (zaA (i:=5) zaI.nd rfl (Or.inr rfl)) (za7 (zaA (i:=6) zaI.nd rfl (Or.inr rfl)) zdm))) zdm))))
     (zad (zak (i:=7) zaI.nd rfl (Or.inr rfl) zac)
     (zad (zc8 PassesOwn.never rfl (zet (pv 2)) (zaA (i:=8) zaI.nd rfl (Or.inl rfl)) (zag (zak (i:=7) zaI.nd rfl (Or.inr rfl) (zal zav (pv 7) (zam zah (pv 8) zac (fun _ _=>rfl))))))
     (zad (zak (i:=9) zaI.nd rfl (Or.inl rfl) (zal zau (zcK rfl (zbG.by (N':=["_law_one","_law_bottom"]) (src:=[none,some 7]) rfl (show zbz _ (zae zbq).names ["_law_rule_here","_law_sizes_here","_law_places_here","_law_a","_law_under_a","_law_b","_law_under_b","_law_bottom","_law_one","_law_now","_law_waits","_law_rows","_law_size","_law_rise","_law_turn"] ["_law_one","_law_bottom"] [none,some 7] = true from by decide +kernel)) (zet (pv 2)) (fun _ _ _ _ _=>(zaA (i:=0) (show (["_law_one","_law_bottom"] : List Str).Nodup from by decide) rfl (Or.inl rfl))) (fun _ _ _ _ _=>zb5) (fun _ _ _ _ _=>(zal zav (zam (show IxR _ (rIx K) from zah) (pv 0) zac (fun _ _=>rfl)) (zal zbm (pv 1) (zam (show IxR _ (rIx K) from zah) (pv 0) zac (fun _ _=>rfl)))))) (za2 (zaa zac zab))))
     (zad (zak (i:=10) zaI.nd rfl (Or.inl rfl) (za2 zab))
     (zad (zak (i:=11) zaI.nd rfl (Or.inl rfl) (za2 zab))
     (zad (zc8 PassesOwn.never rfl (zet (pv 1)) (zaA (i:=12) zaI.nd rfl (Or.inl rfl)) (zad (zak (i:=13) zaI.nd rfl (Or.inr rfl) (zal zck (pv 7) (zam zah (pv 9) zac (fun _ _=>rfl))))
     (zad (zev (zhA PySem.F.plainAttrs_list PySem.F.slot_list_append PySem.F.type_list_append zcx (pv 10) (zaa (zaf (zaL T) (hr.mono (by decide)) rfl T.g_law_low T.F_law_low.kp T.b_law_low .nil zaj (zaa (pv 13) (zaa (pv 7) zab))) zab)))
     (zad (zfE (i:=9) zaI.nd rfl (Or.inl rfl) rfl (zbG.by (N':=["_law_one","_law_rise"]) (src:=[none,some 13]) rfl (show zbz _ (zae zbq).names ["_law_rule_here","_law_sizes_here","_law_places_here","_law_a","_law_under_a","_law_b","_law_under_b","_law_bottom","_law_one","_law_now","_law_waits","_law_rows","_law_size","_law_rise","_law_turn"] ["_law_one","_law_rise"] [none,some 13] = true from by decide +kernel)) (zfN (zc5 zgq (pv 9) (zdS zac) zdL)) (fun _ _ _ _ _=>(zaA (i:=0) (show (["_law_one","_law_rise"] : List Str).Nodup from by decide) rfl (Or.inl rfl))) (fun _ _ _ _ _=>zb5) (fun _ _ _ _ _=>(zal zau (pv 0) (pv 1))))
     (zad (zc8 PassesOwn.never rfl (zcZ rfl T.z_range (zaa (pv 12) zab)) (zaA (i:=14) zaI.nd rfl (Or.inl rfl)) (zad (zfE (i:=9) zaI.nd rfl (Or.inl rfl) rfl (zbG.by (N':=["_law_one","_law_bottom","_law_a","_law_under_b","_law_b","_law_under_a"]) (src:=[none,some 7,some 3,some 6,some 5,some 4]) rfl (show zbz _ (zae zbq).names ["_law_rule_here","_law_sizes_here","_law_places_here","_law_a","_law_under_a","_law_b","_law_under_b","_law_bottom","_law_one","_law_now","_law_waits","_law_rows","_law_size","_law_rise","_law_turn"] ["_law_one","_law_bottom","_law_a","_law_under_b","_law_b","_law_under_a"] [none,some 7,some 3,some 6,some 5,some 4] = true from by decide +kernel)) (zfN (pv 9)) (fun _ _ _ _ _=>(zaA (i:=0) (show (["_law_one","_law_bottom","_law_a","_law_under_b","_law_b","_law_under_a"] : List Str).Nodup from by decide) rfl (Or.inl rfl))) (fun _ _ _ _ _=>zb5) (fun _ _ _ _ _=>(zal zau (zal zav (zal zav (pv 2) (pv 3)) (pv 0)) (zal zav (zal zav (pv 4) (pv 5)) (pv 1)))))
     (zag (zak (i:=7) zaI.nd rfl (Or.inr rfl) (zal zav (zal zav (pv 7) (pv 4)) (pv 6))))))
     (zad (zev (zhA PySem.F.plainAttrs_list PySem.F.slot_list_append PySem.F.type_list_append zcx (pv 9) (zaa zac zab)))
     (zag (zev (zhA PySem.F.plainAttrs_list PySem.F.slot_list_append PySem.F.type_list_append zcx (pv 11) (zaa (zcK rfl (zbG.by (N':=["_law_one","_law_bottom"]) (src:=[none,some 7]) rfl (show zbz _ (zae zbq).names ["_law_rule_here","_law_sizes_here","_law_places_here","_law_a","_law_under_a","_law_b","_law_under_b","_law_bottom","_law_one","_law_now","_law_waits","_law_rows","_law_size","_law_rise","_law_turn"] ["_law_one","_law_bottom"] [none,some 7] = true from by decide +kernel)) (zfN (pv 9)) (fun _ _ _ _ _=>(zaA (i:=0) (show (["_law_one","_law_bottom"] : List Str).Nodup from by decide) rfl (Or.inl rfl))) (fun _ _ _ _ _=>zb5) (fun _ _ _ _ _=>(zaf (zaL (K:=K) (mg:=mg) (a:=a) T) (hr.mono (by decide)) rfl T.g_law_low T.F_law_low.kp T.b_law_low .nil zaj (zaa (pv 0) (zaa (pv 1) zab))))) zab))))))))))
     (zag (zan (zay (zaa (pv 10) (zaa (pv 11) zab)))))))))))),?_⟩
 clear hu
 try clear hgd
 try dsimp only [za8,zaQ]
 rw [show start ["_law_rule_here","_law_sizes_here","_law_places_here","_law_a","_law_under_a","_law_b","_law_under_b","_law_bottom","_law_one","_law_now","_law_waits","_law_rows","_law_size","_law_rise","_law_turn"] [x0,x1,x2] = [some x0,some x1,some x2,none,none,none,none,none,none,none,none,none,none,none,none] from rfl]
 obtain ⟨a',b',ns,xs,hr',hn',hp',ba,bb,ok,hlen,hbx,q⟩:=h
 have hfew:=ok.few
 have hsome:=ok.some
 have bD : ∀ k,k <= xs.length -> Bd 2320 (zfU xs k):=fun k hk=>(zhm hbx k).mono (by omega)
 have ba1:=ba.t
 have ba2:=ba.b
 have bb1:=bb.t
 have bb2:=bb.b
 wtm_at "gg"
 obtain ⟨ap,vs,rfl,hsp,tp⟩:=zaT.mp hp'
 have hvl:=tp.length
 rw [List.length_map] at hvl
 refine zgn hsp (fun k σ H'=>∃ o,σ = [some x0,some x1,some (.ref ap),some (.int a'.num),some (.int (a'.den : Int)),some (.int b'.num),some (.int (b'.den : Int)),some (.int (zfU xs k)),o,none,none,none,none,none,none] /\ H' = H) ⟨_,rfl,rfl⟩ (by rintro i σ H' _ ⟨o,rfl,rfl⟩; exact hsp) ?_ ?_
 . rintro k x σ H' hx ⟨o,rfl,rfl⟩
   obtain ⟨hk,ix⟩:=zdc tp hx
   have bk:=bD k (by omega)
   have bxk:=hbx k
   wtm_at "gg"
   exact ⟨_,rfl,rfl⟩
 . rintro σ H' ⟨o,rfl,hH⟩
   have hH:=hH.symm
   subst hH
   rw [hvl]
   have hB0:=zgB xs xs.length
   have bB:=bD xs.length (Nat.le_refl _)
   have hdv:=fun j (hj : j < xs.length)=>zgo xs xs.length j hj
   generalize zfU xs xs.length = B at hB0 bB hdv ⊢
   wtm_at "gg"
   refine zeZ hsp (o0:=none) (tl:=[some (.int B)]) rfl (fun i v _=>v = .int ((xs.getD i 0).num * B.fdiv ((xs.getD i 0).den : Int))) ?_ ?_
   . rintro D i x ys o H1 hx inv
     obtain ⟨hi,ix⟩:=zdc tp hx
     have ix1:=ix.by inv.same
     have bxk:=hbx i
     have bx2:=bxk.b
     have hf : zfg B ((xs.getD i 0).den : Int):=⟨zby _,bx2.mono (by decide)⟩
     have bq:=zjJ (den_pos (xs.getD i 0)) hB0 bB
     wtm_at "gg"
     exact zb7 inv (by omega) (fun _ _ _ _ _ h=>h) ⟨_,rfl⟩ (zai.refl _) rfl
   . rintro D ys H2 hn2 S2 e2 hl2 hr2
     have hys : ys = (xs.map fun x=>x.num * B.fdiv (x.den : Int)).map V.int:=zg4 (by rw [List.length_map]; omega) (fun j y hy=>by
       have hj : j < xs.length:=by
         rcases Nat.lt_or_ge j ys.length with z | z
         . omega
         . rw [List.getElem?_eq_none z] at hy; cases hy
       rw [hr2 j y hy,znl (d:=0) hj])
     subst hys
     have ht0 : zcc B (xs.map fun x=>x.num * B.fdiv (x.den : Int)) = xs:=by
       unfold zcc
       rw [List.map_map]
       refine List.ext_getElem (by simp) fun j h1 h2=>?_
       have hd:=hdv j h2
       rw [List.getD_eq_getElem?_getD,List.getElem?_eq_getElem h2] at hd
       rw [List.getElem_map]
       exact zh8 hB0 hd
     have bt0 : ∀ t ∈ (xs.map fun x=>x.num * B.fdiv (x.den : Int)),Bd 2700 t:=fun t ht=>by
       obtain ⟨x,hx,rfl⟩:=List.mem_map.mp ht
       obtain ⟨j,hj,rfl⟩:=List.getElem_of_mem hx
       have hb:=hbx j
       rw [List.getD_eq_getElem?_getD,List.getElem?_eq_getElem hj] at hb
       exact (hb.t.mul (zjJ (den_pos _) hB0 bB)).mono (by decide)
     have hts : (xs.map fun x=>x.num * B.fdiv (x.den : Int)).length = xs.length:=List.length_map ..
     generalize (xs.map fun x=>x.num * B.fdiv (x.den : Int)) = ts at e2 ht0 bt0 hts
     wtm_at "gg"
     refine zcm (by simp) (fun l3 H3 hl3 S3 e3=>?_)
     refine zfV (S3 _ _ e2) e3 (Nat.le_of_lt (zcv (by simp; omega))) (fun ln H4 hln S4 e4=>?_)
     rw [zj0] at e4
     wtm_at "gg"
     refine zcm (by simp) (fun lw H5 hlw S5 e5=>?_)
     wtm_at "gg"
     refine zcm (by simp) (fun lr H6 hlr S6 e6=>?_)
     have T6 : zai H H6:=S2.trans (S3.trans (S4.trans (S5.trans S6)))
     have hDw:=zcM (S2.trans (S3.trans S4)) hlw
     have hDr:=zcM (S2.trans (S3.trans (S4.trans S5))) hlr
     have newr : lw ≠ lr:=fun z=>by subst z; rw [e5] at hlr; cases hlr
     have nw0 : ln ≠ lw:=fun z=>by subst z; rw [e4] at hlw; cases hlw
     have nr0 : ln ≠ lr:=fun z=>by subst z; rw [S5 _ _ e4] at hlr; cases hlr
     have bz : Bd 2700 (0 : Int):=(Bd.of128 (by decide) (by decide)).mono (by decide)
     have i0 : zsT K H a' b' ns (xs ++ [0]) lw lr 0 B (ts ++ [0]) ln H6:={
       pos:=hB0
       bB:=bB.mono (by omega)
       bt:=fun t ht=>by
         rcases List.mem_append.mp ht with h | h
         . exact (bt0 t h).mono (by omega)
         . rw [List.mem_singleton.mp h]; exact bz.mono (by omega)
       eq:=by rw [zht,ht0]; rfl
       same:=T6
       now:=S6 _ _ (S5 _ _ e4)
       nw:=nw0
       nr:=nr0
       w:=⟨[],S6 _ _ e5,rfl,.nil⟩
       r:=⟨[],e6,rfl,fun j v h=>by simp at h⟩ }
     obtain ⟨an,rfl,hsn⟩:=zkc.mp hn'
     clear e2 e3 e4 e5 e6 S2 S3 S4 S5 S6 hl3 hln hlw hlr hn2 hr2 hl2 bt0 ht0 T6
     wtm_at "gg"
     refine zgn (i0.same.sqT hsn) (fun k σ H'=>∃ B ts ln o8 o12 o13 o14,σ = [some x0,some (.ref an),some (.ref ap),some (.int a'.num),some (.int (a'.den : Int)),some (.int b'.num),some (.int (b'.den : Int)),some (.int B),o8,some (.ref ln),some (.ref lw),some (.ref lr),o12,o13,o14] /\ zsT K H a' b' ns (xs ++ [0]) lw lr k B ts ln H')
       ⟨_,_,_,_,_,_,_,rfl,i0⟩ (by rintro k σ H' _ ⟨B,ts,ln,o8,o12,o13,o14,rfl,i⟩; exact i.same.sqT hsn) ?_ ?_
     . clear i0
       rintro k x σ H7 hx ⟨B,ts,ln,o8,o12,o13,o14,rfl,iv⟩
       obtain ⟨hk,rfl⟩:=zqn hx
       have hnk:=ok.each (ns.getD k 0) (zkd hk)
       have hU:=ok.upTo
       have hU1:=zme (ns:=ns) (show k + 1 <= ns.length by omega) (Nat.le_refl _)
       have hUs:=ze0 hk
       have hlt : ts.length = xs.length + 1:=by
         have h1:=congrArg List.length iv.eq
         rw [zhJ _ _ _ _ (by simp)] at h1
         simpa [zcc] using h1
       obtain ⟨t0,tr,rfl⟩ : ∃ t0 tr,ts = t0 :: tr:=by
         cases ts with
         | nil=>simp at hlt
         | cons t0 tr=>exact ⟨t0,tr,rfl⟩
       have hB0:=iv.pos
       have bB:=iv.bB
       have enow:=iv.now
       rw [List.map_cons] at enow
       have hhead : (turned a' b' ns (xs ++ [0]) k).headD 0 = Rat.divInt t0 B:=by rw [<- iv.eq]; rfl
       have htail : (turned a' b' ns (xs ++ [0]) k).tail = zcc B tr:=by rw [<- iv.eq]; rfl
       have hrow : (zaS a' b' ns (xs ++ [0]) k).getD k 0 = Rat.divInt t0 B:=by rw [<- zkz _ _ _ _ (by simp; omega),hhead]
       have htr : tr.length = xs.length:=by simpa using hlt
       obtain ⟨ws,ew,hwl,tw⟩:=iv.w
       obtain ⟨rs,er,hrl,tR⟩:=iv.r
       wtm_at "gg"
       refine zeN (SqL.of enow) (show atI _ (0 : Int) = some (V.int t0) from zdM (j:=0) rfl) ?_
       wtm_at "gg"
       refine zfx (SqL.of ew) ?_
       wtm_at "gg"
       refine zbR (by omega) (bB.mono (by omega)) (fun v8 H8 S8 i8=>?_)
       rw [zmG hB0] at i8
       wtm_at "gg"
       refine zcX (S8 _ _ ew) (by omega) (fun H9 E9 e9=>?_)
       have K9 : zaY H8 H9:=E9.keep (S8 _ _ ew)
       have en9 : H9 ln = some (.lst (V.int t0 :: tr.map V.int)):=E9 _ _ iv.nw (S8 _ _ enow)
       have er9:=E9 _ _ (Ne.symm newr) (S8 _ _ er)
       have T9 : zai H H9:=(iv.same.trans S8).grow hDw E9
       wtm_at "gg"
       refine znO (SqL.of en9) (fun l10 H10 n10 S10 e10=>?_)
       have e10' : H10 l10 = some (.lst (tr.map V.int)):=by
         rw [e10,show zit (V.int t0 :: tr.map V.int) (some 1) none = zfc (V.int t0 :: tr.map V.int) (some 1) none from rfl,ziY]
         rfl
       wtm_at "gg"
       refine zhd (SqL.of e10') (o0:=none) (tl:=[some (.int (B - t0))]) rfl (fun i v _=>v = .int (tr.getD i 0 + (B - t0))) ?_ ?_
       . rintro D' i x ys' o' H1 hx' inv
         obtain ⟨hi,rfl⟩:=zqn hx'
         wtm_at "gg"
         exact zb7 inv (by omega) (fun _ _ _ _ _ h=>h) ⟨_,rfl⟩ (zai.refl _) rfl
       . rintro l11 ys' H11 n11 S11 e11 hl11 hr11
         have hys : ys' = (tr.map fun t=>t + (B - t0)).map V.int:=zg4 (by simpa using hl11) (fun j y hy=>by
           have hj : j < tr.length:=by
             rcases Nat.lt_or_ge j ys'.length with z | z
             . simp at hl11; omega
             . rw [List.getElem?_eq_none z] at hy; cases hy
           rw [hr11 j y hy,zgC hj])
         subst hys
         have b0 : Bd (2700 + 2 * k + 21 * upTo ns k + 2) B:=bB.mono (by omega)
         have bt0' : ∀ t ∈ (tr.map fun t=>t + (B - t0)),Bd (2700 + 2 * k + 21 * upTo ns k + 2) t:=fun t ht=>by
           obtain ⟨u,hu,rfl⟩:=List.mem_map.mp ht
           exact ((iv.bt u (List.mem_cons_of_mem _ hu)).add (bB.sub (iv.bt t0 (List.mem_cons_self ..)))).mono (by omega)
         have eq0 : zcc B (tr.map fun t=>t + (B - t0)) = (turned a' b' ns (xs ++ [0]) k).tail.map fun y=>push a' b' 0 (y + (1 - (turned a' b' ns (xs ++ [0]) k).headD 0)):=by
           rw [zk8 hB0,htail,hhead]
           rfl
         have n11':=zcM S10 n11
         have S9_11:=S10.trans S11
         clear hr11 hl11 n11 S11 e10 e10' n10 enow en9
         wtm_at "gg"
         refine zec (n:=ns.getD k 0) (by omega) (by omega) (fun i σ H'=>∃ (B' : Int) (ts' : List Int) (li : Addr) (o14 : Option V),σ = [some x0,some (.ref an),some (.ref ap),some (.int a'.num),some (.int (a'.den : Int)),some (.int b'.num),some (.int (b'.den : Int)),some (.int B'),o8,some (.ref li),some (.ref lw),some (.ref lr),some (.int (ns.getD k 0)),some (.int (B - t0)),o14] /\ 0 < B' /\ Bd (2700 + 2 * k + 21 * upTo ns k + 2 + 21 * i) B' /\ (∀ t ∈ ts',Bd (2700 + 2 * k + 21 * upTo ns k + 2 + 21 * i) t) /\
           zcc B' ts' = ((turned a' b' ns (xs ++ [0]) k).tail.map fun y=>push a' b' i (y + (1 - (turned a' b' ns (xs ++ [0]) k).headD 0))) /\ zai H9 H' /\ H' li = some (.lst (ts'.map V.int)) /\ H9 li = none) ⟨B,_,l11,_,rfl,hB0,b0.mono (by omega),fun t ht=>(bt0' t ht).mono (by omega),eq0,S9_11,e11,n11'⟩ ?_ ?_
         . rintro i σ H12 hi ⟨B',ts',li,o14,rfl,hB',bB',bt',eq',S12,e12,n12⟩
           have hi8 : i < 8:=by omega
           have hlt' : ts'.length = xs.length:=by
             have h1:=congrArg List.length eq'
             rw [List.length_map,htail] at h1
             simpa [zcc,htr] using h1
           have bB7 : Bd 3000 B':=bB'.mono (by omega)
           wtm_at "gg"
           refine zhd (SqL.of e12) (o0:=none) (tl:=[some (.int B'),some (.int a'.num),some (.int (b'.den : Int)),some (.int b'.num),some (.int (a'.den : Int))]) rfl (fun j v _=>v = .int (a'.num * (b'.den : Int) * ts'.getD j 0 + b'.num * (a'.den : Int) * B')) ?_ ?_
           . rintro D' j x ys' o' H1 hx' inv
             obtain ⟨hj,rfl⟩:=zqn hx'
             have bj : Bd 3000 (ts'.getD j 0):=(bt' _ (zkd hj)).mono (by omega)
             wtm_at "gg"
             exact zb7 inv (by omega) (fun _ _ _ _ _ h=>h) ⟨_,rfl⟩ (zai.refl _) rfl
           . rintro l13 ys' H13 n13 S13 e13 hl13 hr13
             have hys : ys' = (ts'.map fun t=>a'.num * (b'.den : Int) * t + b'.num * (a'.den : Int) * B').map V.int:=zg4 (by simpa using hl13) (fun j y hy=>by
               have hj : j < ts'.length:=by
                 rcases Nat.lt_or_ge j ys'.length with z | z
                 . simp at hl13; omega
                 . rw [List.getElem?_eq_none z] at hy; cases hy
               rw [hr13 j y hy,zgC hj])
             subst hys
             wtm_at "gg"
             refine ⟨_,_,l13,_,rfl,Int.mul_pos (Int.mul_pos hB' (den_pos a')) (den_pos b'),((bB'.mul ba2).mul bb2).mono (by omega),fun t ht=>?_,?_,S12.trans S13,e13,zcM S12 n13⟩
             . obtain ⟨u,hu,rfl⟩:=List.mem_map.mp ht
               exact (((ba1.mul bb2).mul (bt' u hu)).add ((bb1.mul ba2).mul bB')).mono (by omega)
             . rw [zlc hB',eq',List.map_map]
               rfl
         . rintro σ H12 ⟨B',ts',li,o14,rfl,hB',bB',bt',eq',S12,e12,n12⟩
           have hlt' : ts'.length = xs.length:=by
             have h1:=congrArg List.length eq'
             rw [List.length_map,htail] at h1
             simpa [zcc,htr] using h1
           have hli : H li = none:=zcM T9 n12
           have newl : li ≠ lw:=fun z=>by subst z; rw [e9] at n12; cases n12
           have nerl : li ≠ lr:=fun z=>by subst z; rw [er9] at n12; cases n12
           wtm_at "gg"
           refine zfx (SqL.of e12) ?_
           wtm_at "gg"
           refine zcX e12 (by simp; omega) (fun H14 E14 e14=>?_)
           rw [zj0] at e14
           have K14 : zaY H12 H14:=E14.keep e12
           have T14 : zai H H14:=(T9.trans S12).grow hli E14
           have er14:=E14 _ _ (Ne.symm nerl) (S12 _ _ er9)
           have ew14:=E14 _ _ (Ne.symm newl) (S12 _ _ e9)
           wtm_at "gg"
           refine zfx (SqL.of er14) ?_
           wtm_at "gg"
           refine zhd (SqL.of e14) (o0:=none) (tl:=[some (.int B')]) rfl (fun j v H=>Is K H v (N ((zcc B' (ts' ++ [0])).getD j 0))) ?_ ?_
           . rintro D' j x ys' o' H1 hx' inv
             obtain ⟨hj,rfl⟩:=zqn hx'
             rw [List.length_append,List.length_singleton] at hj
             wtm_at "gg"
             refine zbR (by omega) (bB'.mono (by omega)) (fun v5 H5 S5 i5=>?_)
             exact zb7 inv (by omega) zcN ⟨_,rfl⟩ S5 (by rw [zk1 (by simp; omega)]; exact i5)
           . rintro l15 us H15 n15 S15 e15 hl15 hr15
             have n15w : l15 ≠ lw:=fun z=>by subst z; rw [ew14] at n15; cases n15
             have n15r : l15 ≠ lr:=fun z=>by subst z; rw [er14] at n15; cases n15
             wtm_at "gg"
             refine zcX (S15 _ _ er14) (by omega) (fun H16 E16 e16=>?_)
             have K16 : zaY H15 H16:=E16.keep (S15 _ _ er14)
             have K8_16 : zaY H8 H16:=K9.trans (S12.keep.trans (K14.trans (S15.keep.trans K16)))
             have hbits : 2700 + 2 * k + 21 * upTo ns k + 2 + 21 * (ns.getD k 0).toNat <= 2700 + 2 * (k + 1) + 21 * upTo ns (k + 1):=by omega
             have hnext : zcc B' (ts' ++ [0]) = turned a' b' ns (xs ++ [0]) (k + 1):=by
               rw [zht,eq']
               rfl
             refine ⟨B',ts' ++ [0],li,_,_,_,_,rfl,?_⟩
             exact {
               pos:=hB'
               bB:=bB'.mono hbits
               bt:=fun t ht=>by
                 rcases List.mem_append.mp ht with h | h
                 . exact (bt' t h).mono hbits
                 . rw [List.mem_singleton.mp h]; exact bz.mono (by omega)
               eq:=hnext
               same:=(T14.trans S15).grow hDr E16
               now:=E16 _ _ nerl (S15 _ _ e14)
               nw:=newl
               nr:=nerl
               w:=⟨ws ++ [v8],E16 _ _ newr (S15 _ _ ew14),by simp [hwl],by
                 rw [zju,hrow]
                 exact zfw (IsAll.keep (S8.keep.trans K8_16) _ _ (zbM _) tw) (i8.byN K8_16)⟩
               r:=⟨rs ++ [.ref l15],e16,by simp [hrl],fun j v hv=>by
                 rcases Nat.lt_or_ge j rs.length with z | z
                 . rw [List.getElem?_append_left z] at hv
                   obtain ⟨lj,uj,rfl,nj1,nj2,ej,tj⟩:=tR j v hv
                   have ej9:=E9 _ _ nj1 (S8 _ _ ej)
                   have njl : lj ≠ li:=fun z=>by subst z; rw [ej9] at n12; cases n12
                   exact ⟨lj,uj,rfl,nj1,nj2,E16 _ _ nj2 (S15 _ _ (E14 _ _ njl (S12 _ _ ej9))),IsAll.keep (S8.keep.trans K8_16) _ _ (zbM _) tj⟩
                 . have hj : j = rs.length:=by
                     rcases Nat.lt_or_ge rs.length j with q | q
                     . rw [List.getElem?_eq_none (by simp; omega)] at hv; cases hv
                     . omega
                   subst hj
                   rw [List.getElem?_append_right (Nat.le_refl _),Nat.sub_self] at hv
                   cases Option.some.inj hv
                   rw [hrl]
                   refine ⟨l15,us,rfl,n15w,n15r,E16 _ _ n15r e15,IsAll.keep K16 _ _ (zbM _) ?_⟩
                   rw [<- hnext]
                   exact zc6 (by rw [hl15]; simp [zcc]) hr15⟩ }
     . rintro σ H7 ⟨B,ts,ln,o8,o12,o13,o14,rfl,iv⟩
       obtain ⟨ws,ew,hwl,tw⟩:=iv.w
       obtain ⟨rs,er,hrl,tr⟩:=iv.r
       rw [List.length_map] at hwl hrl tw
       wtm_at "gg"
       refine zcp (by simp) (.cons (zcn ew tw) (.cons (zbp.mpr ⟨lr,rs,rfl,.of er,zhr (by rw [hrl,zco]) fun j v hv=>?_⟩) .nil)) (fun v H8 S8 i8=>q v H8 (iv.same.trans S8) i8)
       have hj : j < ns.length:=by
         rcases Nat.lt_or_ge j rs.length with z | z
         . omega
         . rw [List.getElem?_eq_none z] at hv; cases hv
       obtain ⟨lj,us,rfl,_,_,ej,tj⟩:=tr j v hv
       rw [zdW hj]
       exact zcn ej tj
def zfs (F : Rat) (ss xs : List Rat) (k : Nat) : List Rat:=(List.range k).map fun i=>F * xs.getD i 0 + ss.getD i 0
theorem zlD (f : Rat) (ss xs : List Rat) (k : Nat) : zfs f ss xs (k + 1) = zfs f ss xs k ++ [f * xs.getD k 0 + ss.getD k 0]:=by
 unfold zfs
 rw [List.range_succ,List.map_append]
 rfl
def zll (F : Rat) (ss xs : List Rat) : List Rat:=zfs F ss xs xs.length
theorem zpD (x y : Rat) : Rat.divInt (x.num * y.num) ((x.den : Int) * (y.den : Int)) = x * y:=by rw [<- Rat.divInt_mul_divInt,Rat.num_divInt_den,Rat.num_divInt_den]
def zhq (K : PySem.W.Frag) : Sp:=fun vs H Q _=>∃ x0 x1 x2,vs = [x0,x1,x2] /\ ∃ (F : Rat) (ss xs : List Rat) (m : Nat),Is K H x0 (N F) /\ Is K H x1 (TN ss) /\ Is K H x2 (LN xs) /\ ss.length = xs.length /\ xs.length <= 8 /\ Bdr 49 F /\ (∀ i,Bdr 200 (ss.getD i 0)) /\ (∀ i,Bdr m (xs.getD i 0)) /\ m <= 8000 /\ ∀ l H',H l = none -> zai H H' -> Is K H' (.ref l) (LN (zll F ss xs)) -> Q (.ref l) H'
theorem zlT {K : PySem.W.Frag} {H : Hp} {Q : VK} {E : XK} {F : Rat} {ss xs : List Rat} {m : Nat} {v w u : V} (h1 : Is K H v (N F)) (h2 : Is K H w (TN ss)) (h3 : Is K H u (LN xs)) (hl : ss.length = xs.length) (h8 : xs.length <= 8) (bF : Bdr 49 F) (bs : ∀ i,Bdr 200 (ss.getD i 0)) (bx : ∀ i,Bdr m (xs.getD i 0)) (hm : m <= 8000) (q : ∀ l H',H l = none -> zai H H' -> Is K H' (.ref l) (LN (zll F ss xs)) -> Q (.ref l) H') : zhq K [v,w,u] H Q E:=⟨_,_,_,rfl,F,ss,xs,m,h1,h2,h3,hl,h8,bF,bs,bx,hm,q⟩
set_option maxHeartbeats 4000000 in
theorem zlm (T : Txt K mg a) : zbd P w K mg base CX0 3 a.law_led a.fd_law_led ["_law_factor","_law_shifts","_law_places_here"] (zhq K):=by
 refine T.F_law_led.ok zel (fun vs H Q E h=>by obtain ⟨_,_,_,rfl,_⟩:=h; rfl) (fun cdv A outer s H vs Q E hr h=>?_)
 obtain ⟨x0,x1,x2,rfl,h⟩:=h
 have hu:=hr.units
 refine ⟨_,(zad (zak (i:=3) zel.nd rfl (Or.inl rfl) (za2 zab))
     (zad (zc8 PassesOwn.never rfl (zph rfl T.z_zip (zaa (pv 2) (zaa (pv 1) zab))) (zeS (n:=2) rfl (za7 (zaA (i:=4) zel.nd rfl (Or.inl rfl)) (za7 (zaA (i:=5) zel.nd rfl (Or.inl rfl)) zdm))) (zag (zev (zhA PySem.F.plainAttrs_list PySem.F.slot_list_append PySem.F.type_list_append zcx (pv 3) (zaa (zaf (zcB T) (hr.mono (by decide)) rfl T.g_law_plus T.F_law_plus.kp T.b_law_plus .nil zaj (zaa (zaf (zaL T) (hr.mono (by decide)) rfl T.g_law_low T.F_law_low.kp T.b_law_low .nil zaj (zaa (zal zav (zam zah (pv 0) zac (fun _ _=>rfl)) (zam zah (pv 4) zac (fun _ _=>rfl))) (zaa (zal zav (zam zah (pv 0) zac (fun _ _=>rfl)) (zam zah (pv 4) zac (fun _ _=>rfl))) zab))) (zaa (pv 5) zab))) zab)))))
     (zag (zan (pv 3))))),?_⟩
 clear hu
 try clear hgd
 try dsimp only [za8,zaQ]
 rw [show start ["_law_factor","_law_shifts","_law_places_here","_law_found","_law_place","_law_shift"] [x0,x1,x2] = [some x0,some x1,some x2,none,none,none] from rfl]
 obtain ⟨f,ss,xs,m,hf',hs',hx',hl,hfew,bf,bs,bx,hm,q⟩:=h
 obtain ⟨a1,vs,rfl,hsx,tx⟩:=zbp.mp hx'
 obtain ⟨a2,us,rfl,hss,ts⟩:=zaT.mp hs'
 have lx:=tx.length
 have ls:=ts.length
 rw [List.length_map] at lx ls
 have bf1:=bf.t
 have bf2:=bf.b
 wtm_at "gg"
 refine zcm (by simp) (fun l H1 hl1 S1 e1=>?_)
 wtm_at "gg"
 refine zne (t:=false) (u:=true) (S1.seq hsx) (S1.sqT hss) (by omega) (fun k σ H'=>∃ o4 o5 ws,σ = [some x0,some (.ref a2),some (.ref a1),some (.ref l),o4,o5] /\ zai H H' /\ H' l = some (.lst ws) /\ ws.length = k /\ IsAll K H' ws ((zfs f ss xs k).map N)) ⟨_,_,[],rfl,S1,e1,rfl,.nil⟩ (by rintro k σ H' _ ⟨o4,o5,ws,rfl,S,_⟩; exact ⟨S.seq hsx,S.sqT hss⟩) ?_ ?_
 . rintro k x y σ H2 c H3 hx hy ⟨o4,o5,ws,rfl,S2,e2,hw,tw⟩ hc S3 e3
   obtain ⟨hk,ix⟩:=zdc tx hx
   obtain ⟨_,iy⟩:=zdc ts hy
   have T3:=S2.trans S3
   have ix3:=ix.by T3
   have iy3:=iy.by T3
   have if3:=hf'.by T3
   have c1:=(bx k).mono hm
   have c2:=bs k
   refine ze8 (.of e3) rfl ?_
   wtm_at "gg"
   refine zfx (SqL.of (S3 _ _ e2)) ?_
   wtm_at "gg"
   refine zbR (Int.mul_ne_zero (zby _) (zby _)) ((bf2.mul c1.b).mono (by decide)) (fun v4 H4 S4 i4=>?_)
   rw [zpD] at i4
   wtm_at "gg"
   refine zdo i4 (iy3.by S4) (bf.mul (bx k)) c2 (by omega) (fun v6 H6 S6 i6=>?_)
   wtm_at "gg"
   have e4:=(S4.trans S6) _ _ (S3 _ _ e2)
   refine zcX e4 (by omega) (fun H5 E5 e5=>?_)
   have K5 : zaY H6 H5:=E5.keep e4
   refine ⟨_,_,ws ++ [v6],rfl,(T3.trans (S4.trans S6)).grow hl1 E5,e5,by simp [hw],?_⟩
   rw [zlD,List.map_append]
   exact (IsAll.keep (S3.keep.trans ((S4.trans S6).keep.trans K5)) _ _ (zbM _) tw).append (.cons (i6.byN K5) .nil)
 . rintro σ H2 ⟨o4,o5,ws,rfl,S2,e2,hw,tw⟩
   rw [lx] at tw
   wtm_at "gg"
   exact q l H2 hl1 S2 (zcn e2 tw)
def zb4 (xs : List Rat) : Bool:=xs.all fun x=>decide (0 < x) && decide (x < 1)
def zfd (K : PySem.W.Frag) : Sp:=fun vs H Q _=>∃ x0,vs = [x0] /\ ∃ (xs : List Rat) (m : Nat),Is K H x0 (LN xs) /\ (∀ i,Bdr m (xs.getD i 0)) /\ m <= 8000 /\ ∀ H',zai H H' -> Q (.bl (zb4 xs)) H'
theorem zio {K : PySem.W.Frag} {H : Hp} {Q : VK} {E : XK} {xs : List Rat} {m : Nat} {v : V} (h : Is K H v (LN xs)) (bx : ∀ i,Bdr m (xs.getD i 0)) (hm : m <= 8000) (q : ∀ H',zai H H' -> Q (.bl (zb4 xs)) H') : zfd K [v] H Q E:=⟨_,rfl,xs,m,h,bx,hm,q⟩
set_option maxHeartbeats 4000000 in
theorem zig (T : Txt K mg a) : zbd P w K mg base CX0 2 a.law_within a.fd_law_within ["_law_some"] (zfd K):=by
 refine T.F_law_within.ok zfn (fun vs H Q E h=>by obtain ⟨_,rfl,_⟩:=h; rfl) (fun cdv A outer s H vs Q E hr h=>?_)
 obtain ⟨x0,rfl,h⟩:=h
 have hu:=hr.units
 refine ⟨_,(zad (zc8 PassesOwn.never rfl (zfN (pv 0)) (zaA (i:=1) zfn.nd rfl (Or.inl rfl)) (zag (za4 (PW.pt (zkM (zdz (zb3 (zaf (zdE T) (hr.mono (by decide)) rfl T.g_law_less T.F_law_less.kp T.b_law_less .nil zaj (zaa (zay (zaa zac (zaa zac zab))) (zaa (pv 1) zab))))) (zjD (zdz (zb3 (zaf (zdE T) (hr.mono (by decide)) rfl T.g_law_less T.F_law_less.kp T.b_law_less .nil zaj (zaa (pv 1) (zaa (zay (zaa zac (zaa zac zab))) zab)))))))) (zag (zan zeQ)) zaF)))
     (zag (zan zeQ))),?_⟩
 clear hu
 try clear hgd
 try dsimp only [za8,zaQ]
 rw [show start ["_law_some","_law_x"] [x0] = [some x0,none] from rfl]
 obtain ⟨xs,m,hx',bx,hm,q⟩:=h
 obtain ⟨lx,us,rfl,hs,tu⟩:=zbp.mp hx'
 have hul:=tu.length
 rw [List.length_map] at hul
 wtm_at "gg"
 refine zm3 hs (fun i σ H'=>∃ o,σ = [some (.ref lx),o] /\ zai H H' /\ ∀ j,j < i -> 0 < xs.getD j 0 /\ xs.getD j 0 < 1) ⟨_,rfl,zai.refl _,fun j hj=>by omega⟩ (fun i σ H' _ h=>by obtain ⟨_,_,S,_⟩:=h; exact S.seq hs) ?_ ?_
 . rintro i x σ H1 hx ⟨o,rfl,S1,hj⟩
   obtain ⟨hi,ix⟩:=zdc tu hx
   have ix1:=ix.by S1
   have bi:=bx i
   wtm_at "gg"
   refine zdk (r:=0) rfl rfl (fun v2 H2 S2 i2=>?_)
   wtm_at "gg"
   refine zdC i2 (ix1.by S2) (m:=2) (n:=m) (Bdr.zero.mono (by decide)) bi (by omega) ?_
   wtm_at "gg"
   . rename_i z
     have : zb4 xs = false:=by
       cases e : zb4 xs with
       | false=>rfl
       | true =>
         have:=List.all_eq_true.mp e _ (zd8 (d:=0) hi)
         simp at this
         exact absurd this.1 z
     rw [this] at q
     exact q _ (S1.trans S2)
   . rename_i z
     refine zdk (r:=1) rfl rfl (fun v3 H3 S3 i3=>?_)
     wtm_at "gg"
     refine zdC (ix1.by (S2.trans S3)) i3 (m:=m) (n:=2) bi (Bdr.one.mono (by decide)) (by omega) ?_
     wtm_at "gg"
     . rename_i y
       have : zb4 xs = false:=by
         cases e : zb4 xs with
         | false=>rfl
         | true =>
           have:=List.all_eq_true.mp e _ (zd8 (d:=0) hi)
           simp at this
           exact absurd this.2 y
       rw [this] at q
       exact q _ (S1.trans (S2.trans S3))
     . rename_i y
       refine ⟨_,rfl,S1.trans (S2.trans S3),fun j hj'=>?_⟩
       rcases Nat.lt_or_ge j i with u | u
       . exact hj j u
       . have : j = i:=by omega
         subst this
         exact ⟨z,y⟩
 . rintro σ H1 ⟨o,rfl,S1,hj⟩
   rw [hul] at hj
   wtm_at "gg"
   have : zb4 xs = true:=List.all_eq_true.mpr fun y hy=>by
     obtain ⟨j,hj',rfl⟩:=List.getElem_of_mem hy
     have:=hj j hj'
     rw [List.getD_eq_getElem?_getD,List.getElem?_eq_getElem hj'] at this
     have : 0 < xs[j] /\ xs[j] < 1:=this
     simp [this.1,this.2]
   rw [this] at q
   exact q _ S1
def zfa (F : Rat) (ss xs : List Rat) : Nat -> List Rat
 | 0=>xs
 | k + 1=>zll F ss (zfa F ss xs k)
theorem zkl (F : Rat) (ss xs : List Rat) : ∀ k,(zfa F ss xs k).length = xs.length
 | 0=>rfl
 | k + 1=>by
   show (zfs F ss (zfa F ss xs k) (zfa F ss xs k).length).length = _
   unfold zfs
   rw [List.length_map,List.length_range,zkl F ss xs k]
def zfS (K : PySem.W.Frag) : Sp:=fun vs H Q _=>∃ x0 x1 x2,vs = [x0,x1,x2] /\ ∃ (F : Rat) (ss xs : List Rat),Is K H x0 (N F) /\ Is K H x1 (TN ss) /\ Is K H x2 (TN xs) /\ ss.length = xs.length /\ xs.length <= 8 /\ Bdr 49 F /\ (∀ i,Bdr 200 (ss.getD i 0)) /\ (∀ k,k <= 40 -> ∀ i,Bdr 8000 ((zfa F ss xs k).getD i 0)) /\ ∀ (c : Nat) H',c <= 40 -> (∀ k,k < c -> zb4 (zfa F ss xs k) = true) -> (c = 40 \/ zb4 (zfa F ss xs c) = false) -> zai H H' -> Q (.int (c : Int)) H'
theorem zdn {K : PySem.W.Frag} {H : Hp} {Q : VK} {E : XK} {F : Rat} {ss xs : List Rat} {v w u : V} (h1 : Is K H v (N F)) (h2 : Is K H w (TN ss)) (h3 : Is K H u (TN xs)) (hl : ss.length = xs.length) (h8 : xs.length <= 8) (bF : Bdr 49 F) (bs : ∀ i,Bdr 200 (ss.getD i 0)) (bx : ∀ k,k <= 40 -> ∀ i,Bdr 8000 ((zfa F ss xs k).getD i 0)) (q : ∀ (c : Nat) H',c <= 40 -> (∀ k,k < c -> zb4 (zfa F ss xs k) = true) -> (c = 40 \/ zb4 (zfa F ss xs c) = false) -> zai H H' -> Q (.int (c : Int)) H') : zfS K [v,w,u] H Q E:=⟨_,_,_,rfl,F,ss,xs,h1,h2,h3,hl,h8,bF,bs,bx,q⟩
set_option maxHeartbeats 4000000 in
theorem zji (T : Txt K mg a) : zbd P w K mg base CX0 4 a.law_count a.fd_law_count ["_law_factor","_law_shifts","_law_places_here"] (zfS K):=by
 refine T.F_law_count.ok zcF (fun vs H Q E h=>by obtain ⟨_,_,_,rfl,_⟩:=h; rfl) (fun cdv A outer s H vs Q E hr h=>?_)
 obtain ⟨x0,x1,x2,rfl,h⟩:=h
 have hu:=hr.units
 refine ⟨_,(zad (zak (i:=3) zcF.nd rfl (Or.inl rfl) zac)
     (zad (zak (i:=4) zcF.nd rfl (Or.inl rfl) (za0 (show zaP _ (.type "list") (zdI K) from zeo) rfl T.z_list zha (zaa (pv 2) zab)))
     (zad (zh9 PassesOwn.never (PW.pt (zhP (zax zix (pv 3) zac (zaw _)) (zhf (zb3 (zaf (zig T) (hr.mono (by decide)) rfl T.g_law_within T.F_law_within.kp T.b_law_within .nil zaj (zaa (pv 4) zab)))))) (zad (zak (i:=4) zcF.nd rfl (Or.inl rfl) (zaf (zlm T) (hr.mono (by decide)) rfl T.g_law_led T.F_law_led.kp T.b_law_led .nil zaj (zaa (pv 0) (zaa (pv 1) (zaa (pv 4) zab)))))
     (zag (zak (i:=3) zcF.nd rfl (Or.inl rfl) (zal zau (pv 3) zac)))))
     (zag (zan (pv 3)))))),?_⟩
 clear hu
 try clear hgd
 try dsimp only [za8,zaQ]
 rw [show start ["_law_factor","_law_shifts","_law_places_here","_law_many","_law_some"] [x0,x1,x2] = [some x0,some x1,some x2,none,none] from rfl]
 obtain ⟨F,ss,xs,hF,hs',hx',hl,h8,bF,bs,bx,q⟩:=h
 wtm_at "gg"
 refine ziV (.inr hx') (fun l1 H1 us1 n1 S1 e1 t1=>?_)
 wtm_at "gg"
 refine znd (fun m σ' H'=>∃ (c : Nat) (v : V),σ' = [some x0,some x1,some x2,some (.int (c : Int)),some v] /\ m = 40 - c /\ c <= 40 /\ zai H H' /\ Is K H' v (LN (zfa F ss xs c)) /\ ∀ k,k < c -> zb4 (zfa F ss xs k) = true) _ ⟨0,.ref l1,rfl,rfl,by omega,S1,zcn e1 t1,fun k hk=>by omega⟩ ?_
 rintro m σ' H2 ⟨c,v,rfl,rfl,hc,S2,iv,hw⟩
 have b2:=bx c hc
 have hll:=zkl F ss xs c
 wtm_at "gg"
 . rename_i z
   refine zio iv b2 (by decide) (fun H3 S3=>?_)
   have S23:=S2.trans S3
   wtm_at "gg"
   . rename_i y
     refine zo8 ?_
     wtm_at "gg"
     refine zlT (hF.by S23) (hs'.by S23) (iv.by S3) (by omega) (by omega) bF bs b2 (by decide) (fun l H4 n4 S4 i4=>?_)
     wtm_at "gg"
     refine ⟨40 - (c + 1),by omega,c + 1,.ref l,by push_cast; rfl,rfl,by omega,S23.trans S4,i4,fun k hk=>?_⟩
     rcases Nat.lt_or_ge k c with u | u
     . exact hw k u
     . have : k = c:=by omega
       subst this
       exact y
   . rename_i y
     exact q c H3 hc hw (.inr (by first | exact y | simpa using y)) S23
 . rename_i z
   exact q c H2 hc hw (.inl (by omega)) S2
def zgF (K : PySem.W.Frag) : Sp:=fun vs H Q _=>∃ x0 x1 x2,vs = [x0,x1,x2] /\ ∃ (ra rb : Rat) (ns : List Int) (xs : List Rat) (m : Nat),Is K H x0 (R ra rb) /\ Is K H x1 (TZ ns) /\ Is K H x2 (TN xs) /\ zaK ra rb /\ zaz ns /\ ns.length = xs.length + 1 /\ Cm m xs /\ m <= 3700 /\
 (zaC ra rb ns xs 0 = false -> ∀ H',zai H H' -> Q (.int 0) H') /\ (zaC ra rb ns xs 0 = true -> za6 ra rb ns xs = true -> ∀ H',zai H H' -> Q .non H') /\
 (∀ c : Nat,1 <= c -> c <= 30 -> za6 ra rb ns xs = false -> (∀ k,k < c -> zaC ra rb ns xs k = true) -> zaC ra rb ns xs c = false -> ∀ H',zai H H' -> Q (.int (c : Int)) H') /\
 (za6 ra rb ns xs = false -> (∀ k,k <= 30 -> zaC ra rb ns xs k = true) -> ∀ l H',zai H H' -> H' l = some (.lst [.str "long"]) -> Q (.ref l) H')
theorem zdU {K : PySem.W.Frag} {H : Hp} {Q : VK} {E : XK} {ra rb : Rat} {ns : List Int} {xs : List Rat} {m : Nat} {v w u : V} (h1 : Is K H v (R ra rb)) (h2 : Is K H w (TZ ns)) (h3 : Is K H u (TN xs)) (ok : zaK ra rb) (sz : zaz ns) (hn : ns.length = xs.length + 1) (c : Cm m xs) (hm : m <= 3700) (q0 : zaC ra rb ns xs 0 = false -> ∀ H',zai H H' -> Q (.int 0) H') (q1 : zaC ra rb ns xs 0 = true -> za6 ra rb ns xs = true -> ∀ H',zai H H' -> Q .non H')
 (q2 : ∀ c : Nat,1 <= c -> c <= 30 -> za6 ra rb ns xs = false -> (∀ k,k < c -> zaC ra rb ns xs k = true) -> zaC ra rb ns xs c = false -> ∀ H',zai H H' -> Q (.int (c : Int)) H') (q3 : za6 ra rb ns xs = false -> (∀ k,k <= 30 -> zaC ra rb ns xs k = true) -> ∀ l H',zai H H' -> H' l = some (.lst [.str "long"]) -> Q (.ref l) H') : zgF K [v,w,u] H Q E:=⟨_,_,_,rfl,ra,rb,ns,xs,m,h1,h2,h3,ok,sz,hn,c,hm,q0,q1,q2,q3⟩
set_option maxHeartbeats 4000000 in
theorem zdK (T : Txt K mg a) : zbd P w K mg base CX0 12 a.law_told a.fd_law_told ["_law_rule_here","_law_sizes_here","_law_places_here"] (zgF K):=by
 refine T.F_law_told.ok zc4 (fun vs H Q E h=>by obtain ⟨_,_,_,rfl,_⟩:=h; rfl) (fun cdv A outer s H vs Q E hr h=>?_)
 obtain ⟨x0,x1,x2,rfl,h⟩:=h
 have hu:=hr.units
 refine ⟨_,(zad (zak (i:=3) zc4.nd rfl (Or.inl rfl) zdY)
     (zad (zrI (i:=4) (tb:=fun W=>zkZ (zli (zcG K a) W (zhO (zi8 0) (zhO (zi8 1) (zhO (zi8 2) znK)))) (zeH 3)) (th:=fun ex C=>zkZ (znJ K (zhO (zkW (zeP K a ex C) [] E0 (zhO (zi8 4) znK)) znK)) (zeH 3)) rfl rfl zc4.nd rfl rfl rfl T.g_GlowError (fun W pn E' hx=>by exact (zag (zak (i:=3) zc4.nd rfl (Or.inl rfl) (zoz (zhs T) (hr.mono (by decide)) rfl T.g_free_rounds T.F_free_rounds.kp T.b_free_rounds hx (zaa (pv 0) (zaa (pv 1) (zaa (pv 2) zab))))))) (fun pn ex C oe hob=>by exact (zag (zak (i:=3) zc4.nd rfl (Or.inl rfl) (za2 (zaa (znz (zkk T) ((hr.marked _).mono (by decide)) ⟨rfl,List.mem_append_right _ (List.mem_singleton.mpr rfl),hob⟩ rfl T.g_law_kind T.F_law_kind.kp T.b_law_kind (zaa (pv 4) zab)) zab))))))
     (zag (zan (pv 3))))),?_⟩
 clear hu
 try clear hgd
 try dsimp only [za8,zaQ]
 rw [show start ["_law_rule_here","_law_sizes_here","_law_places_here","_law_found","e"] [x0,x1,x2] = [some x0,some x1,some x2,none,none] from rfl]
 obtain ⟨ra,rb,ns,xs,m,hr',hn',hx',ok,sz,hn,c,hm,q0,q1,q2,q3⟩:=h
 wtm_at "gg"
 refine zrT (fun σ' C o H'=>σ' = [some x0,some x1,some x2,some .non,none] /\ C = .ref a.C_TooLong /\ zai H H' /\ ∀ l H',zai H H' -> H' l = some (.lst [.str "long"]) -> Q (.ref l) H') ?_ ?_
 . wtm_at "gg"
   refine zh4 hr' hn' hx' ok sz hn c hm (fun z H' S=>?_) (fun z y H' S=>?_) (fun c c1 c2 y z w H' S=>?_) (fun y z H' S=>⟨rfl,rfl,S,q3 y z⟩)
   . wtm_at "gg"
     exact q0 z H' S
   . wtm_at "gg"
     exact q1 z y H' S
   . wtm_at "gg"
     exact q2 c c1 c2 y z w H' S
 . rintro σ' C o H' ⟨rfl,rfl,S0,qe⟩
   refine ⟨T.m_TooLong,fun ex hex=>?_⟩
   wtm_at "gg"
   refine zkS (w:="long") ⟨rfl,rfl⟩ (fun H1 S1=>?_)
   wtm_at "ga"
   rename_i l H2 n2 S2 e2
   exact qe l H2 (S0.trans (S1.trans S2)) e2
theorem zjW {a b : Rat} {ns : List Int} {xs : List Rat} (f : zc0 a b ns xs = true) : zb4 xs = true:=by
 obtain ⟨F,one⟩:=zlB (zkK.mp f).1
 refine List.all_eq_true.mpr fun x hx=>?_
 have h0 : 0 < x:=(List.pairwise_append.mp F.pw).2.2 x hx 0 (List.mem_singleton.mpr rfl)
 have h1 : x < 1:=by
   obtain ⟨j,hj,rfl⟩:=List.getElem_of_mem hx
   have e : (xs ++ [0]).getD j 0 = xs[j]:=by
     rw [List.getD_eq_getElem?_getD,List.getElem?_append_left hj,List.getElem?_eq_getElem hj]
     rfl
   rcases Nat.eq_zero_or_pos j with z | z
   . subst z
     rw [e] at one; exact one
   . have hl:=zpR F.pw (c:=0) (d:=j) z (by simp; omega)
     rw [e] at hl
     grind
 simp [h0,h1]
theorem zl2 {a b : Rat} {ns : List Int} {xs : List Rat} (hn : ns.length = xs.length + 1) (k : Nat) : zfa (a ^ ns.sum.toNat) (zaR a b ns) xs k = zbe a b ns k xs:=by
 induction k with
 | zero=>rw [zc3]; rfl
 | succ k ih =>
   show zll _ _ (zfa _ _ xs k) = _
   rw [ih,<- zib a b ns k 1 xs]
   have hl:=zaG a b ns k xs
   refine zeE (by unfold zll zfs; rw [List.length_map,List.length_range,zaG,zaG,zaG]) fun i hi=>?_
   have hi : i < (zbe a b ns k xs).length:=by unfold zll zfs at hi; rw [List.length_map,List.length_range] at hi; exact hi
   rw [zbV hi,zhX]
   unfold zll zfs
   rw [List.getD_eq_getElem?_getD,List.getElem?_map,List.getElem?_range hi]
   rfl
theorem zfz {a b : Rat} {ns : List Int} {xs : List Rat} (ok : zaK a b) (sz : zaz ns) (hn : ns.length = xs.length + 1) (ha : ¬ a < 1) : za6 a b ns xs = true ↔ zaJ a b ns xs = xs:=by
 have hps:=sz.pos
 have hs : (zat a b ns).length = xs.length:=by rw [zbP sz.some]; omega
 unfold za6
 by_cases z1 : 1 < a
 . rw [if_pos z1]
   have hF : a ^ ns.sum.toNat ≠ 1:=fun e=>absurd ((zjr ok (by omega)).mp e) (by grind)
   rw [<- zfF hn sz.nn,zmf hF hn 1]
   have e1 : (a ^ ns.sum.toNat) ^ 1 = a ^ ns.sum.toNat:=by rw [Rat.pow_succ,Rat.pow_zero,Rat.one_mul]
   rw [e1]
   constructor
   . intro e
     have e:=of_decide_eq_true e
     rw [<- e,zj4]
   . intro e
     refine decide_eq_true (zeE hs.symm fun i hi=>?_)
     have h1:=zi1 (c:=a ^ ns.sum.toNat) hs (i:=i) (by omega)
     rw [e] at h1
     have h2 : (1 - a ^ ns.sum.toNat) * (xs.getD i 0 - (zat a b ns).getD i 0) = 0:=by grind
     rcases Rat.mul_eq_zero.mp h2 with h | h
     . exact absurd (by grind) hF
     . grind
 . rw [if_neg z1]
   have z2 : a = 1:=by
     by_cases h : a = 1
     . exact h
     . exact absurd (Rat.lt_of_le_of_ne (Rat.not_lt.mp ha) (Ne.symm h)) z1
   rw [if_pos z2,<- zfF hn sz.nn]
   have hsl : (zaR a b ns).length = xs.length:=by rw [zey (by omega)]; omega
   have hg : ∀ i,i < xs.length -> (zbe a b ns 1 xs).getD i 0 = xs.getD i 0 + (zaR a b ns).getD i 0:=fun i hi=>by
     rw [zbV hi,zhX,z2,GM.one_pow']
     grind
   constructor
   . intro st
     refine zeE (zaG ..) fun i hi=>?_
     rw [zaG] at hi
     have hz : (zaR a b ns).getD i 0 = 0:=by
       rw [List.all_eq_true] at st
       exact of_decide_eq_true (st _ (List.mem_map.mpr ⟨_,zd8 (d:=0) (by omega),rfl⟩))
     rw [hg i hi,hz]; grind
   . intro e
     refine List.all_eq_true.mpr fun y hy=>?_
     obtain ⟨t,ht,rfl⟩:=List.mem_map.mp hy
     obtain ⟨i,hi,rfl⟩:=List.getElem_of_mem ht
     have:=hg i (by omega)
     rw [e,List.getD_eq_getElem?_getD,List.getD_eq_getElem?_getD,List.getElem?_eq_getElem hi] at this
     refine decide_eq_true ?_
     have : (xs[i]?).getD 0 = (xs[i]?).getD 0 + (zaR a b ns)[i]:=this
     grind
theorem zhL {K : PySem.W.Frag} {H : Hp} {Q : VK} (s t : String) (r : Bool) (e : PyData.eqv (.str (PySem.Str.ofString s)) (.str (PySem.Str.ofString t)) = r) (q : Q (.bl (!r)) H) : zfu K (.str (PySem.Str.ofString s)) (.str (PySem.Str.ofString t)) H Q :=
 zjM (d:=.str (PySem.Str.ofString s)) (e:=.str (PySem.Str.ofString t)) (zb1.mpr rfl) (zb1.mpr rfl) (zeh s) (zeh t) (by rw [e]; exact q)
theorem zhR (x : Rat) : (x < 1 /\ zcI x = PySem.Str.ofString "falling") \/ (¬ x < 1 /\ (zcI x = PySem.Str.ofString "rising" \/ zcI x = PySem.Str.ofString "even")):=by
 unfold zcI
 by_cases z1 : 1 < x
 . rw [if_pos z1]; exact .inr ⟨by grind,.inl rfl⟩
 . rw [if_neg z1]
   by_cases z2 : x = 1
   . rw [if_pos z2]; exact .inr ⟨by grind,.inr rfl⟩
   . rw [if_neg z2]
     refine .inl ⟨?_,rfl⟩
     by_cases h : x < 1
     . exact h
     . exact absurd (Rat.lt_of_le_of_ne (Rat.not_lt.mp h) (Ne.symm z2)) z1
theorem zhi {K : PySem.W.Frag} {H : Hp} {Q : VK} {x : Rat} (q : Q (.bl (!decide (x < 1))) H) : zfu K (.str (zcI x)) (.str (PySem.Str.ofString "falling")) H Q:=by
 rcases zhR x with ⟨z,e⟩ | ⟨z,e | e⟩
 . rw [e]; rw [decide_eq_true z] at q; exact zhL _ _ true (by rw [PyData.eqv]; decide) q
 . rw [e]; rw [decide_eq_false z] at q; exact zhL _ _ false (by rw [PyData.eqv]; decide) q
 . rw [e]; rw [decide_eq_false z] at q; exact zhL _ _ false (by rw [PyData.eqv]; decide) q
theorem zkN {K : PySem.W.Frag} {H : Hp} {Q : VK} {x : Rat} (q : Q (.bl (decide (x < 1))) H) : zcL K (.str (zcI x)) (.str (PySem.Str.ofString "falling")) H Q:=by
 rcases zhR x with ⟨z,e⟩ | ⟨z,e | e⟩
 . rw [e]; rw [decide_eq_true z] at q; exact zca _ _ true (by rw [PyData.eqv]; decide) q
 . rw [e]; rw [decide_eq_false z] at q; exact zca _ _ false (by rw [PyData.eqv]; decide) q
 . rw [e]; rw [decide_eq_false z] at q; exact zca _ _ false (by rw [PyData.eqv]; decide) q
def zoK (a b : Rat) (ns : List Int) (xs : List Rat) (v : V) (H : Hp) : Prop:=(v = .int 0 /\ zaC a b ns xs 0 = false) \/ (v = .non /\ zaC a b ns xs 0 = true /\ za6 a b ns xs = true) \/
 (∃ c : Nat,v = .int (c : Int) /\ 1 <= c /\ c <= 30 /\ za6 a b ns xs = false /\ (∀ k,k < c -> zaC a b ns xs k = true) /\ zaC a b ns xs c = false) \/ (∃ l,v = .ref l /\ H l = some (.lst [.str "long"]) /\ za6 a b ns xs = false /\ ∀ k,k <= 30 -> zaC a b ns xs k = true)
theorem zk9 {a b : Rat} {ns : List Int} {xs : List Rat} : zaC a b ns xs 0 = zc0 a b ns xs:=by unfold zaC; rw [zc3]
theorem zej {a b : Rat} {ns : List Int} {xs : List Rat} (hn : ns.length = xs.length + 1) {c d : Nat} (hd : d <= 40) (hc : c <= 40) (f : ∀ k,k < d -> zaC a b ns xs k = true) (e : c = 40 \/ zb4 (zfa (a ^ ns.sum.toNat) (zaR a b ns) xs c) = false) : d <= c:=by
 rcases e with e | e
 . omega
 . rcases Nat.lt_or_ge c d with z | z
   . have:=zjW (f c z)
     rw [zl2 hn] at e
     rw [e] at this; cases this
   . exact z
def zfP (K : PySem.W.Frag) : Sp:=fun vs H Q _=>∃ x0 x1 x2,vs = [x0,x1,x2] /\ ∃ (ra rb : Rat) (ns : List Int) (xs : List Rat) (m : Nat),Is K H x0 (R ra rb) /\ Is K H x1 (TZ ns) /\ Is K H x2 (TN xs) /\ zaK ra rb /\ zaz ns /\ ns.length = xs.length + 1 /\ (∀ i,Bdr 330 (xs.getD i 0)) /\ Cm m xs /\ m <= 2700 /\ ∀ H',zai H H' -> Q (.bl true) H'
theorem zfX {K : PySem.W.Frag} {H : Hp} {Q : VK} {E : XK} {ra rb : Rat} {ns : List Int} {xs : List Rat} {m : Nat} {v w u : V} (h1 : Is K H v (R ra rb)) (h2 : Is K H w (TZ ns)) (h3 : Is K H u (TN xs)) (ok : zaK ra rb) (sz : zaz ns) (hn : ns.length = xs.length + 1) (bx : ∀ i,Bdr 330 (xs.getD i 0)) (c : Cm m xs) (hm : m <= 2700) (q : ∀ H',zai H H' -> Q (.bl true) H') : zfP K [v,w,u] H Q E:=⟨_,_,_,rfl,ra,rb,ns,xs,m,h1,h2,h3,ok,sz,hn,bx,c,hm,q⟩
set_option maxHeartbeats 4000000 in
theorem zjv (T : Txt K mg a) : zbd P w K mg base CX0 13 a.law_right a.fd_law_right ["_law_rule_here","_law_sizes_here","_law_places_here"] (zfP K):=by
 refine T.F_law_right.ok zbU (fun vs H Q E h=>by obtain ⟨_,_,_,rfl,_⟩:=h; rfl) (fun cdv A outer s H vs Q E hr h=>?_)
 obtain ⟨x0,x1,x2,rfl,h⟩:=h
 have hu:=hr.units
 refine ⟨_,(zad (zak (i:=3) zbU.nd rfl (Or.inl rfl) (zaf (zdK T) (hr.mono (by decide)) rfl T.g_law_told T.F_law_told.kp T.b_law_told .nil zaj (zaa (pv 0) (zaa (pv 1) (zaa (pv 2) zab)))))
     (zad (zfy (zaf (zci T) (hr.mono (by decide)) rfl T.g_round_map T.F_round_map.kp T.b_round_map .nil zaj (zaa (pv 0) (zaa (pv 1) zab))) (zeS (n:=2) rfl (za7 (zaA (i:=4) zbU.nd rfl (Or.inl rfl)) (za7 (zaA (i:=5) zbU.nd rfl (Or.inl rfl)) zdm))))
     (zad (zak (i:=6) zbU.nd rfl (Or.inl rfl) (zaf (zfA T) (hr.mono (by decide)) rfl T.g_is_free T.F_is_free.kp T.b_is_free .nil zaj (zaa (pv 0) (zaa (pv 1) (zaa (pv 2) zab)))))
     (zad (zak (i:=7) zbU.nd rfl (Or.inl rfl) (zcH (show OpR _ (compareOp .Eq) (zcL K) from zbC hu) (za0 (show zaP _ (.type "tuple") (zbl K) from za3) rfl T.z_tuple zbY (zaa (zc5 zgq (zam zah (zam zah (zaf (zfL T) (hr.mono (by decide)) rfl T.g_law_round T.F_law_round.kp T.b_law_round .nil zaj (zaa (pv 0) (zaa (pv 1) (zaa (pv 2) zab)))) zac (fun _ _=>rfl)) (zfq zdV zac) (fun _ _=>rfl)) zdL (zdS (zfq zdV zac))) zab)) (pv 2) (zaw _)))
     (zad (za4 (zdz (zb3 (pv 6))) (zag (zan (zcH (show OpR _ (compareOp .Eq) (zcL K) from zbC hu) (pv 3) zac (zaw _)))) zaF)
     (zad (za4 (PW.pt (zhP (zax (show OpR _ (compareOp .NotEq) (zfu K) from zfK hu) (zaf (zg5 T) (hr.mono (by decide)) rfl T.g_bend T.F_bend.kp T.b_bend .nil zaj (zaa (pv 0) zab)) zbD (zaw _)) (zhf (zax (show OpR _ (compareOp .NotEq) (zfu K) from zfK hu) (zcH zjU (pv 3) zdY (zaw _)) (pv 7) (zaw _))))) (zag (zan zeQ)) zaF)
     (zad (za4 (zax zjU (pv 3) zdY (zaw _)) (zag (zan (zsz (zcH (show OpR _ (compareOp .Eq) (zcL K) from zbC hu) (zaf (zg5 T) (hr.mono (by decide)) rfl T.g_bend T.F_bend.kp T.b_bend .nil zaj (zaa (pv 0) zab)) zbD (zaw _)) (znM (pv 7))))) zaF)
     (zad (zak (i:=8) zbU.nd rfl (Or.inl rfl) (zaf (zji T) (hr.mono (by decide)) rfl T.g_law_count T.F_law_count.kp T.b_law_count .nil zaj (zaa (pv 4) (zaa (pv 5) (zaa (pv 2) zab)))))
     (zad (za4 (zax (show OpR _ (compareOp .Eq) (zcL K) from zbC hu) (pv 3) (za2 (zaa zbD zab)) (zaw _)) (zag (zan (zcH zhv (pv 8) zac (zaw _)))) zaF)
     (zag (zan (zoh (zaE (show zaP _ (.builtin "isinstance") (zgM K) from ziT) rfl T.z_isinstance zaW (zaa (pv 3) (zaa (zjf (v:=.ty "int") rfl T.z_int zoj rfl) zab))) (zoh (zoc (zaE (show zaP _ (.builtin "isinstance") (zgM K) from ziT) rfl T.z_isinstance zaW (zaa (pv 3) (zaa (zjf (v:=.ty "bool") rfl T.z_bool zqv rfl) zab)))) (znM (zoM zoH zoH zac (pv 3) (pv 8)))))))))))))))),?_⟩
 clear hu
 try clear hgd
 try dsimp only [za8,zaQ]
 rw [show start ["_law_rule_here","_law_sizes_here","_law_places_here","_law_found","_law_factor","_law_shifts","_law_first","_law_back","_law_most"] [x0,x1,x2] = [some x0,some x1,some x2,none,none,none,none,none,none] from rfl]
 obtain ⟨ra,rb,ns,xs,m,hr',hn',hx',ok,sz,hn,bx,c,hm,q⟩:=h
 have h8:=sz.few
 have h1:=sz.some
 have hps:=sz.pos
 have hsum:=sz.sum
 have zr:=zbA ok sz
 have rok : za1 ra rb ns xs:=⟨ok.ba,ok.bb,fun n hn=>by have:=sz.each n hn; omega,hn,by omega,⟨m,c,by have:=sz.upTo; omega⟩⟩
 have bF : Bdr 49 (ra ^ ns.sum.toNat):=(zgb ok _).mono (by omega)
 have hsl : (zaR ra rb ns).length = xs.length:=by rw [zey h1]; omega
 have bK : ∀ k,k <= 40 -> ∀ i,Bdr 8000 ((zfa (ra ^ ns.sum.toNat) (zaR ra rb ns) xs k).getD i 0):=fun k hk i=>by
   rw [zl2 hn]
   rcases Nat.lt_or_ge i xs.length with z | z
   . rw [zbV z]
     have h2 : 49 * k <= 49 * 40:=Nat.mul_le_mul_left _ hk
     have h3 : (49 + 1) * k <= 50 * 40:=Nat.mul_le_mul_left _ hk
     exact (zoA bF (zbW ok sz i) (bx i) k).mono (by omega)
   . rw [List.getD_eq_getElem?_getD,List.getElem?_eq_none (by rw [zaG]; exact z)]
     exact Bdr.zero.mono (by decide)
 wtm_at "gg"
 have main : ∀ (vf : V) (H1 : Hp),zai H H1 -> zoK ra rb ns xs vf H1 -> tl_ { nx:=fun x H'=>Q V.non H',rt:=Q } [some x0,some x1,some x2,some vf,none,none,none,none,none] H1:=by
   intro vf H1 S1 tv
   wtm_at "gg"
   refine zcd (hr'.by S1) (hn'.by S1) zr (by omega) (by omega) (fun v2 H2 S2 i2=>?_)
   wtm_at "gg"
   refine zhT i2 rfl (fun ys t=>?_)
   obtain ⟨vF,r1,rfl,iF,t⟩:=zaB.mp t
   obtain ⟨vs,r2,rfl,is,t⟩:=zaB.mp t
   rw [zbh.mp t]
   have is : Is K H2 vs (TN (zaR ra rb ns)):=is
   have T2:=S1.trans S2
   wtm_at "gg"
   refine zfD (hr'.by T2) (hn'.by T2) (hx'.by T2) rok (fun H3 S3=>?_)
   have T3:=T2.trans S3
   wtm_at "gg"
   refine zfM (hr'.by T3) (hn'.by T3) (hx'.by T3) ok.ba ok.bb sz hn bx (fun v4 H4 S4 i4=>?_)
   wtm_at "gg"
   refine zcl (j:=1) i4 rfl (fun v5 i5=>?_)
   wtm_at "gg"
   refine zgu i5 (by rw [zco]; omega) (fun v6 i6=>?_)
   rw [zco,zdW (by omega),show ns.length - 1 + 1 = ns.length by omega,zhu _ _ _ _ (by simp; omega)] at i6
   wtm_at "gg"
   refine zhb i6 (fun l7 H7 ys7 n7 S7 e7 t7=>?_)
   rw [zf8,<- List.map_dropLast] at t7
   wtm_at "gg"
   refine zbu (zcn e7 t7) (fun v8 H8 S8 i8=>?_)
   have i8 : Is K H8 v8 (TN (zaJ ra rb ns xs)):=i8
   have S38:=S4.trans (S7.trans S8)
   have T8:=T3.trans S38
   wtm_at "gg"
   refine zmw i8 (hx'.by T8) ?_
   have iF8:=iF.by (S3.trans S38)
   have is8:=is.by (S3.trans S38)
   have hx8:=hx'.by T8
   have hr8:=hr'.by T8
   have S18:=S2.trans (S3.trans S38)
   have tv : zoK ra rb ns xs vf H8:=by
     rcases tv with h | h | h | ⟨l,h2,h3,h4⟩
     . exact .inl h
     . exact .inr (.inl h)
     . exact .inr (.inr (.inl h))
     . exact .inr (.inr (.inr ⟨l,h2,S18 _ _ h3,h4⟩))
   clear iF is i2 i4 i5 i6 i8 e7 t7 S2 S3 S4 S7 S8 S38 T2 T3
   rw [<- zk9]
   rcases tv with ⟨rfl,f⟩ | ⟨rfl,f,st⟩ | ⟨cc,rfl,c1,c2,st,fk,fc⟩ | ⟨l,rfl,el,st,fk⟩
   . rw [f]
     wtm_at "gg"
     rw [decide_eq_true rfl]
     exact q _ T8
   . rw [f]
     wtm_at "gg"
     refine zdG hr8 (ok.ba.mono (by decide)) ?_
     wtm_at "gg"
     refine zhi ?_
     by_cases z : ra < 1
     . rw [decide_eq_true z]
       wtm_at "gg"
       refine zdG hr8 (ok.ba.mono (by decide)) ?_
       wtm_at "gg"
       refine zkN ?_
       rw [decide_eq_true z]
       wtm_at "gg"
       exact q _ T8
     . have hb:=(zfz ok sz hn z).mp st
       rw [decide_eq_false z,decide_eq_true hb]
       wtm_at "gg"
       rw [decide_eq_true rfl]
       refine zlu ?_
       rw [show (!(true == true)) = false from rfl]
       wtm_at "gg"
       refine zdG hr8 (ok.ba.mono (by decide)) ?_
       wtm_at "gg"
       refine zkN ?_
       rw [decide_eq_false z]
       wtm_at "gg"
       exact q _ T8
   . rw [fk 0 (by omega)]
     wtm_at "gg"
     refine zdG hr8 (ok.ba.mono (by decide)) ?_
     wtm_at "gg"
     refine zhi ?_
     by_cases z : ra < 1
     . rw [decide_eq_true z]
       wtm_at "gg"
       . rename_i y; cases y
       . refine zdn iF8 is8 hx8 hsl (by omega) bF (fun i=>(zbW ok sz i).mono (by decide)) bK (fun d H9 d40 dw de S9=>?_)
         have hcd:=zej hn (d:=cc) (by omega) d40 fk de
         wtm_at "gg"
         refine zcm (by simp) (fun l10 H10 n10 S10 e10=>?_)
         refine zfG (d:=.int (cc : Int)) (e:=.list [.str (PySem.Str.ofString "long")]) (za5.mpr rfl) (zbp.mpr ⟨l10,_,rfl,.of e10,.cons (zb1.mpr rfl) .nil⟩) rfl (by decide +kernel) ?_
         rw [show PyData.eqv (.int (cc : Int)) (.list [.str (PySem.Str.ofString "long")]) = false by rw [PyData.eqv]]
         wtm_at "gg"
         . rw [decide_eq_true (by omega)]
           exact q _ (T8.trans (S9.trans S10))
         . rename_i y; exact absurd (by omega) y
     . have hb : ¬ zaJ ra rb ns xs = xs:=fun e=>by rw [(zfz ok sz hn z).mpr e] at st; cases st
       rw [decide_eq_false z,decide_eq_false hb]
       wtm_at "gg"
       rw [decide_eq_false (by simp)]
       refine zlu ?_
       rw [show (!(false == false)) = false from rfl]
       wtm_at "gg"
       . rename_i y; cases y
       . refine zdn iF8 is8 hx8 hsl (by omega) bF (fun i=>(zbW ok sz i).mono (by decide)) bK (fun d H9 d40 dw de S9=>?_)
         have hcd:=zej hn (d:=cc) (by omega) d40 fk de
         wtm_at "gg"
         refine zcm (by simp) (fun l10 H10 n10 S10 e10=>?_)
         refine zfG (d:=.int (cc : Int)) (e:=.list [.str (PySem.Str.ofString "long")]) (za5.mpr rfl) (zbp.mpr ⟨l10,_,rfl,.of e10,.cons (zb1.mpr rfl) .nil⟩) rfl (by decide +kernel) ?_
         rw [show PyData.eqv (.int (cc : Int)) (.list [.str (PySem.Str.ofString "long")]) = false by rw [PyData.eqv]]
         wtm_at "gg"
         . rw [decide_eq_true (by omega)]
           exact q _ (T8.trans (S9.trans S10))
         . rename_i y; exact absurd (by omega) y
   . rw [fk 0 (by omega)]
     wtm_at "gg"
     refine zdG hr8 (ok.ba.mono (by decide)) ?_
     wtm_at "gg"
     refine zhi ?_
     by_cases z : ra < 1
     . rw [decide_eq_true z]
       wtm_at "gg"
       . rename_i y; cases y
       . refine zdn iF8 is8 hx8 hsl (by omega) bF (fun i=>(zbW ok sz i).mono (by decide)) bK (fun d H9 d40 dw de S9=>?_)
         have hcd:=zej hn (d:=31) (by omega) d40 (fun k hk=>fk k (by omega)) de
         wtm_at "gg"
         refine zcm (by simp) (fun l10 H10 n10 S10 e10=>?_)
         refine zfG (d:=.list [.str (PySem.Str.ofString "long")]) (e:=.list [.str (PySem.Str.ofString "long")]) (zbp.mpr ⟨l,_,rfl,.of (S10 _ _ (S9 _ _ el)),.cons (zb1.mpr rfl) .nil⟩) (zbp.mpr ⟨l10,_,rfl,.of e10,.cons (zb1.mpr rfl) .nil⟩) (by decide +kernel) (by decide +kernel) ?_
         rw [show PyData.eqv (.list [.str (PySem.Str.ofString "long")]) (.list [.str (PySem.Str.ofString "long")]) = true by decide +kernel]
         wtm_at "gg"
         rw [decide_eq_true (by omega)]
         exact q _ (T8.trans (S9.trans S10))
     . have hb : ¬ zaJ ra rb ns xs = xs:=fun e=>by rw [(zfz ok sz hn z).mpr e] at st; cases st
       rw [decide_eq_false z,decide_eq_false hb]
       wtm_at "gg"
       rw [decide_eq_false (by simp)]
       refine zlu ?_
       rw [show (!(false == false)) = false from rfl]
       wtm_at "gg"
       . rename_i y; cases y
       . refine zdn iF8 is8 hx8 hsl (by omega) bF (fun i=>(zbW ok sz i).mono (by decide)) bK (fun d H9 d40 dw de S9=>?_)
         have hcd:=zej hn (d:=31) (by omega) d40 (fun k hk=>fk k (by omega)) de
         wtm_at "gg"
         refine zcm (by simp) (fun l10 H10 n10 S10 e10=>?_)
         refine zfG (d:=.list [.str (PySem.Str.ofString "long")]) (e:=.list [.str (PySem.Str.ofString "long")]) (zbp.mpr ⟨l,_,rfl,.of (S10 _ _ (S9 _ _ el)),.cons (zb1.mpr rfl) .nil⟩) (zbp.mpr ⟨l10,_,rfl,.of e10,.cons (zb1.mpr rfl) .nil⟩) (by decide +kernel) (by decide +kernel) ?_
         rw [show PyData.eqv (.list [.str (PySem.Str.ofString "long")]) (.list [.str (PySem.Str.ofString "long")]) = true by decide +kernel]
         wtm_at "gg"
         rw [decide_eq_true (by omega)]
         exact q _ (T8.trans (S9.trans S10))
 refine zdU hr' hn' hx' ok sz hn c (by omega) (fun z H1 S1=>?_) (fun z y H1 S1=>?_) (fun c c1 c2 y z w H1 S1=>?_) (fun y z l H1 S1 e1=>?_)
 . exact main _ H1 S1 (.inl ⟨rfl,z⟩)
 . exact main _ H1 S1 (.inr (.inl ⟨rfl,z,y⟩))
 . exact main _ H1 S1 (.inr (.inr (.inl ⟨c,rfl,c1,c2,y,z,w⟩)))
 . exact main _ H1 S1 (.inr (.inr (.inr ⟨l,rfl,e1,y,z⟩)))
def zdd (K : PySem.W.Frag) : Sp:=fun vs H Q _=>∃ x0 x1 x2,vs = [x0,x1,x2] /\ ∃ (p : Addr) (k : Int) (ra rb : Rat) (ns : List Int),x0 = .ref p /\ Pen H p k /\ k <= 900 /\ Is K H x1 (R ra rb) /\ Is K H x2 (TZ ns) /\ zaK ra rb /\ zaz ns /\ 2 <= ns.length /\ ∀ v H' (xs : List Rat),Exc p H H' -> zaY H H' -> Is K H' v (TN xs) -> ns.length = xs.length + 1 -> (∀ i,Bdr 330 (xs.getD i 0)) -> Q v H'
theorem zdf {K : PySem.W.Frag} {H : Hp} {Q : VK} {E : XK} {p : Addr} {k : Int} {ra rb : Rat} {ns : List Int} {v w : V} (hp : Pen H p k) (hk : k <= 900) (h1 : Is K H v (R ra rb)) (h2 : Is K H w (TZ ns)) (ok : zaK ra rb) (sz : zaz ns) (n2 : 2 <= ns.length) (q : ∀ v H' (xs : List Rat),Exc p H H' -> zaY H H' -> Is K H' v (TN xs) -> ns.length = xs.length + 1 -> (∀ i,Bdr 330 (xs.getD i 0)) -> Q v H') : zdd K [.ref p,v,w] H Q E:=⟨_,_,_,rfl,p,k,ra,rb,ns,rfl,hp,hk,h1,h2,ok,sz,n2,q⟩
theorem zh5 {K : PySem.W.Frag} {H : Hp} {us : List V} {xs : List Rat} {k : Nat} {u : V} {x : Rat} (h : IsAll K H us (xs.map N)) (i : Is K H u (N x)) : IsAll K H (us.set k u) ((xs.set k x).map N):=by
 have hl:=h.length
 rw [List.length_map] at hl
 refine zc6 (by rw [List.length_set,List.length_set]; exact hl) fun j v hv=>?_
 rw [List.getElem?_set] at hv
 by_cases e : k = j
 . subst e
   rw [if_pos rfl] at hv
   by_cases z : k < us.length
   . rw [if_pos z] at hv
     cases hv
     rw [zeR (by omega)]; exact i
   . rw [if_neg z] at hv; cases hv
 . rw [if_neg e] at hv
   rw [zkD e]
   exact (zdc h hv).2
theorem zmn {m : Nat} {xs : List Rat} {x : Rat} {k : Nat} (h : ∀ i,Bdr m (xs.getD i 0)) (hx : Bdr m x) : ∀ i,Bdr m ((xs.set k x).getD i 0):=fun i=>by
 rw [List.getD_eq_getElem?_getD,List.getElem?_set]
 by_cases e : k = i
 . rw [if_pos e]
   by_cases z : k < xs.length
   . rw [if_pos z]; exact hx
   . rw [if_neg z]
     have:=h xs.length
     rw [List.getD_eq_getElem?_getD,List.getElem?_eq_none (Nat.le_refl _)] at this
     exact this
 . rw [if_neg e,<- List.getD_eq_getElem?_getD]; exact h i
set_option maxHeartbeats 4000000 in
theorem zfb (T : Txt K mg a) : zbd P w K mg base CX0 9 a.law_drawn_places a.fd_law_drawn_places ["_law_pen_here","_law_rule_here","_law_sizes_here"] (zdd K):=by
 refine T.F_law_drawn_places.ok zbn (fun vs H Q E h=>by obtain ⟨_,_,_,rfl,_⟩:=h; rfl) (fun cdv A outer s H vs Q E hr h=>?_)
 obtain ⟨x0,x1,x2,rfl,h⟩:=h
 have hu:=hr.units
 refine ⟨_,(zad (zak (i:=3) zbn.nd rfl (Or.inl rfl) (zaf (zar T) (hr.mono (by decide)) rfl T.g_law_draw T.F_law_draw.kp T.b_law_draw .nil zaj (zaa (pv 0) (zaa zac zab))))
     (zad (zak (i:=4) zbn.nd rfl (Or.inl rfl) (zaf (zeD T) (hr.mono (by decide)) rfl T.g_still T.F_still.kp T.b_still .nil zaj (zaa (pv 1) (zaa (pv 2) zab))))
     (zad (za4 (PW.pt (zkM (zax zhv (pv 3) zac (zaw _)) (zjD (zax zjU (pv 4) zdY (zaw _))))) (zag (zan (zaf (zif T) (hr.mono (by decide)) rfl T.g_law_places T.F_law_places.kp T.b_law_places .nil zaj (zaa (pv 0) (zaa (zal zck (zaE (show zaP _ (.builtin "len") (zgt K) from zcA) rfl T.z_len zeG (zaa (pv 2) zab)) zac) zab))))) zaF)
     (zad (zak (i:=5) zbn.nd rfl (Or.inl rfl) (za0 (show zaP _ (.type "list") (zdI K) from zeo) rfl T.z_list zha (zaa (pv 4) zab)))
     (zad (za4 (zax (show OpR _ (compareOp .Eq) (zcL K) from zbC hu) (pv 3) zac (zaw _)) (zad (zak (i:=6) zbn.nd rfl (Or.inl rfl) (zaf (zar T) (hr.mono (by decide)) rfl T.g_law_draw T.F_law_draw.kp T.b_law_draw .nil zaj (zaa (pv 0) (zaa (zaE (show zaP _ (.builtin "len") (zgt K) from zcA) rfl T.z_len zeG (zaa (pv 5) zab)) zab))))
     (zad (zfy (zaf (zcB T) (hr.mono (by decide)) rfl T.g_law_plus T.F_law_plus.kp T.b_law_plus .nil zaj (zaa (zam zah (pv 5) (pv 6) (fun _ _=>rfl)) (zaa (zay (zaa (zal zck (zaf (zar T) (hr.mono (by decide)) rfl T.g_law_draw T.F_law_draw.kp T.b_law_draw .nil zaj (zaa (pv 0) (zaa zac zab))) zac) (zaa (zal zau zac (zaf (zar T) (hr.mono (by decide)) rfl T.g_law_draw T.F_law_draw.kp T.b_law_draw .nil zaj (zaa (pv 0) (zaa (zg6 (v:=1000000000) ⟨by decide,by decide,by decide⟩ (by decide +kernel)) zab)))) zab))) zab))) (zhj (pv 5) (pv 6) zeF))
     (zag (zfy (zaf (zaL T) (hr.mono (by decide)) rfl T.g_law_low T.F_law_low.kp T.b_law_low .nil zaj (zaa (zam zah (zam zah (pv 5) (pv 6) (fun _ _=>rfl)) zac (fun _ _=>rfl)) (zaa (zam zah (zam zah (pv 5) (pv 6) (fun _ _=>rfl)) zac (fun _ _=>rfl)) zab))) (zhj (pv 5) (pv 6) zeF))))) zaF)
     (zag (zan (za0 (show zaP _ (.type "tuple") (zbl K) from za3) rfl T.z_tuple zbY (zaa (pv 5) zab))))))))),?_⟩
 clear hu
 try clear hgd
 try dsimp only [za8,zaQ]
 rw [show start ["_law_pen_here","_law_rule_here","_law_sizes_here","_law_way","_law_goal","_law_some","_law_at"] [x0,x1,x2] = [some x0,some x1,some x2,none,none,none,none] from rfl]
 obtain ⟨p,k,ra,rb,ns,rfl,hp,hk,hr',hn',ok,sz,n2,q⟩:=h
 have h8:=sz.few
 have h1:=sz.some
 have hps:=sz.pos
 have hsum:=sz.sum
 wtm_at "gg"
 rename_i wy H1 w0 w1 E1 K1 P1
 have ir1:=hr'.thruR K1
 have iz1 : Is K H1 x2 (TZ ns):=hn'.thruI K1
 refine zeK ir1 iz1 (zbA ok sz) (by omega) hsum (fun hF H2 S2=>?_) (fun hF v2 H2 S2 i2=>?_)
 . wtm_at "gg"
   . rename_i z
     refine zd6 (iz1.by S2) ?_
     wtm_at "gg"
     refine zdX (P1.same S2) (by omega) (by omega) (by omega) (fun v3 H3 xs E3 K3 P3 i3 hl3 c3=>?_)
     exact q v3 H3 xs (E1.trans (S2.exc.trans E3)) (K1.trans (S2.keep.trans K3)) i3 (by omega) (fun i=>(c3.get i).mono (by decide))
   . rename_i z
     refine zd6 (iz1.by S2) ?_
     wtm_at "gg"
     refine zdX (P1.same S2) (by omega) (by omega) (by omega) (fun v3 H3 xs E3 K3 P3 i3 hl3 c3=>?_)
     exact q v3 H3 xs (E1.trans (S2.exc.trans E3)) (K1.trans (S2.keep.trans K3)) i3 (by omega) (fun i=>(c3.get i).mono (by decide))
 . wtm_at "gg"
   . rename_i z
     refine zd6 (iz1.by S2) ?_
     wtm_at "gg"
     refine zdX (P1.same S2) (by omega) (by omega) (by omega) (fun v3 H3 xs E3 K3 P3 i3 hl3 c3=>?_)
     exact q v3 H3 xs (E1.trans (S2.exc.trans E3)) (K1.trans (S2.keep.trans K3)) i3 (by omega) (fun i=>(c3.get i).mono (by decide))
   . rename_i z y
     obtain ⟨_,_,e,_⟩:=zaT.mp (show Is K H2 v2 (.tuple _) from i2)
     rw [e] at y; cases y
   . refine ziV (.inr i2) (fun l3 H3 us3 n3 S3 e3 t3=>?_)
     have hsl : (zat ra rb ns).length = ns.length - 1:=zbP h1
     have bs : ∀ i,Bdr 290 ((zat ra rb ns).getD i 0):=fun i=>by
       rcases Nat.lt_or_ge i (ns.length - 1) with z | z
       . rw [zc7 (by omega)]
         have bF : Bdr 49 (ra ^ ns.sum.toNat):=(zgb ok _).mono (by omega)
         exact ((zbW ok sz i).div (Bdr.one.sub bF) (fun e=>hF (by grind))).mono (by omega)
       . rw [List.getD_eq_getElem?_getD,List.getElem?_eq_none (by omega)]
         exact Bdr.zero.mono (by decide)
     have hul:=t3.length
     rw [List.length_map,hsl] at hul
     have P3:=(P1.same S2).same S3
     wtm_at "gg"
     . rename_i z
       refine zf4 (.of e3) ?_
       rw [hul]
       wtm_at "gg"
       rename_i at' H4 a0 a1 E4 K4 P4
       have ne3 : l3 ≠ p:=Pen.ne n3 (P1.same S2)
       have e4:=E4.at ne3 e3
       have t4 : IsAll K H4 us3 ((zat ra rb ns).map N):=IsAll.keep K4 _ _ (zbM _) t3
       refine zf0 (zcn e4 t4) a0 (by omega) (fun v5 i5=>?_)
       wtm_at "gg"
       rename_i d1 H5 d10 d11 E5 K5 P5 d2 H6 d20 d21 E6 K6 P6
       have e6:=E6.at ne3 (E5.at ne3 e4)
       have t6 : IsAll K H6 us3 ((zat ra rb ns).map N):=IsAll.keep (K5.trans K6) _ _ (zbM _) t4
       have p31 : (2 : Nat) ^ 31 = 2147483648:=by decide
       obtain ⟨j,rfl⟩ : ∃ j : Nat,at' = (j : Int):=⟨at'.toNat,by omega⟩
       rw [Int.toNat_natCast] at i5
       have c1 : Bd 31 (d1 - 1):=⟨by omega⟩
       have c2 : Bd 31 (2 + d2):=⟨by omega⟩
       refine zcp (ds:=[.int (d1 - 1),.int (2 + d2)]) (by simp) (.cons (za5.mpr rfl) (.cons (za5.mpr rfl) .nil)) (fun v7 H7 S7 i7=>?_)
       wtm_at "gg"
       refine zep ((i5.byN (K5.trans K6)).by S7) i7 (by omega) (bs _) c1 c2 (by decide) (fun v8 H8 S8 i8=>?_)
       have bx8 : Bdr 330 ((zat ra rb ns).getD j 0 + Rat.divInt (d1 - 1) (2 + d2)):=((bs j).add (Bdr.divInt (by omega) c1 c2)).mono (by decide)
       generalize (zat ra rb ns).getD j 0 + Rat.divInt (d1 - 1) (2 + d2) = x8 at *
       have e8:=(S7.trans S8) _ _ e6
       have hlt : l3 ≠ p:=ne3
       have hf3 : H l3 = none:=by
         cases e : H l3 with
         | none=>rfl
         | some o=>rw [S2 _ _ (E1 l3 o hlt e)] at n3; cases n3
       wtm_at "gg"
       refine zg9 (j:=j) e8 (by unfold ixN; rw [if_pos (by omega),if_pos (by omega)]; simp) (fun H9 E9 e9=>?_)
       have K9:=E9.keep e8
       have t9 : IsAll K H9 (us3.set j v8) (((zat ra rb ns).set j x8).map N):=zh5 (IsAll.keep ((S7.trans S8).keep.trans K9) _ _ (zbM _) t6) (i8.byN K9)
       have b8:=bx8.t
       have b9:=bx8.b
       wtm_at "gg"
       refine zf0 (zcn e9 t9) (by omega) (by rw [List.length_set]; omega) (fun v10 i10=>?_)
       rw [Int.toNat_natCast,zeR (by omega)] at i10
       wtm_at "gg"
       refine zf0 (zcn e9 t9) (by omega) (by rw [List.length_set]; omega) (fun v11 i11=>?_)
       rw [Int.toNat_natCast,zeR (by omega)] at i11
       wtm_at "gg"
       refine zbR (zby _) (b9.mono (by decide)) (fun v12 H12 S12 i12=>?_)
       rw [Rat.num_divInt_den] at i12
       have e12:=S12 _ _ e9
       wtm_at "gg"
       refine zg9 (j:=j) e12 (by unfold ixN; rw [List.length_set,if_pos (by omega),if_pos (by omega)]; simp) (fun H13 E13 e13=>?_)
       have K13:=E13.keep e12
       have t13 : IsAll K H13 ((us3.set j v8).set j v12) ((((zat ra rb ns).set j x8).set j x8).map N):=zh5 (IsAll.keep (S12.keep.trans K13) _ _ (zbM _) t9) (i12.byN K13)
       wtm_at "gg"
       refine zbu (zcn e13 t13) (fun v14 H14 S14 i14=>?_)
       refine q v14 H14 _ (fun b o hb h=>S14 _ _ (E13 b o (zba h hf3) (S12 _ _ (E9 b o (zba h hf3) (S8 _ _ (S7 _ _ (E6 b o hb (E5 b o hb (E4 b o hb (S3 _ _ (S2 _ _ (E1 b o hb h)))))))))))) (K1.trans (S2.keep.trans (S3.keep.trans (K4.trans (K5.trans (K6.trans (S7.keep.trans (S8.keep.trans (K9.trans (S12.keep.trans (K13.trans S14.keep))))))))))) i14 (by rw [List.length_set,List.length_set]; omega) (zmn (zmn (fun i=>(bs i).mono (by decide)) bx8) bx8)
     . rename_i z
       refine zbu (zcn e3 t3) (fun v4 H4 S4 i4=>?_)
       exact q v4 H4 _ (E1.trans (S2.exc.trans (S3.exc.trans S4.exc))) (K1.trans (S2.keep.trans (S3.keep.trans S4.keep))) i4 (by omega) (fun i=>(bs i).mono (by decide))
theorem zm4 {a b : Rat} {n0 n1 : Int} : zaU a b n0 n1 = a ^ n1.toNat * (1 - a ^ n0.toNat - shf a b n0.toNat) + shf a b n1.toNat:=by
 unfold zaU
 rw [zei rfl (by simp)]
 show (zbI a b n1.toNat (zbI a b n0.toNat ([0] ++ [0]) 0) 1).getD 0 0 = _
 rw [zbQ _ _ _ _ _ _ (by simp [zbI]),if_neg (by decide),zbQ _ _ _ _ _ _ (by simp),zbQ _ _ _ _ _ _ (by simp),if_pos rfl,if_neg (by decide),zdj,zdj]
 show a ^ n1.toNat * (0 + (1 - (a ^ n0.toNat * (0 + (1 - 0)) + shf a b n0.toNat))) + _ = _
 grind
theorem zmQ {a b : Rat} {n0 n1 : Int} (x : Rat) : (zbN a b [n0,n1] [x]).getD 0 0 = a ^ n0.toNat * (1 - x) + shf a b n0.toNat:=by
 rw [zdv (by simp)]
 show (zbI a b n0.toNat ([x] ++ [0]) 0).getD 1 0 = _
 rw [zbQ _ _ _ _ _ _ (by simp),if_neg (by decide),zdj]
 show a ^ n0.toNat * (0 + (1 - x)) + _ = _
 grind
theorem zm6 {a b : Rat} {n0 n1 : Int} (h : zeI n0 n1) (x : Rat) : (zbN a b [n0,n1] [x]).getD 1 0 = zaD a n0 n1 * x + zaU a b n0 n1:=by
 have hb:=zei (a:=a) (b:=b) (ns:=[n0,n1]) (xs:=[x]) rfl (i:=0) (by simp)
 rw [h.led] at hb
 rw [zdv (by simp),show (1 + 1) % ([n0,n1] : List Int).length = 0 by simp]
 unfold zaD
 have hb : a ^ (n0 + n1).toNat * x + zaU a b n0 n1 = (zaS a b [n0,n1] ([x] ++ [0]) 2).getD 0 0:=hb
 exact hb.symm
theorem zrX {a B x : Rat} (ha : 0 < a) : (a * (1 - x) + B < 1 ↔ 1 - (1 - B) / a < x):=by
 have e : (1 - B) / a * a = 1 - B:=Rat.div_mul_cancel (zcS ha)
 generalize (1 - B) / a = y at *
 constructor
 . intro h
   refine Rat.not_le.mp fun k=>?_
   have:=Rat.mul_le_mul_of_nonneg_right (show y <= 1 - x by grind) (Rat.le_of_lt ha)
   grind
 . intro h
   have:=Rat.mul_lt_mul_of_pos_right (show 1 - x < y by grind) ha
   grind
theorem zos {F s x : Rat} (hF : 0 < F) : (F * x + s < 1 ↔ x < (1 - s) / F):=by
 have e : (1 - s) / F * F = 1 - s:=Rat.div_mul_cancel (zcS hF)
 generalize (1 - s) / F = y at *
 constructor
 . intro h
   refine Rat.not_le.mp fun k=>?_
   have:=Rat.mul_le_mul_of_nonneg_right k (Rat.le_of_lt hF)
   grind
 . intro h
   have:=Rat.mul_lt_mul_of_pos_right h hF
   grind
theorem zor {a b : Rat} {n0 n1 : Int} (h : zb6 a b n0 n1) (x : Rat) : zc0 a b [n0,n1] [x] = true ↔ zdA a b n0.toNat < x /\ x < zek (zaD a n0 n1) (zaU a b n0 n1):=by
 have e1:=zrX (B:=shf a b n0.toNat) (x:=x) (zbt h.ok.a0 n0.toNat)
 have e2:=zos (s:=zaU a b n0 n1) (x:=x) h.fac.1
 have eL : zdA a b n0.toNat < x ↔ 0 < x /\ 1 - (1 - shf a b n0.toNat) / a ^ n0.toNat < x:=by
   unfold zdA
   split <;> grind
 have eU : x < zek (zaD a n0 n1) (zaU a b n0 n1) ↔ x < 1 /\ x < (1 - zaU a b n0 n1) / zaD a n0 n1:=by
   unfold zek
   split <;> grind
 rw [zkK,eL,eU,<- e1,<- e2,<- zmQ (n1:=n1),<- zm6 h.two]
 constructor
 . rintro ⟨k1,k2⟩
   exact ⟨⟨k1 1 (by simp),k2 0 (by simp)⟩,k1 0 (by simp),k2 1 (by simp)⟩
 . rintro ⟨⟨k1,k2⟩,k3,k4⟩
   refine ⟨fun i hi=>?_,fun i hi=>?_⟩
   . match i,hi with
     | 0,_=>exact k3
     | 1,_=>exact k1
     | i + 2,hi=>exact absurd hi (by simp)
   . match i,hi with
     | 0,_=>exact k2
     | 1,_=>exact k4
     | i + 2,hi=>exact absurd hi (by simp)
theorem zpK {a b : Rat} {n0 n1 : Int} (h : zeI n0 n1) (k : Nat) (x : Rat) : zbe a b [n0,n1] k [x] = [push (zaD a n0 n1) (zaU a b n0 n1) k x]:=by
 have es : ([n0,n1] : List Int).sum = n0 + n1:=by simp
 unfold zbe zaD zaU zaR
 rw [es]
 show [zfB (a ^ (n0 + n1).toNat) ((zaJ a b [n0,n1] [0]).getD 0 0) k x] = _
 rw [zcY]
theorem zng {F s : Rat} (hF : 0 < F) (k : Nat) (L x : Rat) : gk F s k L < x ↔ L < push F s k x:=by
 have h:=zjT (s:=s) hF k L
 have hp:=zbt hF k
 rw [zdj]
 constructor
 . intro z
   have:=Rat.mul_lt_mul_of_pos_right z hp
   grind
 . intro z
   refine Rat.not_le.mp fun w=>?_
   have:=Rat.mul_le_mul_of_nonneg_right w (Rat.le_of_lt hp)
   grind
theorem zmX {F s : Rat} (hF : 0 < F) (k : Nat) (U x : Rat) : x < gk F s k U ↔ push F s k x < U:=by
 have h:=zjT (s:=s) hF k U
 have hp:=zbt hF k
 rw [zdj]
 constructor
 . intro z
   have:=Rat.mul_lt_mul_of_pos_right z hp
   grind
 . intro z
   refine Rat.not_le.mp fun w=>?_
   have:=Rat.mul_le_mul_of_nonneg_right w (Rat.le_of_lt hp)
   grind
theorem zmc {F s L x : Rat} (hF : 0 < F) (m : Nat) : zez F s L m < x ↔ L < x /\ L < push F s m x:=by
 rw [<- zng hF]
 unfold zez
 split <;> grind
theorem zkU {F s U x : Rat} (hF : 0 < F) (m : Nat) : x < zdb F s U m ↔ x < U /\ push F s m x < U:=by
 rw [<- zmX hF]
 unfold zdb
 split <;> grind
def Zr (x : Rat) : Prop:=∃ z : Int,x = (z : Rat)
theorem Zr.int (z : Int) : Zr (z : Rat):=⟨z,rfl⟩
theorem Zr.add {x y : Rat} (h : Zr x) (k : Zr y) : Zr (x + y):=by
 obtain ⟨z,rfl⟩:=h; obtain ⟨w,rfl⟩:=k
 exact ⟨z + w,by rw [Rat.intCast_add]⟩
theorem Zr.sub {x y : Rat} (h : Zr x) (k : Zr y) : Zr (x - y):=by
 obtain ⟨z,rfl⟩:=h; obtain ⟨w,rfl⟩:=k
 exact ⟨z - w,by rw [Rat.intCast_sub]⟩
theorem Zr.mul {x y : Rat} (h : Zr x) (k : Zr y) : Zr (x * y):=by
 obtain ⟨z,rfl⟩:=h; obtain ⟨w,rfl⟩:=k
 exact ⟨z * w,by rw [Rat.intCast_mul]⟩
theorem Zr.pow {x : Rat} (h : Zr x) : ∀ n : Nat,Zr (x ^ n)
 | 0=>⟨1,by rw [Rat.pow_zero]; rfl⟩
 | n + 1=>by rw [Rat.pow_succ]; exact (Zr.pow h n).mul h
theorem zny {F s Q r : Rat} (hQ : Zr Q) (hF : Zr (Q * F)) (hs : Zr (r * Q * s)) : ∀ k : Nat,Zr (r * Q ^ k * shf F s k)
 | 0=>⟨0,by show r * Q ^ 0 * 0 = _; rw [Rat.mul_zero]; rfl⟩
 | k + 1=>by
   have h:=(hF.mul (zny hQ hF hs k)).add ((hQ.pow k).mul hs)
   have e : r * Q ^ (k + 1) * shf F s (k + 1) = Q * F * (r * Q ^ k * shf F s k) + Q ^ k * (r * Q * s):=by
     rw [Rat.pow_succ]
     show r * (Q ^ k * Q) * (F * shf F s k + s) = _
     grind
   rw [e]; exact h
theorem zia (x y : Rat) : ∀ n : Nat,(x * y) ^ n = x ^ n * y ^ n
 | 0=>by rw [Rat.pow_zero,Rat.pow_zero,Rat.pow_zero,Rat.mul_one]
 | n + 1=>by rw [Rat.pow_succ,zia x y n,Rat.pow_succ,Rat.pow_succ]; grind
structure ziv (a b p q r : Rat) : Prop where
 zp : Zr p
 zq : Zr q
 zr : Zr r
 e : q * a = p
 zb : Zr (r * b)
section
variable {a b p q r : Rat} (O : ziv a b p q r) (ha : 0 < a)
include O
theorem ziv.shf (n : Nat) : Zr (r * q ^ n * GM.shf a b n):=zny O.zq (by rw [O.e]; exact O.zp) (by
 rw [show r * q * b = q * (r * b) by grind]; exact O.zq.mul O.zb) n
theorem ziv.pw (n : Nat) : q ^ n * a ^ n = p ^ n:=by rw [<- zia,O.e]
theorem ziv.sz (n0 n1 : Int) : Zr (r * (q ^ n0.toNat * q ^ n1.toNat) * zaU a b n0 n1):=by
 rw [zm4]
 have h0:=O.shf n0.toNat
 have h1:=O.shf n1.toNat
 have e0:=O.pw n0.toNat
 have e1:=O.pw n1.toNat
 have z:=((O.zp.pow n1.toNat).mul (((O.zr.mul (O.zq.pow n0.toNat)).sub (O.zr.mul (O.zp.pow n0.toNat))).sub h0)).add ((O.zq.pow n0.toNat).mul h1)
 rw [<- e0,<- e1] at z
 generalize GM.shf a b n0.toNat = B0 at *
 generalize GM.shf a b n1.toNat = B1 at *
 generalize a ^ n0.toNat = A0 at *
 generalize a ^ n1.toNat = A1 at *
 generalize q ^ n0.toNat = Q0 at *
 generalize q ^ n1.toNat = Q1 at *
 rw [show r * (Q0 * Q1) * (A1 * (1 - A0 - B0) + B1) = Q1 * A1 * (r * Q0 - r * (Q0 * A0) - r * Q0 * B0) + Q0 * (r * Q1 * B1) by grind]
 exact z
include ha
theorem ziv.lz (n : Nat) : Zr (r * p ^ n * zdA a b n):=by
 have hp:=zbt ha n
 unfold zdA
 split
 . have z:=(O.zr.mul (O.zp.pow n)).sub ((O.zr.mul (O.zq.pow n)).sub (O.shf n))
   have e : (1 - GM.shf a b n) / a ^ n * a ^ n = 1 - GM.shf a b n:=Rat.div_mul_cancel (zcS hp)
   rw [<- O.pw n] at z ⊢
   generalize (1 - GM.shf a b n) / a ^ n = y at *
   rw [show r * (q ^ n * a ^ n) * (1 - y) = r * (q ^ n * a ^ n) - (r * q ^ n - r * q ^ n * GM.shf a b n) by grind]
   exact z
 . rw [Rat.mul_zero]; exact ⟨0,rfl⟩
end
theorem zrj {F s P Q r : Rat} (hF : 0 < F) (hP : Zr P) (hr : Zr r) (e : Q * F = P) (hQ : Zr Q) (hs : Zr (r * Q * s)) : Zr (r * P * zek F s):=by
 unfold zek
 split
 . have z:=(hr.mul hQ).sub hs
   have e2 : (1 - s) / F * F = 1 - s:=Rat.div_mul_cancel (zcS hF)
   generalize (1 - s) / F = y at *
   rw [<- e,show r * (Q * F) * y = r * Q - r * Q * s by grind]
   exact z
 . rw [Rat.mul_one]; exact hr.mul hP
theorem zsv {F s P Q r x : Rat} (hF : 0 < F) (hP : Zr P) (e : Q * F = P) (hQ : Zr Q) (hs : Zr (r * Q * s)) (hx : Zr (r * P * x)) (k : Nat) : Zr (r * P * P ^ k * gk F s k x):=by
 have hS:=zny hQ (by rw [e]; exact hP) hs k
 have hg:=zjT (s:=s) hF k x
 have z:=((hQ.pow k).mul hx).sub (hP.mul hS)
 have e2 : P ^ k = Q ^ k * F ^ k:=by rw [<- e,zia]
 generalize gk F s k x = y at *
 generalize shf F s k = S at *
 generalize F ^ k = Fk at *
 generalize Q ^ k = Qk at *
 rw [e2,show r * P * (Qk * Fk) * y = Qk * (r * P * x) - P * (r * Qk * S) by rw [<- hg]; grind]
 exact z
def Ov (D : Int) (x : Rat) : Prop:=∃ t : Int,x = Rat.divInt t D
theorem zq6 {D : Int} {x : Rat} (hD : D ≠ 0) (h : Zr ((D : Rat) * x)) : Ov D x:=by
 obtain ⟨z,hz⟩:=h
 exact ⟨z,(zbc hD (by rw [Rat.mul_comm]; exact hz)).symm⟩
theorem Ov.cm {D : Int} {x : Rat} {m : Nat} (hD : 0 < D) (bD : Bd m D) (h : Ov D x) (h1 : -1 <= x) (h2 : x <= 2) : Cm (m + 1) [x]:=by
 obtain ⟨t,e⟩:=h
 refine ⟨D,hD,bD.mono (by omega),fun y hy=>?_⟩
 rw [List.mem_singleton.mp hy]
 refine ⟨t,e,⟨?_⟩⟩
 have h3:=zap t (show D ≠ 0 by omega)
 rw [<- e] at h3
 have hp:=Rat.le_of_lt (zeb hD)
 have u1:=Rat.mul_le_mul_of_nonneg_right h1 hp
 have u2:=Rat.mul_le_mul_of_nonneg_right h2 hp
 rw [h3] at u1 u2
 have v1 : -D <= t:=Rat.intCast_le_intCast.mp (by rw [Rat.intCast_neg]; grind)
 have v2 : t <= 2 * D:=Rat.intCast_le_intCast.mp (by rw [Rat.intCast_mul]; exact u2)
 have:=bD.lt
 rw [Nat.pow_succ]
 omega
theorem zo6 {m : Nat} {x : Rat} (h : Cm m [x]) : Bdr m x:=h.bdr (List.mem_singleton_self x)
theorem zb6.over {a b : Rat} {n0 n1 : Int} (h : zb6 a b n0 n1) {k : Nat} (hk : k <= 29) : ∃ D : Int,0 < D /\ Bd 1450 D /\ Ov D (zdi a b n0 n1 k) /\ Ov D (zdl a b n0 n1 k):=by
 have a0:=h.ok.a0
 have p0:=h.two.p0
 have p1:=h.two.p1
 have few:=h.two.few
 have n0' : 0 < a.num:=by have h1:=Rat.num_nonneg.mpr (Rat.le_of_lt a0); have h2 : a.num ≠ 0:=zfJ (zcS a0); omega
 have n4 : a.num <= 4 * a.den:=by
   have:=(Rat.le_iff a 4).mp h.ok.a4
   simpa using this
 have hd8:=h.ok.ad
 have hb:=h.ok.bd
 have O : ziv a b (a.num : Rat) ((a.den : Int) : Rat) ((b.den : Int) : Rat):=⟨Zr.int _,Zr.int _,Zr.int _,by rw [Rat.mul_comm]; exact zbi a,⟨b.num,by rw [Rat.mul_comm]; exact zbi b⟩⟩
 have hF:=h.fac.1
 have eN : (n0 + n1).toNat = n0.toNat + n1.toNat:=by omega
 have hs:=O.sz n0 n1
 have hL:=O.lz a0 n0.toNat
 have eF : ((a.den : Int) : Rat) ^ n0.toNat * ((a.den : Int) : Rat) ^ n1.toNat * zaD a n0 n1 = (a.num : Rat) ^ n0.toNat * (a.num : Rat) ^ n1.toNat:=by
   rw [<- O.pw n0.toNat,<- O.pw n1.toNat]
   unfold zaD
   rw [eN,zhU]
   grind
 have hP : Zr ((a.num : Rat) ^ n0.toNat * (a.num : Rat) ^ n1.toNat):=(O.zp.pow _).mul (O.zp.pow _)
 have hQ : Zr (((a.den : Int) : Rat) ^ n0.toNat * ((a.den : Int) : Rat) ^ n1.toNat):=(O.zq.pow _).mul (O.zq.pow _)
 have hL2 : Zr (((b.den : Int) : Rat) * ((a.num : Rat) ^ n0.toNat * (a.num : Rat) ^ n1.toNat) * zdA a b n0.toNat):=by
   have:=hL.mul (O.zp.pow n1.toNat)
   rw [show ((b.den : Int) : Rat) * ((a.num : Rat) ^ n0.toNat * (a.num : Rat) ^ n1.toNat) * zdA a b n0.toNat = ((b.den : Int) : Rat) * (a.num : Rat) ^ n0.toNat * zdA a b n0.toNat * (a.num : Rat) ^ n1.toNat by grind]
   exact this
 have hU2:=zrj hF hP O.zr eF hQ hs
 have gL:=zsv hF hP eF hQ hs hL2 k
 have gU:=zsv hF hP eF hQ hs hU2 k
 have bp : Bd 6 a.num := ⟨by have : (2 : Nat) ^ 6 = 64 := by decide
                             omega⟩
 have br : Bd 4 (b.den : Int) := ⟨by have : (2 : Nat) ^ 4 = 16 := by decide
                                     omega⟩
 have bP : Bd 1446 ((a.num ^ n0.toNat * a.num ^ n1.toNat) * (a.num ^ n0.toNat * a.num ^ n1.toNat) ^ k):=by
   have e1 : a.num ^ n0.toNat * a.num ^ n1.toNat * (a.num ^ n0.toNat * a.num ^ n1.toNat) ^ k = a.num ^ ((n0 + n1).toNat * (k + 1)):=by
     rw [<- Int.pow_add,<- eN,Int.mul_comm,<- Int.pow_succ,<- Int.pow_mul]
   rw [e1]
   refine (zg7 bp _).mono ?_
   have:=Nat.mul_le_mul (show (n0 + n1).toNat <= 8 by omega) (show k + 1 <= 30 by omega)
   omega
 have posP : 0 < (a.num ^ n0.toNat * a.num ^ n1.toNat) * (a.num ^ n0.toNat * a.num ^ n1.toNat) ^ k:=Int.mul_pos (Int.mul_pos (Int.pow_pos n0') (Int.pow_pos n0')) (Int.pow_pos (Int.mul_pos (Int.pow_pos n0') (Int.pow_pos n0')))
 have posD : 0 < (b.den : Int) * ((a.num ^ n0.toNat * a.num ^ n1.toNat) * (a.num ^ n0.toNat * a.num ^ n1.toNat) ^ k):=Int.mul_pos (den_pos b) posP
 refine ⟨_,posD,(br.mul bP).mono (by decide),?_,?_⟩
 . refine zq6 (by omega) ?_
   have e : (((b.den : Int) * ((a.num ^ n0.toNat * a.num ^ n1.toNat) * (a.num ^ n0.toNat * a.num ^ n1.toNat) ^ k) : Int) : Rat) = ((b.den : Int) : Rat) * ((a.num : Rat) ^ n0.toNat * (a.num : Rat) ^ n1.toNat) * ((a.num : Rat) ^ n0.toNat * (a.num : Rat) ^ n1.toNat) ^ k:=by
     rw [Rat.intCast_mul,Rat.intCast_mul,Rat.intCast_mul,Rat.intCast_pow,Rat.intCast_pow,Rat.intCast_pow,Rat.intCast_mul,Rat.intCast_pow,Rat.intCast_pow]
     grind
   rw [e]
   unfold zdi zez
   split
   . exact gL
   . have:=(hP.pow k).mul hL2
     generalize zdA a b n0.toNat = L at *
     generalize (a.num : Rat) ^ n0.toNat * (a.num : Rat) ^ n1.toNat = P at *
     rw [show ((b.den : Int) : Rat) * P * P ^ k * L = P ^ k * (((b.den : Int) : Rat) * P * L) by grind]
     exact this
 . refine zq6 (by omega) ?_
   have e : (((b.den : Int) * ((a.num ^ n0.toNat * a.num ^ n1.toNat) * (a.num ^ n0.toNat * a.num ^ n1.toNat) ^ k) : Int) : Rat) = ((b.den : Int) : Rat) * ((a.num : Rat) ^ n0.toNat * (a.num : Rat) ^ n1.toNat) * ((a.num : Rat) ^ n0.toNat * (a.num : Rat) ^ n1.toNat) ^ k:=by
     rw [Rat.intCast_mul,Rat.intCast_mul,Rat.intCast_mul,Rat.intCast_pow,Rat.intCast_pow,Rat.intCast_pow,Rat.intCast_mul,Rat.intCast_pow,Rat.intCast_pow]
     grind
   rw [e]
   unfold zdl zdb
   split
   . exact gU
   . have:=(hP.pow k).mul hU2
     generalize zek (zaD a n0 n1) (zaU a b n0 n1) = L at *
     generalize (a.num : Rat) ^ n0.toNat * (a.num : Rat) ^ n1.toNat = P at *
     rw [show ((b.den : Int) : Rat) * P * P ^ k * L = P ^ k * (((b.den : Int) : Rat) * P * L) by grind]
     exact this
theorem zeI.sizes {n0 n1 : Int} (h : zeI n0 n1) : zaz [n0,n1]:=by
 have h0:=h.p0
 have h1:=h.p1
 have h2:=h.few
 refine ⟨by simp,by simp,fun n hn=>?_,by simp; omega⟩
 rcases List.mem_cons.mp hn with rfl | hn
 . omega
 . rw [List.mem_singleton.mp hn]; omega
theorem zhE {F s g : Rat} (h : g * (1 - F) = s) (k : Nat) (x : Rat) : push F s k x = g + F ^ k * (x - g):=by rw [<- zcY]; exact zku h k x
theorem zfY {F : Rat} (f1 : 1 < F) : ∀ {k n : Nat},k <= n -> 0 < F ^ k /\ F ^ k <= F ^ n:=by
 have pos : ∀ k : Nat,0 < F ^ k:=fun k=>zbt (by grind) k
 intro k n h
 refine ⟨pos k,?_⟩
 induction n with
 | zero =>
   have : k = 0:=by omega
   rw [this]; exact Rat.le_refl
 | succ n ih =>
   rcases Nat.lt_or_ge k (n + 1) with z | z
   . have h1:=ih (by omega)
     have h2:=Rat.mul_le_mul_of_nonneg_left (Rat.le_of_lt f1) (Rat.le_of_lt (pos n))
     rw [Rat.pow_succ]
     grind
   . have : k = n + 1:=by omega
     rw [this]; exact Rat.le_refl
theorem zse {F s U g : Rat} (f1 : 1 < F) (h : g * (1 - F) = s) (m : Nat) (hg : g < zdb F s U m) : F ^ m * (zdb F s U m - g) = U - g:=by
 have f0 : 0 < F:=by grind
 obtain ⟨p0,p1⟩:=zfY f1 (Nat.zero_le m)
 have pm:=zbt f0 m
 rw [Rat.pow_zero] at p1
 have iff:=fun x=>zkU (s:=s) (U:=U) (x:=x) f0 m
 have gu:=((iff g).mp hg).1
 have key : ∀ x,x < zdb F s U m ↔ x < U /\ g + F ^ m * (x - g) < U:=fun x=>by rw [iff x,zhE h]
 generalize zdb F s U m = e at *
 generalize F ^ m = P at *
 have h1 : ¬ P * (e - g) < U - g:=fun z=>by
   have h2:=Rat.mul_le_mul_of_nonneg_right p1 (show 0 <= e - g by grind)
   have:=(key e).mpr ⟨by grind,by grind⟩
   grind
 have h2 : ¬ U - g < P * (e - g):=fun z=>by
   have hq : (U - g) / P * P = U - g:=Rat.div_mul_cancel (fun e=>by rw [e] at pm; exact absurd pm (by decide))
   generalize (U - g) / P = y at hq
   have hy : y < e - g:=by
     refine Rat.not_le.mp fun w=>?_
     have:=Rat.mul_le_mul_of_nonneg_right w (Rat.le_of_lt pm)
     grind
   have:=((key (g + y)).mp (by grind)).2
   grind
 grind
theorem zrP {F s Lw g : Rat} (f1 : 1 < F) (h : g * (1 - F) = s) (m : Nat) (hg : zez F s Lw m < g) : F ^ m * (zez F s Lw m - g) = Lw - g:=by
 have f0 : 0 < F:=by grind
 obtain ⟨p0,p1⟩:=zfY f1 (Nat.zero_le m)
 have pm:=zbt f0 m
 rw [Rat.pow_zero] at p1
 have iff:=fun x=>zmc (s:=s) (L:=Lw) (x:=x) f0 m
 have gu:=((iff g).mp hg).1
 have key : ∀ x,zez F s Lw m < x ↔ Lw < x /\ Lw < g + F ^ m * (x - g):=fun x=>by rw [iff x,zhE h]
 generalize zez F s Lw m = e at *
 generalize F ^ m = P at *
 have h1 : ¬ Lw - g < P * (e - g):=fun z=>by
   have h2:=Rat.mul_le_mul_of_nonneg_right p1 (show 0 <= g - e by grind)
   have:=(key e).mpr ⟨by grind,by grind⟩
   grind
 have h2 : ¬ P * (e - g) < Lw - g:=fun z=>by
   have hq : (Lw - g) / P * P = Lw - g:=Rat.div_mul_cancel (fun e=>by rw [e] at pm; exact absurd pm (by decide))
   generalize (Lw - g) / P = y at hq
   have hy : e - g < y:=by
     refine Rat.not_le.mp fun w=>?_
     have:=Rat.mul_le_mul_of_nonneg_right w (Rat.le_of_lt pm)
     grind
   have:=((key (g + y)).mp (by grind)).2
   grind
 grind
theorem zlZ {L U g E θ : Rat} (hL : L < g) (hU : g < U) (hE : E = L \/ E = U) (t0 : 0 <= θ) (t1 : θ < 1) : L < g + θ * (E - g) /\ g + θ * (E - g) < U:=by
 rcases hE with rfl | rfl
 . have h1:=Rat.mul_nonneg t0 (show 0 <= g - E by grind)
   have h2:=Rat.mul_pos (show 0 < 1 - θ by grind) (show 0 < g - E by grind)
   exact ⟨by grind,by grind⟩
 . have h1:=Rat.mul_nonneg t0 (show 0 <= E - g by grind)
   have h2:=Rat.mul_pos (show 0 < 1 - θ by grind) (show 0 < E - g by grind)
   exact ⟨by grind,by grind⟩
theorem zoX {L U g E θ : Rat} (hL : L < g) (hU : g < U) (hE : E = L \/ E = U) (t1 : 1 <= θ) : ¬ (L < g + θ * (E - g) /\ g + θ * (E - g) < U):=by
 rcases hE with rfl | rfl
 . have h2:=Rat.mul_nonneg (show 0 <= θ - 1 by grind) (show 0 <= g - E by grind)
   intro h; grind
 . have h2:=Rat.mul_nonneg (show 0 <= θ - 1 by grind) (show 0 <= E - g by grind)
   intro h; grind
theorem zpv (a b : Rat) (n : Nat) : 0 <= zdA a b n:=by
 unfold zdA
 split
 . rename_i z; exact Rat.le_of_lt z
 . exact Rat.le_refl
theorem zpz (F s : Rat) : zek F s <= 1:=by
 unfold zek
 split
 . rename_i z; exact Rat.le_of_lt z
 . exact Rat.le_refl
theorem zjK {a b : Rat} {n0 n1 : Int} (P : zb6 a b n0 n1) (k : Nat) (x : Rat) : zaC a b [n0,n1] [x] k = true ↔ zdA a b n0.toNat < push (zaD a n0 n1) (zaU a b n0 n1) k x /\ push (zaD a n0 n1) (zaU a b n0 n1) k x < zek (zaD a n0 n1) (zaU a b n0 n1):=by
 unfold zaC
 rw [zpK P.two]
 exact zor P _
theorem zd2 {a b : Rat} {n0 n1 : Int} (P : zb6 a b n0 n1) (ha : 1 < a) : zat a b [n0,n1] = [(zat a b [n0,n1]).getD 0 0] /\ (zat a b [n0,n1]).getD 0 0 * (1 - zaD a n0 n1) = zaU a b n0 n1 /\ 1 < zaD a n0 n1:=by
 have h0:=P.two.p0
 have h1:=P.two.p1
 have es : ([n0,n1] : List Int).sum = n0 + n1:=by simp
 have hl : (zat a b [n0,n1]).length = 1:=zbP (by simp)
 have hF : 1 < zaD a n0 n1:=by
   unfold zaD
   have:=(zfY ha (show 1 <= (n0 + n1).toNat by omega)).2
   rw [Rat.pow_succ,Rat.pow_zero,Rat.one_mul] at this
   grind
 refine ⟨?_,?_,hF⟩
 . match zat a b [n0,n1],hl with
   | [y],_=>rfl
 . rw [zc7 (by omega),es]
   have hF' : zaD a n0 n1 = a ^ (n0 + n1).toNat:=by unfold zaD; rfl
   rw [<- hF']
   have e : (zaJ a b [n0,n1] (zbx (([n0,n1] : List Int).length - 1))).getD 0 0 = zaU a b n0 n1:=by unfold zaU; rfl
   rw [e]
   exact Rat.div_mul_cancel (fun z=>by grind)
theorem ze4 {a b : Rat} {n0 n1 : Int} (P : zb6 a b n0 n1) (ha : 1 < a) (x : Rat) : za6 a b [n0,n1] [x] = decide (x = (zat a b [n0,n1]).getD 0 0):=by
 obtain ⟨h1,_,_⟩:=zd2 P ha
 unfold za6
 rw [if_pos ha]
 generalize (zat a b [n0,n1]).getD 0 0 = g at *
 rw [h1]
 refine decide_eq_decide.mpr ⟨fun e=>(List.cons.inj e).1,fun e=>by rw [e]⟩
theorem zjk {F s g e E t r : Rat} (h : g * (1 - F) = s) (hr : r * F ^ 29 = 1) (he : F ^ 29 * (e - g) = E - g) (k : Nat) : push F s k (g + t * (e - g)) = g + (F ^ k * r * t) * (E - g):=by
 rw [zhE h,<- he]
 generalize F ^ k = P at *
 generalize F ^ 29 = M at *
 have : r * M * (e - g) = e - g:=by rw [hr]; grind
 grind
structure zeq (a b : Rat) (n0 n1 : Int) (g e : Rat) : Prop where
 P : zb6 a b n0 n1
 ha : 1 < a
 hg : (zat a b [n0,n1]).getD 0 0 = g
 lo : zdi a b n0 n1 29 < g
 hi : g < zdl a b n0 n1 29
 e : e = zdi a b n0 n1 29 \/ e = zdl a b n0 n1 29
theorem zeq.facts {a b : Rat} {n0 n1 : Int} {g e : Rat} (h : zeq a b n0 n1 g e) : ∃ E r : Rat,(E = zdA a b n0.toNat \/ E = zek (zaD a n0 n1) (zaU a b n0 n1)) /\ r * zaD a n0 n1 ^ 29 = 1 /\ zaD a n0 n1 ^ 29 * (e - g) = E - g /\ zdA a b n0.toNat < g /\ g < zek (zaD a n0 n1) (zaU a b n0 n1):=by
 obtain ⟨_,hs,hF⟩:=zd2 h.P h.ha
 rw [h.hg] at hs
 have f0 : 0 < zaD a n0 n1:=by grind
 have pm:=zbt f0 29
 have hlo:=h.lo
 have hhi:=h.hi
 have he:=h.e
 unfold zdi at hlo he
 unfold zdl at hhi he
 have l1:=zrP hF hs 29 hlo
 have l2:=zse hF hs 29 hhi
 have b1:=((zmc f0 29).mp hlo).1
 have b2:=((zkU f0 29).mp hhi).1
 have hr : 1 / zaD a n0 n1 ^ 29 * zaD a n0 n1 ^ 29 = 1:=Rat.div_mul_cancel (fun z=>by rw [z] at pm; exact absurd pm (by decide))
 rcases he with rfl | rfl
 . exact ⟨_,_,.inl rfl,hr,l1,b1,b2⟩
 . exact ⟨_,_,.inr rfl,hr,l2,b1,b2⟩
theorem zeq.free {a b : Rat} {n0 n1 : Int} {g e t : Rat} (h : zeq a b n0 n1 g e) (t0 : 0 < t) (t1 : t < 1) {k : Nat} (hk : k <= 29) : zaC a b [n0,n1] [g + t * (e - g)] k = true:=by
 obtain ⟨E,r,hE,hr,he,b1,b2⟩:=h.facts
 obtain ⟨_,hs,hF⟩:=zd2 h.P h.ha
 rw [h.hg] at hs
 obtain ⟨p0,p1⟩:=zfY hF hk
 rw [zjK h.P,zjk hs hr he]
 refine zlZ b1 b2 hE ?_ ?_
 . generalize zaD a n0 n1 ^ 29 = M at *
   generalize zaD a n0 n1 ^ k = Pk at *
   have r0 : 0 < r:=by
     refine Rat.not_le.mp fun z=>?_
     have:=Rat.mul_nonneg (show 0 <= -r by grind) (show 0 <= M by grind)
     grind
   exact Rat.le_of_lt (Rat.mul_pos (Rat.mul_pos p0 r0) t0)
 . generalize zaD a n0 n1 ^ 29 = M at *
   generalize zaD a n0 n1 ^ k = Pk at *
   have r0 : 0 < r:=by
     refine Rat.not_le.mp fun z=>?_
     have:=Rat.mul_nonneg (show 0 <= -r by grind) (show 0 <= M by grind)
     grind
   have q1:=Rat.mul_le_mul_of_nonneg_right p1 (Rat.le_of_lt r0)
   have q2 : Pk * r <= 1:=by grind
   have q3:=Rat.mul_le_mul_of_nonneg_right q2 (Rat.le_of_lt t0)
   grind
theorem zeq.thirty {a b : Rat} {n0 n1 : Int} {g e t : Rat} (h : zeq a b n0 n1 g e) (t0 : 0 < t) : (zaD a n0 n1 * t < 1 -> zaC a b [n0,n1] [g + t * (e - g)] 30 = true) /\ (1 <= zaD a n0 n1 * t -> zaC a b [n0,n1] [g + t * (e - g)] 30 = false):=by
 obtain ⟨E,r,hE,hr,he,b1,b2⟩:=h.facts
 obtain ⟨_,hs,hF⟩:=zd2 h.P h.ha
 rw [h.hg] at hs
 have e30 : zaD a n0 n1 ^ 30 * r * t = zaD a n0 n1 * t:=by
   rw [Rat.pow_succ]
   generalize zaD a n0 n1 ^ 29 = M at *
   grind
 constructor
 . intro z
   rw [zjK h.P,zjk hs hr he,e30]
   exact zlZ b1 b2 hE (Rat.le_of_lt (Rat.mul_pos (by grind) t0)) z
 . intro z
   cases ef : zaC a b [n0,n1] [g + t * (e - g)] 30 with
   | false=>rfl
   | true =>
     rw [zjK h.P,zjk hs hr he,e30] at ef
     exact absurd ef (zoX b1 b2 hE z)
theorem zeq.bdr {a b : Rat} {n0 n1 : Int} {g e : Rat} (h : zeq a b n0 n1 g e) : Bdr 1451 e:=by
 obtain ⟨D,D0,bD,oL,oH⟩:=h.P.over (k:=29) (by decide)
 have h1:=zpv a b n0.toNat
 have h2:=zpz (zaD a n0 n1) (zaU a b n0 n1)
 have h3 : zdA a b n0.toNat <= zdi a b n0 n1 29:=by unfold zdi; exact zsf ..
 have h4 : zdl a b n0 n1 29 <= zek (zaD a n0 n1) (zaU a b n0 n1):=by unfold zdl; exact zpf ..
 have hlo:=h.lo
 have hhi:=h.hi
 rcases h.e with rfl | rfl
 . exact zo6 (oL.cm D0 bD (by grind) (by grind))
 . exact zo6 (oH.cm D0 bD (by grind) (by grind))
theorem zoa (g : Rat) : Rat.divInt (0 - g.num) (g.den : Int) = -g:=by
 refine zbc (zby g) ?_
 have:=zbi g
 have e : ((0 - g.num : Int) : Rat) = -(g.num : Rat):=by push_cast; grind
 rw [e,<- this]
 grind
theorem zpF (w : Rat) : Rat.divInt w.num ((w.den : Int) * 2) = 1 / 2 * w:=by
 refine zbc (Int.mul_ne_zero (zby w) (by decide)) ?_
 have:=zbi w
 have e : (((w.den : Int) * 2 : Int) : Rat) = ((w.den : Int) : Rat) * (2 : Rat):=by push_cast; rfl
 rw [e,<- this]
 have h2 : (1 / 2 : Rat) * 2 = 1:=by decide +kernel
 grind
theorem zpg {w F : Rat} (hF : 0 < F) : Rat.divInt (w.num * (F.den : Int)) ((w.den : Int) * 2 * F.num) = 1 / (2 * F) * w:=by
 have fn : F.num ≠ 0:=fun z=>by
   have n2:=zbi F
   have h3 : (0 : Rat) < ((F.den : Int) : Rat):=Rat.intCast_pos.mpr (den_pos F)
   have h4:=Rat.mul_pos hF h3
   rw [n2,z] at h4
   exact absurd h4 (by decide)
 refine zbc (Int.mul_ne_zero (Int.mul_ne_zero (zby w) (show (2 : Int) ≠ 0 by decide)) fn) ?_
 have n1:=zbi w
 have n2:=zbi F
 have e1 : ((w.num * (F.den : Int) : Int) : Rat) = (w.num : Rat) * ((F.den : Int) : Rat):=by push_cast; rfl
 have e2 : (((w.den : Int) * 2 * F.num : Int) : Rat) = ((w.den : Int) : Rat) * 2 * (F.num : Rat):=by push_cast; rfl
 have e3 : 1 / (2 * F) * (2 * F) = 1:=Rat.div_mul_cancel (fun z=>by grind)
 rw [e1,e2,<- n1,<- n2]
 grind
theorem zfJ {F : Rat} (hF : 0 < F) : F.num ≠ 0:=fun z=>by
 have n2:=zbi F
 have h3 : (0 : Rat) < ((F.den : Int) : Rat):=Rat.intCast_pos.mpr (den_pos F)
 have h4:=Rat.mul_pos hF h3
 rw [n2,z] at h4
 exact absurd h4 (by decide)
theorem zjo {m : Nat} {x : Rat} (h : Bdr m x) : Cm m [x]:=⟨(x.den : Int),den_pos x,h.b,fun y hy=>⟨x.num,by rw [List.mem_singleton.mp hy,Rat.num_divInt_den],h.t⟩⟩
def zdH (K : PySem.W.Frag) : Sp:=fun vs H Q _=>∃ x0 x1,vs = [x0,x1] /\ ∃ (ra rb : Rat) (n0 n1 : Int),Is K H x0 (R ra rb) /\ Is K H x1 (TZ [n0,n1]) /\ zb6 ra rb n0 n1 /\ 1 < ra /\ ∀ H',zai H H' -> Q (.bl true) H'
theorem zdT {K : PySem.W.Frag} {H : Hp} {Q : VK} {E : XK} {ra rb : Rat} {n0 n1 : Int} {v w : V} (h1 : Is K H v (R ra rb)) (h2 : Is K H w (TZ [n0,n1])) (P : zb6 ra rb n0 n1) (ha : 1 < ra) (q : ∀ H',zai H H' -> Q (.bl true) H') : zdH K [v,w] H Q E:=⟨_,_,rfl,ra,rb,n0,n1,h1,h2,P,ha,q⟩
set_option maxHeartbeats 4000000 in
theorem zf1 (T : Txt K mg a) : zbd P w K mg base CX0 13 a.law_edge_right a.fd_law_edge_right ["_law_rule_here","_law_sizes_here"] (zdH K):=by
 refine T.F_law_edge_right.ok zaX (fun vs H Q E h=>by obtain ⟨_,_,rfl,_⟩:=h; rfl) (fun cdv A outer s H vs Q E hr h=>?_)
 obtain ⟨x0,x1,rfl,h⟩:=h
 have hu:=hr.units
 refine ⟨_,(zad (zak (i:=2) zaX.nd rfl (Or.inl rfl) (zam zah (zaf (zeD T) (hr.mono (by decide)) rfl T.g_still T.F_still.kp T.b_still .nil zaj (zaa (pv 0) (zaa (pv 1) zab))) zac (fun _ _=>rfl)))
     (zad (zak (i:=3) zaX.nd rfl (Or.inl rfl) (zaf (zld T) (hr.mono (by decide)) rfl T.g_stretch T.F_stretch.kp T.b_stretch .nil zaj (zaa (pv 0) (zaa (pv 1) (zaa zac zab)))))
     (zad (za4 (PW.pt (zkM (zax zjU (pv 3) zdY (zaw _)) (zkM (zdz (zb3 (zaf (zdE T) (hr.mono (by decide)) rfl T.g_law_less T.F_law_less.kp T.b_law_less .nil zaj (zaa (zam zah (pv 3) zac (fun _ _=>rfl)) (zaa (pv 2) zab))))) (zjD (zdz (zb3 (zaf (zdE T) (hr.mono (by decide)) rfl T.g_law_less T.F_law_less.kp T.b_law_less .nil zaj (zaa (pv 2) (zaa (zam zah (pv 3) zac (fun _ _=>rfl)) zab))))))))) (zag (zan zeQ)) zaF)
     (zad (zak (i:=4) zaX.nd rfl (Or.inl rfl) (zam zah (zaf (zci T) (hr.mono (by decide)) rfl T.g_round_map T.F_round_map.kp T.b_round_map .nil zaj (zaa (pv 0) (zaa (pv 1) zab))) zac (fun _ _=>rfl)))
     (zad (zc8 PassesOwn.never rfl (zet (pv 3)) (zaA (i:=5) zaX.nd rfl (Or.inl rfl)) (zad (zak (i:=6) zaX.nd rfl (Or.inl rfl) (zaf (zcB T) (hr.mono (by decide)) rfl T.g_law_plus T.F_law_plus.kp T.b_law_plus .nil zaj (zaa (pv 5) (zaa (zay (zaa (zal zck zac (zam zah (pv 2) zac (fun _ _=>rfl))) (zaa (zam zah (pv 2) zac (fun _ _=>rfl)) zab))) zab))))
     (zad (zak (i:=7) zaX.nd rfl (Or.inl rfl) (zaf (zaL T) (hr.mono (by decide)) rfl T.g_law_low T.F_law_low.kp T.b_law_low .nil zaj (zaa (zal zav (zam zah (pv 6) zac (fun _ _=>rfl)) (zam zah (pv 4) zac (fun _ _=>rfl))) (zaa (zal zav (zal zav (zam zah (pv 6) zac (fun _ _=>rfl)) zac) (zam zah (pv 4) zac (fun _ _=>rfl))) zab))))
     (zad (zak (i:=8) zaX.nd rfl (Or.inl rfl) (zaf (zaL T) (hr.mono (by decide)) rfl T.g_law_low T.F_law_low.kp T.b_law_low .nil zaj (zaa (zam zah (pv 6) zac (fun _ _=>rfl)) (zaa (zal zav (zam zah (pv 6) zac (fun _ _=>rfl)) zac) zab))))
     (zad (za4 (zax (show OpR _ (compareOp .NotEq) (zfu K) from zfK hu) (zaf (zdK T) (hr.mono (by decide)) rfl T.g_law_told T.F_law_told.kp T.b_law_told .nil zaj (zaa (pv 0) (zaa (pv 1) (zaa (zay (zaa (zaf (zcB T) (hr.mono (by decide)) rfl T.g_law_plus T.F_law_plus.kp T.b_law_plus .nil zaj (zaa (pv 2) (zaa (zaf (zcB T) (hr.mono (by decide)) rfl T.g_law_plus T.F_law_plus.kp T.b_law_plus .nil zaj (zaa (pv 8) (zaa (pv 7) zab))) zab))) zab)) zab)))) zac (zaw _)) (zag (zan zeQ)) zaF)
     (zag (za4 (zax (show OpR _ (compareOp .NotEq) (zfu K) from zfK hu) (zaf (zdK T) (hr.mono (by decide)) rfl T.g_law_told T.F_law_told.kp T.b_law_told .nil zaj (zaa (pv 0) (zaa (pv 1) (zaa (zay (zaa (zaf (zcB T) (hr.mono (by decide)) rfl T.g_law_plus T.F_law_plus.kp T.b_law_plus .nil zaj (zaa (pv 2) (zaa (pv 7) zab))) zab)) zab)))) (za2 (zaa zbD zab)) (zaw _)) (zag (zan zeQ)) zaF)))))))
     (zag (zan (zcH zjU (zaf (zdK T) (hr.mono (by decide)) rfl T.g_law_told T.F_law_told.kp T.b_law_told .nil zaj (zaa (pv 0) (zaa (pv 1) (zaa (zay (zaa (pv 2) zab)) zab)))) zdY (zaw _))))))))),?_⟩
 clear hu
 try clear hgd
 try dsimp only [za8,zaQ]
 rw [show start ["_law_rule_here","_law_sizes_here","_law_goal","_law_found","_law_factor","_law_end","_law_way","_law_part","_law_half"] [x0,x1] = [some x0,some x1,none,none,none,none,none,none,none] from rfl]
 obtain ⟨ra,rb,n0,n1,hr',hn',P,ha,q⟩:=h
 obtain ⟨hst,hs,hF⟩:=zd2 P ha
 have h0:=P.two.p0
 have h1:=P.two.p1
 have h2:=P.two.few
 have sz:=P.two.sizes
 have es : ([n0,n1] : List Int).sum = n0 + n1:=by simp
 have hF1 : ra ^ ([n0,n1] : List Int).sum.toNat ≠ 1:=fun e=>by
   rw [es] at e
   have : zaD ra n0 n1 = 1:=by unfold zaD; exact e
   grind
 have bg : Bdr 290 ((zat ra rb [n0,n1]).getD 0 0):=by
   rw [zc7 (by rw [hst]; simp)]
   have bF : Bdr 49 (ra ^ ([n0,n1] : List Int).sum.toNat):=(zgb P.ok _).mono (by rw [es]; omega)
   exact ((zbW P.ok sz 0).div (Bdr.one.sub bF) (fun e=>hF1 (by grind))).mono (by omega)
 have f0 : 0 < zaD ra n0 n1:=by grind
 generalize hgg : (zat ra rb [n0,n1]).getD 0 0 = g at *
 wtm_at "gg"
 refine zeK hr' hn' (zbA P.ok sz) (by rw [es]; omega) (by rw [es]; omega) (fun e=>absurd e hF1) (fun _ v1 H1 S1 i1=>?_)
 rw [hst] at i1
 wtm_at "gg"
 refine zcl (j:=0) i1 rfl (fun vg ig=>?_)
 wtm_at "gg"
 refine zlf (hr'.by S1) (hn'.by S1) P (by decide) (by decide) (fun z v2 H2 S2 i2=>?_) (fun z H2 S2=>?_)
 . have i2 : Is K H2 v2 (R (zdi ra rb n0 n1 29) (zdl ra rb n0 n1 29)):=i2
   have T2:=S1.trans S2
   have ig2:=ig.by S2
   have bl:=P.lo (k:=29) (by decide)
   have bh:=P.hi (k:=29) (by decide)
   wtm_at "gg"
   . exact q _ T2
   . rename_i y vl il
     refine zdC il ig2 bl bg (by decide) ?_
     wtm_at "gg"
     . exact q _ T2
     . rename_i ylo vh ih
       refine zdC ig2 ih bg bh (by decide) ?_
       wtm_at "gg"
       . exact q _ T2
       . rename_i yhi
         have edge : ∀ e,e = zdi ra rb n0 n1 29 \/ e = zdl ra rb n0 n1 29 -> zeq ra rb n0 n1 g e:=fun e he=>⟨P,ha,hgg,ylo,yhi,he⟩
         refine zcd (hr'.by T2) (hn'.by T2) (zbA P.ok sz) (by rw [es]; omega) (by rw [es]; omega) (fun v3 H3 S3 i3=>?_)
         wtm_at "gg"
         refine zcl (j:=0) i3 rfl (fun vF iF=>?_)
         have hFe : ra ^ ([n0,n1] : List Int).sum.toNat = zaD ra n0 n1:=by rw [es]; unfold zaD; rfl
         rw [hFe] at iF
         have bF:=P.fac.2
         have bF1:=bF.t
         have bF2:=bF.b
         have bg1:=bg.t
         have bg2:=bg.b
         have T3:=T2.trans S3
         obtain ⟨a2,us,rfl,hs2,tu⟩:=zaT.mp (show Is K H3 v2 (TN [zdi ra rb n0 n1 29,zdl ra rb n0 n1 29]) from i2.by S3)
         have hul:=tu.length
         simp only [List.length_map,List.length_cons,List.length_nil] at hul
         wtm_at "gg"
         refine zgn hs2 (fun i σ H'=>∃ o5 o6 o7 o8,σ = [some x0,some x1,some vg,some (.ref a2),some vF,o5,o6,o7,o8] /\ zai H3 H') ⟨_,_,_,_,rfl,zai.refl _⟩ (fun i σ H' _ h=>by obtain ⟨_,_,_,_,_,S⟩:=h; exact S.sqT hs2) ?_ ?_
         . rintro i x σ H4 hx ⟨o5,o6,o7,o8,rfl,S4⟩
           obtain ⟨hi,ix⟩:=zdc tu hx
           have he : ([zdi ra rb n0 n1 29,zdl ra rb n0 n1 29] : List Rat).getD i 0 = zdi ra rb n0 n1 29 \/ ([zdi ra rb n0 n1 29,zdl ra rb n0 n1 29] : List Rat).getD i 0 = zdl ra rb n0 n1 29:=by
             match i,hi with
             | 0,_=>exact .inl rfl
             | 1,_=>exact .inr rfl
             | i + 2,hi=>exact absurd hi (by simp)
           have ok:=edge _ he
           generalize ([zdi ra rb n0 n1 29,zdl ra rb n0 n1 29] : List Rat).getD i 0 = e at *
           have be:=ok.bdr
           have ix4:=ix.by S4
           have ig4:=ig2.by (S3.trans S4)
           have iF4:=iF.by S4
           have T4:=T3.trans S4
           wtm_at "gg"
           refine zcp (ds:=[.int (0 - g.num),.int (g.den : Int)]) (by simp) (.cons (za5.mpr rfl) (.cons (za5.mpr rfl) .nil)) (fun v5 H5 S5 i5=>?_)
           wtm_at "gg"
           refine zep (ix4.by S5) i5 (den_pos g) be (n:=290) ⟨by have:=bg1.lt; omega⟩ bg2 (by decide) (fun vw H6 S6 iw=>?_)
           rw [zoa,show e + -g = e - g by grind] at iw
           have bw : Bdr 1743 (e - g):=(be.sub bg).mono (by decide)
           have ew : e - g ≠ 0:=fun z=>by
             have h1:=ok.lo
             have h2:=ok.hi
             rcases ok.e with h | h
             . grind
             . grind
           have bw1:=bw.t
           have bw2:=bw.b
           have iF6:=iF4.by (S5.trans S6)
           have p2 : (2 : Nat) ^ 2 = 4:=by decide
           have b2 : Bd 2 (2 : Int):=⟨by decide⟩
           wtm_at "gg"
           refine zbR (Int.mul_ne_zero (Int.mul_ne_zero (zby _) (by decide)) (zfJ f0)) (((bw2.mul b2).mul bF1).mono (by decide)) (fun vp H7 S7 ip=>?_)
           rw [zpg f0] at ip
           have iw7:=iw.by S7
           wtm_at "gg"
           refine zbR (Int.mul_ne_zero (zby _) (by decide)) ((bw2.mul b2).mono (by decide)) (fun vh' H8 S8 ih'=>?_)
           rw [zpF] at ih'
           have S48:=S5.trans (S6.trans (S7.trans S8))
           have T8:=T4.trans S48
           have b2F : Bdr 85 (2 * zaD ra n0 n1):=((show Bdr 3 (2 : Rat) from ⟨⟨by decide⟩,⟨by decide⟩⟩).mul bF).mono (by decide)
           have bt2 : Bdr 90 (1 / (2 * zaD ra n0 n1)):=(Bdr.one.div b2F (fun z=>by grind)).mono (by decide)
           have bhalf : Bdr 4 (1 / 2 : Rat):=⟨⟨by decide +kernel⟩,⟨by decide +kernel⟩⟩
           have bp : Bdr 1840 (1 / (2 * zaD ra n0 n1) * (e - g)):=(bt2.mul bw).mono (by decide)
           have bhf : Bdr 1750 (1 / 2 * (e - g)):=(bhalf.mul bw).mono (by decide)
           have hF2 : 1 / (2 * zaD ra n0 n1) * (2 * zaD ra n0 n1) = 1:=Rat.div_mul_cancel (fun z=>by grind)
           have h12 : (1 / 2 : Rat) * 2 = 1:=by decide +kernel
           generalize ht2 : 1 / (2 * zaD ra n0 n1) = t2 at *
           have t20 : 0 < t2:=by
             refine Rat.not_le.mp fun z=>?_
             have:=Rat.mul_nonneg (show 0 <= -t2 by grind) (show 0 <= 2 * zaD ra n0 n1 by grind)
             grind
           have t21 : t2 * zaD ra n0 n1 = 1 / 2:=by grind
           have t2lt : t2 < 1 / 2:=by
             have:=Rat.mul_lt_mul_of_pos_left hF t20
             grind
           have hlt : (1 / 2 : Rat) < 1:=by decide +kernel
           have f1:=fun {k : Nat} (hk : k <= 29)=>ok.free (t:=1 / 2 + t2) (by grind) (by grind) hk
           have f1x:=(ok.thirty (t:=1 / 2 + t2) (by grind)).2 (by grind)
           have f2:=fun {k : Nat} (hk : k <= 29)=>ok.free (t:=t2) t20 (by grind) hk
           have f2x:=(ok.thirty (t:=t2) t20).1 (by grind)
           have st1 : za6 ra rb [n0,n1] [g + (1 / 2 + t2) * (e - g)] = false:=by
             rw [ze4 P ha,hgg]
             refine decide_eq_false fun z=>?_
             have : (1 / 2 + t2) * (e - g) = 0:=by grind
             rcases Rat.mul_eq_zero.mp this with h | h
             . grind
             . exact ew h
           have st2 : za6 ra rb [n0,n1] [g + t2 * (e - g)] = false:=by
             rw [ze4 P ha,hgg]
             refine decide_eq_false fun z=>?_
             have : t2 * (e - g) = 0:=by grind
             rcases Rat.mul_eq_zero.mp this with h | h
             . grind
             . exact ew h
           have bt1 : Bdr 96 (1 / 2 + t2):=(bhalf.add bt2).mono (by decide)
           have bx1 : Bdr 3700 (g + (1 / 2 + t2) * (e - g)):=(bg.add (bt1.mul bw)).mono (by decide)
           have bx2 : Bdr 3700 (g + t2 * (e - g)):=(bg.add bp).mono (by decide)
           have ip8:=ip.by S8
           have ig8:=ig4.by S48
           wtm_at "gg"
           refine zdo ih' ip8 bhf bp (by decide) (fun v9 H9 S9 i9=>?_)
           wtm_at "gg"
           refine zdo (ig8.by S9) i9 bg (bhf.add bp) (by decide) (fun v10 H10 S10 i10=>?_)
           rw [show g + (1 / 2 * (e - g) + t2 * (e - g)) = g + (1 / 2 + t2) * (e - g) by grind] at i10
           wtm_at "gg"
           refine zcp (ds:=[N (g + (1 / 2 + t2) * (e - g))]) (by simp) (.cons i10 .nil) (fun v11 H11 S11 i11=>?_)
           have S811:=S9.trans (S10.trans S11)
           have T11:=T8.trans S811
           wtm_at "gg"
           refine zdU (hr'.by T11) (hn'.by T11) (show Is K H11 v11 (TN [g + (1 / 2 + t2) * (e - g)]) from i11) P.ok sz rfl (zjo bx1) (by decide) (fun z H12 S12=>?_) (fun z y H12 S12=>?_) (fun c c1 c2 y z w H12 S12=>?_) (fun y z l H12 S12 e12=>?_)
           . rw [f1 (by decide)] at z; cases z
           . rw [st1] at y; cases y
           . have c30 : c = 30:=by
               rcases Nat.lt_or_ge c 30 with u | u
               . rw [f1 (by omega)] at w; cases w
               . omega
             subst c30
             wtm_at "gg"
             . rename_i u; exact absurd rfl u
             . refine zdo (ig8.by (S811.trans S12)) (ip8.by (S811.trans S12)) bg bp (by decide) (fun v13 H13 S13 i13=>?_)
               wtm_at "gg"
               refine zcp (ds:=[N (g + t2 * (e - g))]) (by simp) (.cons i13 .nil) (fun v14 H14 S14 i14=>?_)
               have S1114:=S12.trans (S13.trans S14)
               have T14:=T11.trans S1114
               wtm_at "gg"
               refine zdU (hr'.by T14) (hn'.by T14) (show Is K H14 v14 (TN [g + t2 * (e - g)]) from i14) P.ok sz rfl (zjo bx2) (by decide) (fun z H15 S15=>?_) (fun z y H15 S15=>?_) (fun c c1 c2 y z w H15 S15=>?_) (fun y z l H15 S15 e15=>?_)
               . rw [f2 (by decide)] at z; cases z
               . rw [st2] at y; cases y
               . rcases Nat.lt_or_ge c 30 with u | u
                 . rw [f2 (by omega)] at w; cases w
                 . have : c = 30:=by omega
                   subst this
                   rw [f2x] at w; cases w
               . wtm_at "gg"
                 refine zcm (by simp) (fun l16 H16 n16 S16 e16=>?_)
                 refine zql (n:=2) (d:=.list [.str (PySem.Str.ofString "long")]) (zbp.mpr ⟨l,_,rfl,.of (S16 _ _ e15),.cons (zb1.mpr rfl) .nil⟩) (zbp.mpr ⟨l16,_,rfl,.of e16,.cons (zb1.mpr rfl) .nil⟩) ⟨by decide +kernel,by decide +kernel⟩ (by decide) (by decide +kernel) ?_
                 wtm_at "gg"
                 exact ⟨_,_,_,_,rfl,S4.trans (S48.trans (S811.trans (S1114.trans (S15.trans S16))))⟩
           . rw [z 30 (by decide)] at f1x; cases f1x
         . rintro σ H4 ⟨o5,o6,o7,o8,rfl,S4⟩
           have T4:=T3.trans S4
           have ig4:=ig2.by (S3.trans S4)
           have gl : zaC ra rb [n0,n1] [g] 0 = true:=by
             obtain ⟨E,r,hE,hr,he,b1,b2⟩:=(edge _ (.inl rfl)).facts
             rw [zjK P]
             exact ⟨b1,b2⟩
           wtm_at "gg"
           refine zcp (ds:=[N g]) (by simp) (.cons ig4 .nil) (fun v5 H5 S5 i5=>?_)
           have T5:=T4.trans S5
           wtm_at "gg"
           refine zdU (hr'.by T5) (hn'.by T5) (show Is K H5 v5 (TN [g]) from i5) P.ok sz rfl (zjo (bg.mono (show 290 <= 3700 by decide))) (by decide) (fun z H6 S6=>?_) (fun z y H6 S6=>?_) (fun c c1 c2 y z w H6 S6=>?_) (fun y z l H6 S6 e6=>?_)
           . rw [gl] at z; cases z
           . wtm_at "gg"
             exact q _ (T5.trans S6)
           . rw [ze4 P ha,hgg,decide_eq_true rfl] at y; cases y
           . rw [ze4 P ha,hgg,decide_eq_true rfl] at y; cases y
 . wtm_at "gg"
   exact q _ (S1.trans S2)
def zjz (K : PySem.W.Frag) : Sp:=fun vs H Q _=>∃ x0,vs = [x0] /\ ∃ (a : Addr) (ns : List Int),x0 = .ref a /\ SqF K H a (ns.map V.int) /\ ns.length <= 63 /\ ∀ H',Q (.bl true) H'
theorem zoI (ns : List Int) (k : Nat) : (ns.map PyData.int).take k = (ns.take k).map PyData.int:=(List.map_take ..).symm
theorem zm9 {ns ms : List Int} (h : ns.Sublist ms) (h0 : ∀ n ∈ ms,0 <= n) : ns.sum <= ms.sum:=by
 induction h with
 | slnil=>exact Int.le_refl _
 | cons a _ ih =>
   have:=ih fun n hn=>h0 n (List.mem_cons_of_mem _ hn)
   have:=h0 a (List.mem_cons_self ..)
   rw [List.sum_cons]
   omega
 | cons_cons a _ ih =>
   have:=ih fun n hn=>h0 n (List.mem_cons_of_mem _ hn)
   rw [List.sum_cons,List.sum_cons]
   omega
structure Cut (ns : List Int) : Prop where
 some : 1 <= ns.length
 few : ns.length <= 4
 each : ∀ n ∈ ns,1 <= n /\ n <= 8
 sum : ns.sum <= 7
theorem zaz.cut {ns : List Int} (h : zaz ns) (z : ¬ 7 < (ns.take 4).sum) : Cut (ns.take 4) :=
 ⟨by have:=h.some; rw [List.length_take]; omega,by rw [List.length_take]; omega,fun n hn=>h.each n (List.mem_of_mem_take hn),by omega⟩
theorem zja {ns : List Int} (h : ns ≠ []) : ns.sum = ns.dropLast.sum + ns.getLast h:=by
 have:=congrArg List.sum (List.dropLast_concat_getLast h)
 rw [List.sum_append] at this
 simp at this
 omega
theorem zaz.cut' {ns : List Int} (h : zaz ns) (h7 : 7 < (ns.take 4).sum) (e3 : ∀ n ∈ ns,n <= 3) : Cut (ns.take 4).dropLast:=by
 have hs:=h.some
 have hne : ns.take 4 ≠ []:=fun e=>by
   have:=congrArg List.length e
   rw [List.length_take,List.length_nil] at this
   omega
 have hm : ∀ n ∈ ns.take 4,1 <= n /\ n <= 8:=fun n hn=>h.each n (List.mem_of_mem_take hn)
 have h1:=zja hne
 have h2:=hm _ (List.getLast_mem hne)
 have h3:=zm9 (List.take_sublist 4 ns) fun n hn=>by have:=h.each n hn; omega
 have h4:=h.sum
 have h5 : 2 <= (ns.take 4).length:=by
   rcases Nat.lt_or_ge (ns.take 4).length 2 with z | z
   . have hz : ∀ n ∈ ns.take 4,n <= 3:=fun n hn=>e3 n (List.mem_of_mem_take hn)
     generalize ns.take 4 = ms at hz z h7 hne
     match ms,z with
     | [],_=>exact absurd rfl hne
     | [n],_ =>
       exfalso
       have:=hz n (by simp)
       simp at h7
       omega
   . exact z
 exact ⟨by rw [List.length_dropLast]; omega,by rw [List.length_dropLast,List.length_take]; omega,fun n hn=>hm n (List.dropLast_subset _ hn),by omega⟩
theorem Cut.ok {ns : List Int} (h : Cut ns) : zaz (ns ++ [1]):=by
 have h1:=h.few
 have h2:=h.sum
 refine ⟨by simp,by simp; omega,fun n hn=>?_,by rw [List.sum_append]; simp; omega⟩
 rcases List.mem_append.mp hn with z | z
 . exact h.each n z
 . rw [List.mem_singleton] at z
   omega
theorem zki {K : PySem.W.Frag} {H : Hp} {Q : VK} {x : Rat} (q : Q (.bl (decide (1 < x))) H) : zcL K (.str (zcI x)) (.str (PySem.Str.ofString "rising")) H Q:=by
 unfold zcI
 by_cases z1 : 1 < x
 . rw [if_pos z1]; rw [decide_eq_true z1] at q; exact zca _ _ true (by rw [PyData.eqv]; decide) q
 . rw [if_neg z1]
   rw [decide_eq_false z1] at q
   by_cases z2 : x = 1
   . rw [if_pos z2]; exact zca _ _ false (by rw [PyData.eqv]; decide) q
   . rw [if_neg z2]; exact zca _ _ false (by rw [PyData.eqv]; decide) q
set_option maxHeartbeats 4000000 in
theorem zrD (T : Txt K mg a) : zbd P w K mg base CX0 14 a.law a.fd_law ["_law_script"] (zjz K):=by
 refine T.F_law.ok zer (fun vs H Q E h=>by obtain ⟨_,rfl,_⟩:=h; rfl) (fun cdv A outer s H vs Q E hr h=>?_)
 obtain ⟨x0,rfl,h⟩:=h
 have hu:=hr.units
 refine ⟨_,(zad (zc8 PassesOwn.never rfl (zcZ rfl T.z_range (zaa zac zab)) (zaA (i:=1) zer.nd rfl (Or.inl rfl)) (zad (zak (i:=2) zer.nd rfl (Or.inl rfl) (zaf (zlC T) (hr.mono (by decide)) rfl T.g_law_pen T.F_law_pen.kp T.b_law_pen .nil zaj (zaa (pv 0) (zaa (pv 1) zab))))
     (zad (zak (i:=3) zer.nd rfl (Or.inl rfl) (zaf (zg1 T) (hr.mono (by decide)) rfl T.g_law_any_rule T.F_law_any_rule.kp T.b_law_any_rule .nil zaj (zaa (pv 2) zab)))
     (zad (za4 (zax (show OpR _ (compareOp .Eq) (zcL K) from zbC hu) (zaf (zar T) (hr.mono (by decide)) rfl T.g_law_draw T.F_law_draw.kp T.b_law_draw .nil zaj (zaa (pv 2) (zaa zac zab))) zac (zaw _)) (zag (zak (i:=3) zer.nd rfl (Or.inl rfl) (zay (zaa (zaf (zaL T) (hr.mono (by decide)) rfl T.g_law_low T.F_law_low.kp T.b_law_low .nil zaj (zaa (zal zau zac (zaf (zar T) (hr.mono (by decide)) rfl T.g_law_draw T.F_law_draw.kp T.b_law_draw .nil zaj (zaa (pv 2) (zaa zac zab)))) (zaa zac zab))) (zaa (zaf (zaL T) (hr.mono (by decide)) rfl T.g_law_low T.F_law_low.kp T.b_law_low .nil zaj (zaa (zaf (zar T) (hr.mono (by decide)) rfl T.g_law_draw T.F_law_draw.kp T.b_law_draw .nil zaj (zaa (pv 2) (zaa zac zab))) (zaa zac zab))) zab))))) zaF)
     (zad (zak (i:=4) zer.nd rfl (Or.inl rfl) (zc5 (show SlR _ (zpc K) from zk3) (zaf (zjS T) (hr.mono (by decide)) rfl T.g_law_sizes T.F_law_sizes.kp T.b_law_sizes .nil zaj (zaa (pv 2) zab)) zdL (zdS zac)))
     (zad (za4 (zax zhv (zaE (show zaP _ (.builtin "sum") (zmg K) from ziC rfl) rfl T.z_sum zof (zaa (pv 4) zab)) zac (zaw _)) (zag (zak (i:=4) zer.nd rfl (Or.inl rfl) (zc5 (show SlR _ (zpc K) from zk3) (pv 4) zdL (zdS (zfq zdV zac))))) zaF)
     (zad (zak (i:=4) zer.nd rfl (Or.inl rfl) (zal (show OpR _ (binaryOp .Add) (znD K) from zqp) (pv 4) (zay (zaa zac zab))))
     (zad (zak (i:=5) zer.nd rfl (Or.inl rfl) (zaf (zeD T) (hr.mono (by decide)) rfl T.g_still T.F_still.kp T.b_still .nil zaj (zaa (pv 3) (zaa (pv 4) zab))))
     (zad (za4 (PW.pt (zhP (zax zoE (pv 5) zdY (zaw _)) (zhf (zax (show OpR _ (compareOp .NotEq) (zfu K) from zfK hu) (za0 (show zaP _ (.type "tuple") (zbl K) from za3) rfl T.z_tuple zbY (zaa (zc5 (show SlR _ (zpc K) from zk3) (zam zah (zam zah (zaf (zfL T) (hr.mono (by decide)) rfl T.g_law_round T.F_law_round.kp T.b_law_round .nil zaj (zaa (pv 3) (zaa (pv 4) (zaa (pv 5) zab)))) zac (fun _ _=>rfl)) (zfq zdV zac) (fun _ _=>rfl)) zdL (zdS (zfq zdV zac))) zab)) (pv 5) (zaw _))))) (zag (zan zeQ)) zaF)
     (zad (za4 (zdz (zb3 (zaf (zjv T) (hr.mono (by decide)) rfl T.g_law_right T.F_law_right.kp T.b_law_right .nil zaj (zaa (pv 3) (zaa (pv 4) (zaa (zaf (zfb T) (hr.mono (by decide)) rfl T.g_law_drawn_places T.F_law_drawn_places.kp T.b_law_drawn_places .nil zaj (zaa (pv 2) (zaa (pv 3) (zaa (pv 4) zab)))) zab)))))) (zag (zan zeQ)) zaF)
     (zag (za4 (PW.pt (zhP (zax (show OpR _ (compareOp .Eq) (zcL K) from zbC hu) (zaE (show zaP _ (.builtin "len") (zgt K) from zcA) rfl T.z_len zeG (zaa (pv 4) zab)) zac (zaw _)) (zhP (zax (show OpR _ (compareOp .Eq) (zcL K) from zbC hu) (zaf (zg5 T) (hr.mono (by decide)) rfl T.g_bend T.F_bend.kp T.b_bend .nil zaj (zaa (pv 3) zab)) zbD (zaw _)) (zhf (zdz (zb3 (zaf (zf1 T) (hr.mono (by decide)) rfl T.g_law_edge_right T.F_law_edge_right.kp T.b_law_edge_right .nil zaj (zaa (pv 3) (zaa (pv 4) zab))))))))) (zag (zan zeQ)) zaF))))))))))))
     (zag (zan zeQ))),?_⟩
 clear hu
 try clear hgd
 try dsimp only [za8,zaQ]
 rw [show start ["_law_script","_law_k","_law_pen_here","_law_rule_here","_law_sizes_here","_law_goal"] [x0] = [some x0,none,none,none,none,none] from rfl]
 obtain ⟨a',ns0,rfl,hs,hl,q⟩:=h
 wtm_at "gg"
 refine zec (n:=4) (by decide) (by decide) (fun i σ H'=>∃ o1 o2 o3 o4 o5,σ = [some (.ref a'),o1,o2,o3,o4,o5] /\ zaY H H') ⟨_,_,_,_,_,rfl,zaY.refl H⟩ ?_ ?_
 . rintro i σ H' hi ⟨o1,o2,o3,o4,o5,rfl,K1⟩
   wtm_at "gg"
   refine zlb (K1.sqF hs) hl (by omega) (by simp at hi; omega) (fun p H1 hp1 S1 p1=>?_)
   wtm_at "gg"
   refine zg3 p1 (by decide) (fun vr H2 ra rb E2 K2 P2 ir ok=>?_)
   have KA : zaY H H2:=K1.trans (S1.keep.trans K2)
   clear E2 K2 S1 hp1 p1 K1
   wtm_at "gg"
   all_goals first
     | (rename_i r3 H3 r30 r31 E3 K3 P3 z r4 H4 r40 r41 E4 K4 P4 v5 H5 x5 S5 i5 e5 b5 r6 H6 r60 r61 E6 K6 P6 v7 H7 x7 S7 i7 e7 b7;
        refine zcp (ds:=[N x5,N x7]) (by simp) (.cons ((i5.byN K6).by S7) (.cons i7 .nil)) (fun v8 H8 S8 i8=>?_);
        wtm_at "gg";
        have F : ∃ ra rb,zaY H2 H8 /\ Pen H8 p 20 /\ Is K H8 v8 (R ra rb) /\ zaK ra rb:=⟨x5,x7,K3.trans (K4.trans (S5.keep.trans (K6.trans (S7.keep.trans S8.keep)))),((P6.same S7).same S8).le (by omega),i8,zoN e5 e7 (by omega) (by omega) (by omega) (by omega)⟩;
        clear ok ir ra rb P2 r30 r31 E3 K3 P3 z r40 r41 E4 K4 P4 S5 i5 e5 b5 r60 r61 E6 K6 P6 S7 i7 e7 b7 S8 i8 vr)
     | (rename_i r3 H3 r30 r31 E3 K3 P3 z;
        have F : ∃ ra rb,zaY H2 H3 /\ Pen H3 p 20 /\ Is K H3 vr (R ra rb) /\ zaK ra rb:=⟨ra,rb,K3,P3.le (by omega),ir.thruR K3,ok⟩;
        clear ok ir ra rb P2 r30 r31 E3 K3 P3 z)
   all_goals
     obtain ⟨ra,rb,K4,P4,ir,ok⟩:=F
     have KB:=KA.trans K4
     refine zjh P4 (by omega) (fun vs H5 ms E5 K5 P5 is5 ok2 ok3=>?_)
     have ir5:=ir.thruR K5
     have KC:=KB.trans K5
     clear E5 K5 P4 ir KB KA K4
     wtm_at "gg"
     refine zmA is5 (fun v6 H6 S6 i6=>?_)
     rw [show (4 : Int) = ((4 : Nat) : Int) from rfl,zrf,zoI] at i6
     have i6 : Is K H6 v6 (TZ (ms.take 4)):=i6
     have ir6:=ir5.by S6
     have P6:=P5.same S6
     have KD:=KC.trans S6.keep
     clear ir5 is5 P5 KC S6
     wtm_at "gg"
     refine zjV i6 ?_
     wtm_at "gg"
     all_goals first
       | (rename_i z;
          refine zmA i6 (fun v7 H7 S7 i7=>?_);
          rw [zf8,<- List.map_dropLast] at i7;
          wtm_at "gg";
          have F : ∃ ks,zai H6 H7 /\ Is K H7 v7 (TZ ks) /\ Cut ks:=⟨_,S7,i7,ok2.cut' (by simpa using z) ok3⟩;
          clear z S7 i7)
       | (rename_i z;
          have F : ∃ ks,zai H6 H6 /\ Is K H6 v6 (TZ ks) /\ Cut ks:=⟨_,zai.refl _,i6,ok2.cut (by simpa using z)⟩;
          clear z)
     all_goals
       obtain ⟨ks,S7,i7,ck⟩:=F
       have ck4:=ck.few
       have ck1:=ck.some
       have sz:=ck.ok
       refine zcp (ds:=[PyData.int 1]) (by simp) (.cons (za5.mpr rfl) .nil) (fun v8 H8 S8 i8=>?_)
       refine zoC (i7.by S8) i8 (by rw [List.length_map]; simp; omega) (fun v9 H9 S9 i9=>?_)
       rw [show ks.map PyData.int ++ [PyData.int 1] = (ks ++ [1]).map PyData.int by simp] at i9
       have i9 : Is K H9 v9 (TZ (ks ++ [1])):=i9
       have hks : (ks ++ [1]).length = ks.length + 1:=by simp
       generalize ks ++ [1] = ns at i9 sz hks
       have T9:=S7.trans (S8.trans S9)
       have ir9:=ir6.by T9
       have P9:=P6.same T9
       have KE:=KD.trans T9.keep
       clear i6 i7 ir6 P6 KD S7 S8 S9 i8 ck T9 ok2 ok3
       have h1:=sz.some
       have h8:=sz.few
       have hsum:=sz.sum
       have hps:=sz.pos
       have n2 : 2 <= ns.length:=by omega
       wtm_at "gg"
       have wb : ∀ i,Bdr 290 ((zat ra rb ns).getD i 0) \/ ra ^ ns.sum.toNat = 1:=fun i=>by
         by_cases hF : ra ^ ns.sum.toNat = 1
         . exact .inr hF
         . refine .inl ?_
           rcases Nat.lt_or_ge i (ns.length - 1) with z | z
           . rw [zc7 (by rw [zbP h1]; omega)]
             have bF : Bdr 49 (ra ^ ns.sum.toNat):=(zgb ok _).mono (by omega)
             exact ((zbW ok sz i).div (Bdr.one.sub bF) (fun e=>hF (by grind))).mono (by omega)
           . rw [List.getD_eq_getElem?_getD,List.getElem?_eq_none (by rw [zbP h1]; omega)]
             exact Bdr.zero.mono (by decide)
       refine zeK ir9 i9 (zbA ok sz) (by omega) hsum (fun hF H10 S10=>?_) (fun hF v10 H10 S10 i10=>?_)
       . wtm_at "gg"
         have T : zai H9 H10:=S10
         refine zdf (P9.same T) (by omega) (ir9.by T) (i9.by T) ok sz n2 (fun v20 H20 xs E20 K20 i20 hl20 b20=>?_)
         have ir20:=(ir9.by T).thruR K20
         have is20 : Is K H20 v9 (TZ ns):=(i9.by T).thruI K20
         have KF:=(KE.trans T.keep).trans K20
         wtm_at "gg"
         refine zfX ir20 is20 i20 ok sz hl20 b20 (Cm.of_bdr b20) (by omega) (fun H21 S21=>?_)
         have KG:=KF.trans S21.keep
         have ir21:=ir20.by S21
         have is21:=is20.by S21
         wtm_at "gg"
         refine zd6 is21 ?_
         wtm_at "gg"
         . rename_i z
           have z2 : ns.length = 2:=by omega
           obtain ⟨n0,n1,rfl⟩ : ∃ n0 n1,ns = [n0,n1]:=by
             match ns,z2 with
             | [x,y],_=>exact ⟨x,y,rfl⟩
           have hsum' : n0 + n1 <= 8:=by simpa using hsum
           have hn0:=sz.each n0 (by simp)
           have hn1:=sz.each n1 (by simp)
           refine zdG ir21 (ok.ba.mono (by decide)) ?_
           generalize hb : zcI ra = sb
           wtm_at "gg"
           rw [<- hb]
           refine zki ?_
           by_cases ha : 1 < ra
           . rw [decide_eq_true ha]
             wtm_at "gg"
             refine zdT ir21 is21 ⟨ok,⟨hn0.1,hn1.1,hsum'⟩⟩ ha (fun H22 S22=>?_)
             wtm_at "gg"
             exact ⟨_,_,_,_,_,rfl,KG.trans S22.keep⟩
           . rw [decide_eq_false ha]
             wtm_at "gg"
             exact ⟨_,_,_,_,_,rfl,KG⟩
         . exact ⟨_,_,_,_,_,rfl,KG⟩
       . wtm_at "gg"
         . have bs : ∀ i,Bdr 290 ((zat ra rb ns).getD i 0):=fun i=>(wb i).resolve_right hF
           have hsl : (zat ra rb ns).length = ns.length - 1:=zbP h1
           clear wb
           generalize hS : zat ra rb ns = ss at i10 bs hsl
           refine zfM (ir9.by S10) (i9.by S10) i10 ok.ba ok.bb sz (by omega) (fun i=>(bs i).mono (by decide)) (fun v11 H11 S11 i11=>?_)
           wtm_at "gg"
           refine zcl (j:=1) i11 rfl (fun v12 i12=>?_)
           wtm_at "gg"
           refine zgu i12 (by rw [zco]; omega) (fun v13 i13=>?_)
           rw [zco,zdW (by omega),show ns.length - 1 + 1 = ns.length by omega,zhu _ _ _ _ (by simp; omega)] at i13
           wtm_at "gg"
           refine .inl (zhb i13 (fun l14 H14 ys14 n14 S14 e14 t14=>?_))
           rw [zf8,<- List.map_dropLast] at t14
           wtm_at "gg"
           refine zbu (zcn e14 t14) (fun v15 H15 S15 i15=>?_)
           have i15 : Is K H15 v15 (TN (zaJ ra rb ns ss)):=i15
           rw [<- zfF (by omega) sz.nn,zmf hF (by omega) 1,hS,zj4] at i15
           wtm_at "gg"
           refine zpy i15 (i10.by (S11.trans (S14.trans S15))) ?_
           rw [show (!decide (ss = ss)) = false by rw [decide_eq_true (Eq.refl ss)]; rfl]
           wtm_at "gg"
           have T : zai H9 H15:=S10.trans (S11.trans (S14.trans S15))
           refine zdf (P9.same T) (by omega) (ir9.by T) (i9.by T) ok sz n2 (fun v20 H20 xs E20 K20 i20 hl20 b20=>?_)
           have ir20:=(ir9.by T).thruR K20
           have is20 : Is K H20 v9 (TZ ns):=(i9.by T).thruI K20
           have KF:=(KE.trans T.keep).trans K20
           wtm_at "gg"
           refine zfX ir20 is20 i20 ok sz hl20 b20 (Cm.of_bdr b20) (by omega) (fun H21 S21=>?_)
           have KG:=KF.trans S21.keep
           have ir21:=ir20.by S21
           have is21:=is20.by S21
           wtm_at "gg"
           refine zd6 is21 ?_
           wtm_at "gg"
           . rename_i z
             have z2 : ns.length = 2:=by omega
             obtain ⟨n0,n1,rfl⟩ : ∃ n0 n1,ns = [n0,n1]:=by
               match ns,z2 with
               | [x,y],_=>exact ⟨x,y,rfl⟩
             have hsum' : n0 + n1 <= 8:=by simpa using hsum
             have hn0:=sz.each n0 (by simp)
             have hn1:=sz.each n1 (by simp)
             refine zdG ir21 (ok.ba.mono (by decide)) ?_
             generalize hb : zcI ra = sb
             wtm_at "gg"
             rw [<- hb]
             refine zki ?_
             by_cases ha : 1 < ra
             . rw [decide_eq_true ha]
               wtm_at "gg"
               refine zdT ir21 is21 ⟨ok,⟨hn0.1,hn1.1,hsum'⟩⟩ ha (fun H22 S22=>?_)
               wtm_at "gg"
               exact ⟨_,_,_,_,_,rfl,KG.trans S22.keep⟩
             . rw [decide_eq_false ha]
               wtm_at "gg"
               exact ⟨_,_,_,_,_,rfl,KG⟩
           . exact ⟨_,_,_,_,_,rfl,KG⟩
         . rename_i y
           obtain ⟨_,_,e,_⟩:=zaT.mp (show Is K H10 v10 (.tuple _) from i10)
           rw [e] at y; cases y
 . rintro σ H' ⟨o1,o2,o3,o4,o5,rfl,K1⟩
   wtm_at "gg"
   exact q _
end
end G
namespace G
open PySem PySem.Spec PyProof.Rows L2 GM
theorem zgG {us : List Value} (h : us.length = 1) : ∃ a,us = [a]:=by
 cases us with
 | nil=>cases h
 | cons a t=>exact ⟨a,by rw [List.length_eq_zero_iff.mp (Nat.succ.inj h)]⟩
theorem zcj {us : List Value} (h : us.length = 2) : ∃ a0 a1,us = [a0,a1]:=by
 cases us with
 | nil=>cases h
 | cons a0 t =>
   obtain ⟨a1,e⟩:=zgG (Nat.succ.inj h)
   exact ⟨a0,a1,by rw [e]⟩
theorem zde {us : List Value} (h : us.length = 3) : ∃ a0 a1 a2,us = [a0,a1,a2]:=by
 cases us with
 | nil=>cases h
 | cons a0 t =>
   obtain ⟨a1,a2,e⟩:=zcj (Nat.succ.inj h)
   exact ⟨a0,a1,a2,by rw [e]⟩
theorem zqV {us : List Value} (h : us.length = 4) : ∃ a0 a1 a2 a3,us = [a0,a1,a2,a3]:=by
 cases us with
 | nil=>cases h
 | cons a0 t =>
   obtain ⟨a1,a2,a3,e⟩:=zde (Nat.succ.inj h)
   exact ⟨a0,a1,a2,a3,by rw [e]⟩
set_option maxHeartbeats 8000000 in
theorem all_mk {l : PySem.W.OpenLaw} {w : World} {K : PySem.W.Frag} {h : Heap} {mg : Str -> Option Value} {fa : Addr} (X : K.In h) (G : h.Ns mainGlobals mg) (hfa : mg "law" = some (.ref fa))
   {f0 : Addr} {od0 an0 : Option Addr} {sl0 : Array (Option Value)} {oc0 kV0 dc0 pm0 cd0 ct0 : Value}
   {f1 : Addr} {od1 an1 : Option Addr} {sl1 : Array (Option Value)} {oc1 kV1 dc1 pm1 cd1 ct1 : Value}
   {f2 : Addr} {od2 an2 : Option Addr} {sl2 : Array (Option Value)} {oc2 kV2 dc2 pm2 cd2 ct2 : Value}
   {f3 : Addr} {od3 an3 : Option Addr} {sl3 : Array (Option Value)} {oc3 kV3 dc3 pm3 cd3 ct3 : Value}
   {f4 : Addr} {od4 an4 : Option Addr} {sl4 : Array (Option Value)} {oc4 kV4 dc4 pm4 cd4 ct4 : Value}
   {f5 : Addr} {od5 an5 : Option Addr} {sl5 : Array (Option Value)} {oc5 kV5 dc5 pm5 cd5 ct5 : Value}
   {f6 : Addr} {od6 an6 : Option Addr} {sl6 : Array (Option Value)} {oc6 kV6 dc6 pm6 cd6 ct6 : Value}
   {f7 : Addr} {od7 an7 : Option Addr} {sl7 : Array (Option Value)} {oc7 kV7 dc7 pm7 cd7 ct7 : Value}
   {f8 : Addr} {od8 an8 : Option Addr} {sl8 : Array (Option Value)} {oc8 kV8 dc8 pm8 cd8 ct8 : Value}
   {f9 : Addr} {od9 an9 : Option Addr} {sl9 : Array (Option Value)} {oc9 kV9 dc9 pm9 cd9 ct9 : Value}
   {f10 : Addr} {od10 an10 : Option Addr} {sl10 : Array (Option Value)} {oc10 kV10 dc10 pm10 cd10 ct10 : Value}
   {f11 : Addr} {od11 an11 : Option Addr} {sl11 : Array (Option Value)} {oc11 kV11 dc11 pm11 cd11 ct11 : Value}
   {f12 : Addr} {od12 an12 : Option Addr} {sl12 : Array (Option Value)} {oc12 kV12 dc12 pm12 cd12 ct12 : Value}
   {f13 : Addr} {od13 an13 : Option Addr} {sl13 : Array (Option Value)} {oc13 kV13 dc13 pm13 cd13 ct13 : Value}
   {f14 : Addr} {od14 an14 : Option Addr} {sl14 : Array (Option Value)} {oc14 kV14 dc14 pm14 cd14 ct14 : Value}
   {f15 : Addr} {od15 an15 : Option Addr} {sl15 : Array (Option Value)} {oc15 kV15 dc15 pm15 cd15 ct15 : Value}
   {f16 : Addr} {od16 an16 : Option Addr} {sl16 : Array (Option Value)} {oc16 kV16 dc16 pm16 cd16 ct16 : Value}
   {f17 : Addr} {od17 an17 : Option Addr} {sl17 : Array (Option Value)} {oc17 kV17 dc17 pm17 cd17 ct17 : Value}
   {f18 : Addr} {od18 an18 : Option Addr} {sl18 : Array (Option Value)} {oc18 kV18 dc18 pm18 cd18 ct18 : Value}
   {f19 : Addr} {od19 an19 : Option Addr} {sl19 : Array (Option Value)} {oc19 kV19 dc19 pm19 cd19 ct19 : Value}
   {f20 : Addr} {od20 an20 : Option Addr} {sl20 : Array (Option Value)} {oc20 kV20 dc20 pm20 cd20 ct20 : Value}
   {f21 : Addr} {od21 an21 : Option Addr} {sl21 : Array (Option Value)} {oc21 kV21 dc21 pm21 cd21 ct21 : Value}
   {f22 : Addr} {od22 an22 : Option Addr} {sl22 : Array (Option Value)} {oc22 kV22 dc22 pm22 cd22 ct22 : Value}
   {f23 : Addr} {od23 an23 : Option Addr} {sl23 : Array (Option Value)} {oc23 kV23 dc23 pm23 cd23 ct23 : Value}
   {f24 : Addr} {od24 an24 : Option Addr} {sl24 : Array (Option Value)} {oc24 kV24 dc24 pm24 cd24 ct24 : Value}
   {f25 : Addr} {od25 an25 : Option Addr} {sl25 : Array (Option Value)} {oc25 kV25 dc25 pm25 cd25 ct25 : Value}
   {f26 : Addr} {od26 an26 : Option Addr} {sl26 : Array (Option Value)} {oc26 kV26 dc26 pm26 cd26 ct26 : Value}
   {f27 : Addr} {od27 an27 : Option Addr} {sl27 : Array (Option Value)} {oc27 kV27 dc27 pm27 cd27 ct27 : Value}
   {f28 : Addr} {od28 an28 : Option Addr} {sl28 : Array (Option Value)} {oc28 kV28 dc28 pm28 cd28 ct28 : Value}
   {f29 : Addr} {od29 an29 : Option Addr} {sl29 : Array (Option Value)} {oc29 kV29 dc29 pm29 cd29 ct29 : Value}
   {f30 : Addr} {od30 an30 : Option Addr} {sl30 : Array (Option Value)} {oc30 kV30 dc30 pm30 cd30 ct30 : Value}
   {f31 : Addr} {od31 an31 : Option Addr} {sl31 : Array (Option Value)} {oc31 kV31 dc31 pm31 cd31 ct31 : Value}
   {f32 : Addr} {od32 an32 : Option Addr} {sl32 : Array (Option Value)} {oc32 kV32 dc32 pm32 cd32 ct32 : Value}
   {f33 : Addr} {od33 an33 : Option Addr} {sl33 : Array (Option Value)} {oc33 kV33 dc33 pm33 cd33 ct33 : Value}
   {f34 : Addr} {od34 an34 : Option Addr} {sl34 : Array (Option Value)} {oc34 kV34 dc34 pm34 cd34 ct34 : Value}
   {f35 : Addr} {od35 an35 : Option Addr} {sl35 : Array (Option Value)} {oc35 kV35 dc35 pm35 cd35 ct35 : Value}
   {f36 : Addr} {od36 an36 : Option Addr} {sl36 : Array (Option Value)} {oc36 kV36 dc36 pm36 cd36 ct36 : Value}
   {f37 : Addr} {od37 an37 : Option Addr} {sl37 : Array (Option Value)} {oc37 kV37 dc37 pm37 cd37 ct37 : Value}
   {f38 : Addr} {od38 an38 : Option Addr} {sl38 : Array (Option Value)} {oc38 kV38 dc38 pm38 cd38 ct38 : Value}
   {f39 : Addr} {od39 an39 : Option Addr} {sl39 : Array (Option Value)} {oc39 kV39 dc39 pm39 cd39 ct39 : Value}
   {f40 : Addr} {od40 an40 : Option Addr} {sl40 : Array (Option Value)} {oc40 kV40 dc40 pm40 cd40 ct40 : Value}
   {f41 : Addr} {od41 an41 : Option Addr} {sl41 : Array (Option Value)} {oc41 kV41 dc41 pm41 cd41 ct41 : Value}
   {f42 : Addr} {od42 an42 : Option Addr} {sl42 : Array (Option Value)} {oc42 kV42 dc42 pm42 cd42 ct42 : Value}
   {f43 : Addr} {od43 an43 : Option Addr} {sl43 : Array (Option Value)} {oc43 kV43 dc43 pm43 cd43 ct43 : Value}
   {f44 : Addr} {od44 an44 : Option Addr} {sl44 : Array (Option Value)} {oc44 kV44 dc44 pm44 cd44 ct44 : Value}
   {e0 : Addr}
   {e1 : Addr}
   {e2 : Addr}
   {e3 : Addr}
   {e4 : Addr}
   {e5 : Addr}
   {e6 : Addr}
   {e7 : Addr}
   {e8 : Addr}
   {e9 : Addr}
   {g0 : Addr} {gn0 : Nat} {gd0 : Option Addr} {gs0 : Array (Option Value)} {tk0_0 tk0_1 : Tok}
   {g1 : Addr} {gn1 : Nat} {gd1 : Option Addr} {gs1 : Array (Option Value)} {tk1_0 tk1_1 : Tok}
   {tk2 : Tok}
   (a0 : PySem.W.nsIn K mainGlobals "greatest_divisor" = some (some (.ref f0)))
   (l0 : K.lookup f0 = some ⟨oc0,od0,.func (PySem.W.fnOf "greatest_divisor" "greatest_divisor" (zas zbb) (zao zbb) (zae zbb) .none kV0 dc0 pm0 an0 cd0 ct0),sl0⟩)
   (c0 : PySem.W.codeIn K cd0 "greatest_divisor" = true)
   (k0 : PySem.W.keepIn K (.ref f0) = true)
   (a1 : PySem.W.nsIn K mainGlobals "plus" = some (some (.ref f1)))
   (l1 : K.lookup f1 = some ⟨oc1,od1,.func (PySem.W.fnOf "plus" "plus" (zas zgl) (zao zgl) (zae zgl) .none kV1 dc1 pm1 an1 cd1 ct1),sl1⟩)
   (c1 : PySem.W.codeIn K cd1 "plus" = true)
   (k1 : PySem.W.keepIn K (.ref f1) = true)
   (a2 : PySem.W.nsIn K mainGlobals "minus" = some (some (.ref f2)))
   (l2 : K.lookup f2 = some ⟨oc2,od2,.func (PySem.W.fnOf "minus" "minus" (zas ze3) (zao ze3) (zae ze3) .none kV2 dc2 pm2 an2 cd2 ct2),sl2⟩)
   (c2 : PySem.W.codeIn K cd2 "minus" = true)
   (k2 : PySem.W.keepIn K (.ref f2) = true)
   (a3 : PySem.W.nsIn K mainGlobals "times" = some (some (.ref f3)))
   (l3 : K.lookup f3 = some ⟨oc3,od3,.func (PySem.W.fnOf "times" "times" (zas ze6) (zao ze6) (zae ze6) .none kV3 dc3 pm3 an3 cd3 ct3),sl3⟩)
   (c3 : PySem.W.codeIn K cd3 "times" = true)
   (k3 : PySem.W.keepIn K (.ref f3) = true)
   (a4 : PySem.W.nsIn K mainGlobals "over" = some (some (.ref f4)))
   (l4 : K.lookup f4 = some ⟨oc4,od4,.func (PySem.W.fnOf "over" "over" (zas zgv) (zao zgv) (zae zgv) .none kV4 dc4 pm4 an4 cd4 ct4),sl4⟩)
   (c4 : PySem.W.codeIn K cd4 "over" = true)
   (k4 : PySem.W.keepIn K (.ref f4) = true)
   (a5 : PySem.W.nsIn K mainGlobals "less" = some (some (.ref f5)))
   (l5 : K.lookup f5 = some ⟨oc5,od5,.func (PySem.W.fnOf "less" "less" (zas zgE) (zao zgE) (zae zgE) .none kV5 dc5 pm5 an5 cd5 ct5),sl5⟩)
   (c5 : PySem.W.codeIn K cd5 "less" = true)
   (k5 : PySem.W.keepIn K (.ref f5) = true)
   (a6 : PySem.W.nsIn K mainGlobals "bend" = some (some (.ref f6)))
   (l6 : K.lookup f6 = some ⟨oc6,od6,.func (PySem.W.fnOf "bend" "bend" (zas zgy) (zao zgy) (zae zgy) .none kV6 dc6 pm6 an6 cd6 ct6),sl6⟩)
   (c6 : PySem.W.codeIn K cd6 "bend" = true)
   (k6 : PySem.W.keepIn K (.ref f6) = true)
   (a7 : PySem.W.nsIn K mainGlobals "pushes" = some (some (.ref f7)))
   (l7 : K.lookup f7 = some ⟨oc7,od7,.func (PySem.W.fnOf "pushes" "pushes" (zas zd1) (zao zd1) (zae zd1) .none kV7 dc7 pm7 an7 cd7 ct7),sl7⟩)
   (c7 : PySem.W.codeIn K cd7 "pushes" = true)
   (k7 : PySem.W.keepIn K (.ref f7) = true)
   (a8 : PySem.W.nsIn K mainGlobals "pushed_by" = some (some (.ref f8)))
   (l8 : K.lookup f8 = some ⟨oc8,od8,.func (PySem.W.fnOf "pushed_by" "pushed_by" (zas zcs) (zao zcs) (zae zcs) .none kV8 dc8 pm8 an8 cd8 ct8),sl8⟩)
   (c8 : PySem.W.codeIn K cd8 "pushed_by" = true)
   (k8 : PySem.W.keepIn K (.ref f8) = true)
   (a9 : PySem.W.nsIn K mainGlobals "phases_behind" = some (some (.ref f9)))
   (l9 : K.lookup f9 = some ⟨oc9,od9,.func (PySem.W.fnOf "phases_behind" "phases_behind" (zas zbj) (zao zbj) (zae zbj) .none kV9 dc9 pm9 an9 cd9 ct9),sl9⟩)
   (c9 : PySem.W.codeIn K cd9 "phases_behind" = true)
   (k9 : PySem.W.keepIn K (.ref f9) = true)
   (a10 : PySem.W.nsIn K mainGlobals "stands" = some (some (.ref f10)))
   (l10 : K.lookup f10 = some ⟨oc10,od10,.func (PySem.W.fnOf "stands" "stands" (zas zd3) (zao zd3) (zae zd3) .none kV10 dc10 pm10 an10 cd10 ct10),sl10⟩)
   (c10 : PySem.W.codeIn K cd10 "stands" = true)
   (k10 : PySem.W.keepIn K (.ref f10) = true)
   (a11 : PySem.W.nsIn K mainGlobals "round_behind" = some (some (.ref f11)))
   (l11 : K.lookup f11 = some ⟨oc11,od11,.func (PySem.W.fnOf "round_behind" "round_behind" (zas zbO) (zao zbO) (zae zbO) .none kV11 dc11 pm11 an11 cd11 ct11),sl11⟩)
   (c11 : PySem.W.codeIn K cd11 "round_behind" = true)
   (k11 : PySem.W.keepIn K (.ref f11) = true)
   (a12 : PySem.W.nsIn K mainGlobals "tops" = some (some (.ref f12)))
   (l12 : K.lookup f12 = some ⟨oc12,od12,.func (PySem.W.fnOf "tops" "tops" (zas zfH) (zao zfH) (zae zfH) .none kV12 dc12 pm12 an12 cd12 ct12),sl12⟩)
   (c12 : PySem.W.codeIn K cd12 "tops" = true)
   (k12 : PySem.W.keepIn K (.ref f12) = true)
   (a13 : PySem.W.nsIn K mainGlobals "is_free" = some (some (.ref f13)))
   (l13 : K.lookup f13 = some ⟨oc13,od13,.func (PySem.W.fnOf "is_free" "is_free" (zas zcu) (zao zcu) (zae zcu) .none kV13 dc13 pm13 an13 cd13 ct13),sl13⟩)
   (c13 : PySem.W.codeIn K cd13 "is_free" = true)
   (k13 : PySem.W.keepIn K (.ref f13) = true)
   (a14 : PySem.W.nsIn K mainGlobals "round_map" = some (some (.ref f14)))
   (l14 : K.lookup f14 = some ⟨oc14,od14,.func (PySem.W.fnOf "round_map" "round_map" (zas zb8) (zao zb8) (zae zb8) .none kV14 dc14 pm14 an14 cd14 ct14),sl14⟩)
   (c14 : PySem.W.codeIn K cd14 "round_map" = true)
   (k14 : PySem.W.keepIn K (.ref f14) = true)
   (a15 : PySem.W.nsIn K mainGlobals "still" = some (some (.ref f15)))
   (l15 : K.lookup f15 = some ⟨oc15,od15,.func (PySem.W.fnOf "still" "still" (zas zes) (zao zes) (zae zes) .none kV15 dc15 pm15 an15 cd15 ct15),sl15⟩)
   (c15 : PySem.W.codeIn K cd15 "still" = true)
   (k15 : PySem.W.keepIn K (.ref f15) = true)
   (a16 : PySem.W.nsIn K mainGlobals "weighed" = some (some (.ref f16)))
   (l16 : K.lookup f16 = some ⟨oc16,od16,.func (PySem.W.fnOf "weighed" "weighed" (zas zcP) (zao zcP) (zae zcP) .none kV16 dc16 pm16 an16 cd16 ct16),sl16⟩)
   (c16 : PySem.W.codeIn K cd16 "weighed" = true)
   (k16 : PySem.W.keepIn K (.ref f16) = true)
   (a17 : PySem.W.nsIn K mainGlobals "led_on" = some (some (.ref f17)))
   (l17 : K.lookup f17 = some ⟨oc17,od17,.func (PySem.W.fnOf "led_on" "led_on" (zas zd5) (zao zd5) (zae zd5) .none kV17 dc17 pm17 an17 cd17 ct17),sl17⟩)
   (c17 : PySem.W.codeIn K cd17 "led_on" = true)
   (k17 : PySem.W.keepIn K (.ref f17) = true)
   (a18 : PySem.W.nsIn K mainGlobals "draws_freely" = some (some (.ref f18)))
   (l18 : K.lookup f18 = some ⟨oc18,od18,.func (PySem.W.fnOf "draws_freely" "draws_freely" (zas zbw) (zao zbw) (zae zbw) .none kV18 dc18 pm18 an18 cd18 ct18),sl18⟩)
   (c18 : PySem.W.codeIn K cd18 "draws_freely" = true)
   (k18 : PySem.W.keepIn K (.ref f18) = true)
   (a19 : PySem.W.nsIn K mainGlobals "stays_free" = some (some (.ref f19)))
   (l19 : K.lookup f19 = some ⟨oc19,od19,.func (PySem.W.fnOf "stays_free" "stays_free" (zas zbT) (zao zbT) (zae zbT) .none kV19 dc19 pm19 an19 cd19 ct19),sl19⟩)
   (c19 : PySem.W.codeIn K cd19 "stays_free" = true)
   (k19 : PySem.W.keepIn K (.ref f19) = true)
   (a20 : PySem.W.nsIn K mainGlobals "free_rounds" = some (some (.ref f20)))
   (l20 : K.lookup f20 = some ⟨oc20,od20,.func (PySem.W.fnOf "free_rounds" "free_rounds" (zas zbZ) (zao zbZ) (zae zbZ) .none kV20 dc20 pm20 an20 cd20 ct20),sl20⟩)
   (c20 : PySem.W.codeIn K cd20 "free_rounds" = true)
   (k20 : PySem.W.keepIn K (.ref f20) = true)
   (a21 : PySem.W.nsIn K mainGlobals "ahead_of" = some (some (.ref f21)))
   (l21 : K.lookup f21 = some ⟨oc21,od21,.func (PySem.W.fnOf "ahead_of" "ahead_of" (zas zcT) (zao zcT) (zae zcT) .none kV21 dc21 pm21 an21 cd21 ct21),sl21⟩)
   (c21 : PySem.W.codeIn K cd21 "ahead_of" = true)
   (k21 : PySem.W.keepIn K (.ref f21) = true)
   (a22 : PySem.W.nsIn K mainGlobals "greater_of" = some (some (.ref f22)))
   (l22 : K.lookup f22 = some ⟨oc22,od22,.func (PySem.W.fnOf "greater_of" "greater_of" (zas zce) (zao zce) (zae zce) .none kV22 dc22 pm22 an22 cd22 ct22),sl22⟩)
   (c22 : PySem.W.codeIn K cd22 "greater_of" = true)
   (k22 : PySem.W.keepIn K (.ref f22) = true)
   (a23 : PySem.W.nsIn K mainGlobals "lesser_of" = some (some (.ref f23)))
   (l23 : K.lookup f23 = some ⟨oc23,od23,.func (PySem.W.fnOf "lesser_of" "lesser_of" (zas zct) (zao zct) (zae zct) .none kV23 dc23 pm23 an23 cd23 ct23),sl23⟩)
   (c23 : PySem.W.codeIn K cd23 "lesser_of" = true)
   (k23 : PySem.W.keepIn K (.ref f23) = true)
   (a24 : PySem.W.nsIn K mainGlobals "free_ends" = some (some (.ref f24)))
   (l24 : K.lookup f24 = some ⟨oc24,od24,.func (PySem.W.fnOf "free_ends" "free_ends" (zas zcy) (zao zcy) (zae zcy) .none kV24 dc24 pm24 an24 cd24 ct24),sl24⟩)
   (c24 : PySem.W.codeIn K cd24 "free_ends" = true)
   (k24 : PySem.W.keepIn K (.ref f24) = true)
   (a25 : PySem.W.nsIn K mainGlobals "stretch" = some (some (.ref f25)))
   (l25 : K.lookup f25 = some ⟨oc25,od25,.func (PySem.W.fnOf "stretch" "stretch" (zas zdp) (zao zdp) (zae zdp) .none kV25 dc25 pm25 an25 cd25 ct25),sl25⟩)
   (c25 : PySem.W.codeIn K cd25 "stretch" = true)
   (k25 : PySem.W.keepIn K (.ref f25) = true)
   (a26 : PySem.W.nsIn K mainGlobals "_law_pen" = some (some (.ref f26)))
   (l26 : K.lookup f26 = some ⟨oc26,od26,.func (PySem.W.fnOf "_law_pen" "_law_pen" (zas zdt) (zao zdt) (zae zdt) .none kV26 dc26 pm26 an26 cd26 ct26),sl26⟩)
   (c26 : PySem.W.codeIn K cd26 "_law_pen" = true)
   (k26 : PySem.W.keepIn K (.ref f26) = true)
   (a27 : PySem.W.nsIn K mainGlobals "_law_draw" = some (some (.ref f27)))
   (l27 : K.lookup f27 = some ⟨oc27,od27,.func (PySem.W.fnOf "_law_draw" "_law_draw" (zas zc1) (zao zc1) (zae zc1) .none kV27 dc27 pm27 an27 cd27 ct27),sl27⟩)
   (c27 : PySem.W.codeIn K cd27 "_law_draw" = true)
   (k27 : PySem.W.keepIn K (.ref f27) = true)
   (a28 : PySem.W.nsIn K mainGlobals "_law_low" = some (some (.ref f28)))
   (l28 : K.lookup f28 = some ⟨oc28,od28,.func (PySem.W.fnOf "_law_low" "_law_low" (zas zds) (zao zds) (zae zds) .none kV28 dc28 pm28 an28 cd28 ct28),sl28⟩)
   (c28 : PySem.W.codeIn K cd28 "_law_low" = true)
   (k28 : PySem.W.keepIn K (.ref f28) = true)
   (a29 : PySem.W.nsIn K mainGlobals "_law_less" = some (some (.ref f29)))
   (l29 : K.lookup f29 = some ⟨oc29,od29,.func (PySem.W.fnOf "_law_less" "_law_less" (zas zcV) (zao zcV) (zae zcV) .none kV29 dc29 pm29 an29 cd29 ct29),sl29⟩)
   (c29 : PySem.W.codeIn K cd29 "_law_less" = true)
   (k29 : PySem.W.keepIn K (.ref f29) = true)
   (a30 : PySem.W.nsIn K mainGlobals "_law_plus" = some (some (.ref f30)))
   (l30 : K.lookup f30 = some ⟨oc30,od30,.func (PySem.W.fnOf "_law_plus" "_law_plus" (zas zcQ) (zao zcQ) (zae zcQ) .none kV30 dc30 pm30 an30 cd30 ct30),sl30⟩)
   (c30 : PySem.W.codeIn K cd30 "_law_plus" = true)
   (k30 : PySem.W.keepIn K (.ref f30) = true)
   (a31 : PySem.W.nsIn K mainGlobals "_law_kind" = some (some (.ref f31)))
   (l31 : K.lookup f31 = some ⟨oc31,od31,.func (PySem.W.fnOf "_law_kind" "_law_kind" (zas zcq) (zao zcq) (zae zcq) .none kV31 dc31 pm31 an31 cd31 ct31),sl31⟩)
   (c31 : PySem.W.codeIn K cd31 "_law_kind" = true)
   (k31 : PySem.W.keepIn K (.ref f31) = true)
   (a32 : PySem.W.nsIn K mainGlobals "_law_rule" = some (some (.ref f32)))
   (l32 : K.lookup f32 = some ⟨oc32,od32,.func (PySem.W.fnOf "_law_rule" "_law_rule" (zas zcO) (zao zcO) (zae zcO) .none kV32 dc32 pm32 an32 cd32 ct32),sl32⟩)
   (c32 : PySem.W.codeIn K cd32 "_law_rule" = true)
   (k32 : PySem.W.keepIn K (.ref f32) = true)
   (a33 : PySem.W.nsIn K mainGlobals "_law_any_rule" = some (some (.ref f33)))
   (l33 : K.lookup f33 = some ⟨oc33,od33,.func (PySem.W.fnOf "_law_any_rule" "_law_any_rule" (zas zbL) (zao zbL) (zae zbL) .none kV33 dc33 pm33 an33 cd33 ct33),sl33⟩)
   (c33 : PySem.W.codeIn K cd33 "_law_any_rule" = true)
   (k33 : PySem.W.keepIn K (.ref f33) = true)
   (a34 : PySem.W.nsIn K mainGlobals "_law_sizes" = some (some (.ref f34)))
   (l34 : K.lookup f34 = some ⟨oc34,od34,.func (PySem.W.fnOf "_law_sizes" "_law_sizes" (zas zcz) (zao zcz) (zae zcz) .none kV34 dc34 pm34 an34 cd34 ct34),sl34⟩)
   (c34 : PySem.W.codeIn K cd34 "_law_sizes" = true)
   (k34 : PySem.W.keepIn K (.ref f34) = true)
   (a35 : PySem.W.nsIn K mainGlobals "_law_places" = some (some (.ref f35)))
   (l35 : K.lookup f35 = some ⟨oc35,od35,.func (PySem.W.fnOf "_law_places" "_law_places" (zas zbS) (zao zbS) (zae zbS) .none kV35 dc35 pm35 an35 cd35 ct35),sl35⟩)
   (c35 : PySem.W.codeIn K cd35 "_law_places" = true)
   (k35 : PySem.W.keepIn K (.ref f35) = true)
   (a36 : PySem.W.nsIn K mainGlobals "_law_round" = some (some (.ref f36)))
   (l36 : K.lookup f36 = some ⟨oc36,od36,.func (PySem.W.fnOf "_law_round" "_law_round" (zas zbq) (zao zbq) (zae zbq) .none kV36 dc36 pm36 an36 cd36 ct36),sl36⟩)
   (c36 : PySem.W.codeIn K cd36 "_law_round" = true)
   (k36 : PySem.W.keepIn K (.ref f36) = true)
   (a37 : PySem.W.nsIn K mainGlobals "_law_led" = some (some (.ref f37)))
   (l37 : K.lookup f37 = some ⟨oc37,od37,.func (PySem.W.fnOf "_law_led" "_law_led" (zas zdq) (zao zdq) (zae zdq) .none kV37 dc37 pm37 an37 cd37 ct37),sl37⟩)
   (c37 : PySem.W.codeIn K cd37 "_law_led" = true)
   (k37 : PySem.W.keepIn K (.ref f37) = true)
   (a38 : PySem.W.nsIn K mainGlobals "_law_within" = some (some (.ref f38)))
   (l38 : K.lookup f38 = some ⟨oc38,od38,.func (PySem.W.fnOf "_law_within" "_law_within" (zas zch) (zao zch) (zae zch) .none kV38 dc38 pm38 an38 cd38 ct38),sl38⟩)
   (c38 : PySem.W.codeIn K cd38 "_law_within" = true)
   (k38 : PySem.W.keepIn K (.ref f38) = true)
   (a39 : PySem.W.nsIn K mainGlobals "_law_count" = some (some (.ref f39)))
   (l39 : K.lookup f39 = some ⟨oc39,od39,.func (PySem.W.fnOf "_law_count" "_law_count" (zas zcw) (zao zcw) (zae zcw) .none kV39 dc39 pm39 an39 cd39 ct39),sl39⟩)
   (c39 : PySem.W.codeIn K cd39 "_law_count" = true)
   (k39 : PySem.W.keepIn K (.ref f39) = true)
   (a40 : PySem.W.nsIn K mainGlobals "_law_told" = some (some (.ref f40)))
   (l40 : K.lookup f40 = some ⟨oc40,od40,.func (PySem.W.fnOf "_law_told" "_law_told" (zas zcR) (zao zcR) (zae zcR) .none kV40 dc40 pm40 an40 cd40 ct40),sl40⟩)
   (c40 : PySem.W.codeIn K cd40 "_law_told" = true)
   (k40 : PySem.W.keepIn K (.ref f40) = true)
   (a41 : PySem.W.nsIn K mainGlobals "_law_right" = some (some (.ref f41)))
   (l41 : K.lookup f41 = some ⟨oc41,od41,.func (PySem.W.fnOf "_law_right" "_law_right" (zas zcC) (zao zcC) (zae zcC) .none kV41 dc41 pm41 an41 cd41 ct41),sl41⟩)
   (c41 : PySem.W.codeIn K cd41 "_law_right" = true)
   (k41 : PySem.W.keepIn K (.ref f41) = true)
   (a42 : PySem.W.nsIn K mainGlobals "_law_drawn_places" = some (some (.ref f42)))
   (l42 : K.lookup f42 = some ⟨oc42,od42,.func (PySem.W.fnOf "_law_drawn_places" "_law_drawn_places" (zas za9) (zao za9) (zae za9) .none kV42 dc42 pm42 an42 cd42 ct42),sl42⟩)
   (c42 : PySem.W.codeIn K cd42 "_law_drawn_places" = true)
   (k42 : PySem.W.keepIn K (.ref f42) = true)
   (a43 : PySem.W.nsIn K mainGlobals "_law_edge_right" = some (some (.ref f43)))
   (l43 : K.lookup f43 = some ⟨oc43,od43,.func (PySem.W.fnOf "_law_edge_right" "_law_edge_right" (zas zbr) (zao zbr) (zae zbr) .none kV43 dc43 pm43 an43 cd43 ct43),sl43⟩)
   (c43 : PySem.W.codeIn K cd43 "_law_edge_right" = true)
   (k43 : PySem.W.keepIn K (.ref f43) = true)
   (a44 : PySem.W.nsIn K mainGlobals "law" = some (some (.ref f44)))
   (l44 : K.lookup f44 = some ⟨oc44,od44,.func (PySem.W.fnOf "law" "law" (zas ziU) (zao ziU) (zae ziU) .none kV44 dc44 pm44 an44 cd44 ct44),sl44⟩)
   (c44 : PySem.W.codeIn K cd44 "law" = true)
   (k44 : PySem.W.keepIn K (.ref f44) = true)
   (n_TooLong : PySem.W.nsIn K mainGlobals "TooLong" = some (some (.ref e0)))
   (n_NoBack : PySem.W.nsIn K mainGlobals "NoBack" = some (some (.ref e1)))
   (n_NoRow : PySem.W.nsIn K mainGlobals "NoRow" = some (some (.ref e2)))
   (n_NoText : PySem.W.nsIn K mainGlobals "NoText" = some (some (.ref e3)))
   (n_NoWeb : PySem.W.nsIn K mainGlobals "NoWeb" = some (some (.ref e4)))
   (n_NoStand : PySem.W.nsIn K mainGlobals "NoStand" = some (some (.ref e5)))
   (n_NoSwarm : PySem.W.nsIn K mainGlobals "NoSwarm" = some (some (.ref e6)))
   (n_NoRule : PySem.W.nsIn K mainGlobals "NoRule" = some (some (.ref e7)))
   (n_NoNumber : PySem.W.nsIn K mainGlobals "NoNumber" = some (some (.ref e8)))
   (n_GlowError : PySem.W.nsIn K mainGlobals "GlowError" = some (some (.ref e9)))
   (z_ValueError : PySem.W.nsIn K mainGlobals "ValueError" = some none)
   (z_abs : PySem.W.nsIn K mainGlobals "abs" = some none)
   (z_all : PySem.W.nsIn K mainGlobals "all" = some none)
   (z_any : PySem.W.nsIn K mainGlobals "any" = some none)
   (z_bool : PySem.W.nsIn K mainGlobals "bool" = some none)
   (z_enumerate : PySem.W.nsIn K mainGlobals "enumerate" = some none)
   (z_int : PySem.W.nsIn K mainGlobals "int" = some none)
   (z_isinstance : PySem.W.nsIn K mainGlobals "isinstance" = some none)
   (z_len : PySem.W.nsIn K mainGlobals "len" = some none)
   (z_list : PySem.W.nsIn K mainGlobals "list" = some none)
   (z_range : PySem.W.nsIn K mainGlobals "range" = some none)
   (z_sum : PySem.W.nsIn K mainGlobals "sum" = some none)
   (z_tuple : PySem.W.nsIn K mainGlobals "tuple" = some none)
   (z_zip : PySem.W.nsIn K mainGlobals "zip" = some none)
   (h_x_TooLong : PySem.W.excIn K e0 zoF "ValueError.__new__" = true)
   (h_m_TooLong : PySem.W.exmOne K (.ref e0) (.ref e9) = some true)
   (h_e_TooLong : ExcCls K e0)
   (h_k_TooLong_TooLong : PySem.W.kitOne K (.ref e0) (.ref e0) = some true)
   (h_k_TooLong_NoBack : PySem.W.kitOne K (.ref e0) (.ref e1) = some false)
   (h_k_TooLong_NoRow : PySem.W.kitOne K (.ref e0) (.ref e2) = some false)
   (h_k_TooLong_NoText : PySem.W.kitOne K (.ref e0) (.ref e3) = some false)
   (h_k_TooLong_NoWeb : PySem.W.kitOne K (.ref e0) (.ref e4) = some false)
   (h_k_TooLong_NoStand : PySem.W.kitOne K (.ref e0) (.ref e5) = some false)
   (h_k_TooLong_NoSwarm : PySem.W.kitOne K (.ref e0) (.ref e6) = some false)
   (h_k_TooLong_NoRule : PySem.W.kitOne K (.ref e0) (.ref e7) = some false)
   (h_k_TooLong_NoNumber : PySem.W.kitOne K (.ref e0) (.ref e8) = some false)
   (h_v_TooLong : PySem.W.kitOne K (.ref e0) (.type "ValueError") = some true)
   (q0 : PySem.W.nsIn K mainGlobals "NOUGHT" = some (some (.ref g0)))
   (r0 : K.lookup g0 = some ⟨.type "tuple",gd0,.seq #[.int 0 tk0_0,.int 1 tk0_1] gn0,gs0⟩)
   (q1 : PySem.W.nsIn K mainGlobals "ONE" = some (some (.ref g1)))
   (r1 : K.lookup g1 = some ⟨.type "tuple",gd1,.seq #[.int 1 tk1_0,.int 1 tk1_1] gn1,gs1⟩)
   (q2 : PySem.W.nsIn K mainGlobals "MOST_FREE" = some (some (.int 30 tk2)))
   : ∃ fd : FuncData,(∀ (s : Shared) (v : Value),BindsTo s fd ⟨[v],[]⟩ [("_law_script",v)]) /\ ∀ base : Heap,K.In base -> base.Ns mainGlobals mg -> zbd l.prog w K mg base CX0 14 fa fd ["_law_script"] (zjz K):=by
 have e:=hfa.symm.trans (PySem.W.mg_of X G a44)
 cases e
 have F0:=zaH (st:=zbb) l0 c0 k0
 have F1:=zaH (st:=zgl) l1 c1 k1
 have F2:=zaH (st:=ze3) l2 c2 k2
 have F3:=zaH (st:=ze6) l3 c3 k3
 have F4:=zaH (st:=zgv) l4 c4 k4
 have F5:=zaH (st:=zgE) l5 c5 k5
 have F6:=zaH (st:=zgy) l6 c6 k6
 have F7:=zaH (st:=zd1) l7 c7 k7
 have F8:=zaH (st:=zcs) l8 c8 k8
 have F9:=zaH (st:=zbj) l9 c9 k9
 have F10:=zaH (st:=zd3) l10 c10 k10
 have F11:=zaH (st:=zbO) l11 c11 k11
 have F12:=zaH (st:=zfH) l12 c12 k12
 have F13:=zaH (st:=zcu) l13 c13 k13
 have F14:=zaH (st:=zb8) l14 c14 k14
 have F15:=zaH (st:=zes) l15 c15 k15
 have F16:=zaH (st:=zcP) l16 c16 k16
 have F17:=zaH (st:=zd5) l17 c17 k17
 have F18:=zaH (st:=zbw) l18 c18 k18
 have F19:=zaH (st:=zbT) l19 c19 k19
 have F20:=zaH (st:=zbZ) l20 c20 k20
 have F21:=zaH (st:=zcT) l21 c21 k21
 have F22:=zaH (st:=zce) l22 c22 k22
 have F23:=zaH (st:=zct) l23 c23 k23
 have F24:=zaH (st:=zcy) l24 c24 k24
 have F25:=zaH (st:=zdp) l25 c25 k25
 have F26:=zaH (st:=zdt) l26 c26 k26
 have F27:=zaH (st:=zc1) l27 c27 k27
 have F28:=zaH (st:=zds) l28 c28 k28
 have F29:=zaH (st:=zcV) l29 c29 k29
 have F30:=zaH (st:=zcQ) l30 c30 k30
 have F31:=zaH (st:=zcq) l31 c31 k31
 have F32:=zaH (st:=zcO) l32 c32 k32
 have F33:=zaH (st:=zbL) l33 c33 k33
 have F34:=zaH (st:=zcz) l34 c34 k34
 have F35:=zaH (st:=zbS) l35 c35 k35
 have F36:=zaH (st:=zbq) l36 c36 k36
 have F37:=zaH (st:=zdq) l37 c37 k37
 have F38:=zaH (st:=zch) l38 c38 k38
 have F39:=zaH (st:=zcw) l39 c39 k39
 have F40:=zaH (st:=zcR) l40 c40 k40
 have F41:=zaH (st:=zcC) l41 c41 k41
 have F42:=zaH (st:=za9) l42 c42 k42
 have F43:=zaH (st:=zbr) l43 c43 k43
 have F44:=zaH (st:=ziU) l44 c44 k44
 have T : Txt K mg ⟨f0,_,f1,_,f2,_,f3,_,f4,_,f5,_,f6,_,f7,_,f8,_,f9,_,f10,_,f11,_,f12,_,f13,_,f14,_,f15,_,f16,_,f17,_,f18,_,f19,_,f20,_,f21,_,f22,_,f23,_,f24,_,f25,_,f26,_,f27,_,f28,_,f29,_,f30,_,f31,_,f32,_,f33,_,f34,_,f35,_,f36,_,f37,_,f38,_,f39,_,f40,_,f41,_,f42,_,f43,_,_,_,e0,e1,e2,e3,e4,e5,e6,e7,e8,e9,g0,g1⟩:=⟨F0,
   PySem.W.mg_of X G a0,
   (F0.binds (ps:=["one","other"]) fun _ _ _ _ _ _ us hl=>by obtain ⟨_,_,rfl⟩:=zcj hl; rfl),
   F1,
   PySem.W.mg_of X G a1,
   (F1.binds (ps:=["one","other"]) fun _ _ _ _ _ _ us hl=>by obtain ⟨_,_,rfl⟩:=zcj hl; rfl),
   F2,
   PySem.W.mg_of X G a2,
   (F2.binds (ps:=["one","other"]) fun _ _ _ _ _ _ us hl=>by obtain ⟨_,_,rfl⟩:=zcj hl; rfl),
   F3,
   PySem.W.mg_of X G a3,
   (F3.binds (ps:=["one","other"]) fun _ _ _ _ _ _ us hl=>by obtain ⟨_,_,rfl⟩:=zcj hl; rfl),
   F4,
   PySem.W.mg_of X G a4,
   (F4.binds (ps:=["one","other"]) fun _ _ _ _ _ _ us hl=>by obtain ⟨_,_,rfl⟩:=zcj hl; rfl),
   F5,
   PySem.W.mg_of X G a5,
   (F5.binds (ps:=["one","other"]) fun _ _ _ _ _ _ us hl=>by obtain ⟨_,_,rfl⟩:=zcj hl; rfl),
   F6,
   PySem.W.mg_of X G a6,
   (F6.binds (ps:=["rule"]) fun _ _ _ _ _ _ us hl=>by obtain ⟨_,rfl⟩:=zgG hl; rfl),
   F7,
   PySem.W.mg_of X G a7,
   (F7.binds (ps:=["rule","many"]) fun _ _ _ _ _ _ us hl=>by obtain ⟨_,_,rfl⟩:=zcj hl; rfl),
   F8,
   PySem.W.mg_of X G a8,
   (F8.binds (ps:=["push","x"]) fun _ _ _ _ _ _ us hl=>by obtain ⟨_,_,rfl⟩:=zcj hl; rfl),
   F9,
   PySem.W.mg_of X G a9,
   (F9.binds (ps:=["rule","size","phases","turn"]) fun _ _ _ _ _ _ us hl=>by obtain ⟨_,_,_,_,rfl⟩:=zqV hl; rfl),
   F10,
   PySem.W.mg_of X G a10,
   (F10.binds (ps:=["rule","sizes","places"]) fun _ _ _ _ _ _ us hl=>by obtain ⟨_,_,_,rfl⟩:=zde hl; rfl),
   F11,
   PySem.W.mg_of X G a11,
   (F11.binds (ps:=["rule","sizes","places"]) fun _ _ _ _ _ _ us hl=>by obtain ⟨_,_,_,rfl⟩:=zde hl; rfl),
   F12,
   PySem.W.mg_of X G a12,
   (F12.binds (ps:=["rule","sizes","places"]) fun _ _ _ _ _ _ us hl=>by obtain ⟨_,_,_,rfl⟩:=zde hl; rfl),
   F13,
   PySem.W.mg_of X G a13,
   (F13.binds (ps:=["rule","sizes","places"]) fun _ _ _ _ _ _ us hl=>by obtain ⟨_,_,_,rfl⟩:=zde hl; rfl),
   F14,
   PySem.W.mg_of X G a14,
   (F14.binds (ps:=["rule","sizes"]) fun _ _ _ _ _ _ us hl=>by obtain ⟨_,_,rfl⟩:=zcj hl; rfl),
   F15,
   PySem.W.mg_of X G a15,
   (F15.binds (ps:=["rule","sizes"]) fun _ _ _ _ _ _ us hl=>by obtain ⟨_,_,rfl⟩:=zcj hl; rfl),
   F16,
   PySem.W.mg_of X G a16,
   (F16.binds (ps:=["both","places","of_place","of_shift"]) fun _ _ _ _ _ _ us hl=>by obtain ⟨_,_,_,_,rfl⟩:=zqV hl; rfl),
   F17,
   PySem.W.mg_of X G a17,
   (F17.binds (ps:=["both","places","many"]) fun _ _ _ _ _ _ us hl=>by obtain ⟨_,_,_,rfl⟩:=zde hl; rfl),
   F18,
   PySem.W.mg_of X G a18,
   (F18.binds (ps:=["rule","sizes"]) fun _ _ _ _ _ _ us hl=>by obtain ⟨_,_,rfl⟩:=zcj hl; rfl),
   F19,
   PySem.W.mg_of X G a19,
   (F19.binds (ps:=["rule","sizes","places"]) fun _ _ _ _ _ _ us hl=>by obtain ⟨_,_,_,rfl⟩:=zde hl; rfl),
   F20,
   PySem.W.mg_of X G a20,
   (F20.binds (ps:=["rule","sizes","places"]) fun _ _ _ _ _ _ us hl=>by obtain ⟨_,_,_,rfl⟩:=zde hl; rfl),
   F21,
   PySem.W.mg_of X G a21,
   (F21.binds (ps:=["push","x"]) fun _ _ _ _ _ _ us hl=>by obtain ⟨_,_,rfl⟩:=zcj hl; rfl),
   F22,
   PySem.W.mg_of X G a22,
   (F22.binds (ps:=["one","other"]) fun _ _ _ _ _ _ us hl=>by obtain ⟨_,_,rfl⟩:=zcj hl; rfl),
   F23,
   PySem.W.mg_of X G a23,
   (F23.binds (ps:=["one","other"]) fun _ _ _ _ _ _ us hl=>by obtain ⟨_,_,rfl⟩:=zcj hl; rfl),
   F24,
   PySem.W.mg_of X G a24,
   (F24.binds (ps:=["rule","sizes","whole"]) fun _ _ _ _ _ _ us hl=>by obtain ⟨_,_,_,rfl⟩:=zde hl; rfl),
   F25,
   PySem.W.mg_of X G a25,
   (F25.binds (ps:=["rule","sizes","many"]) fun _ _ _ _ _ _ us hl=>by obtain ⟨_,_,_,rfl⟩:=zde hl; rfl),
   F26,
   PySem.W.mg_of X G a26,
   (F26.binds (ps:=["_law_script","_law_k"]) fun _ _ _ _ _ _ us hl=>by obtain ⟨_,_,rfl⟩:=zcj hl; rfl),
   F27,
   PySem.W.mg_of X G a27,
   (F27.binds (ps:=["_law_pen_here","_law_many"]) fun _ _ _ _ _ _ us hl=>by obtain ⟨_,_,rfl⟩:=zcj hl; rfl),
   F28,
   PySem.W.mg_of X G a28,
   (F28.binds (ps:=["_law_top","_law_bottom"]) fun _ _ _ _ _ _ us hl=>by obtain ⟨_,_,rfl⟩:=zcj hl; rfl),
   F29,
   PySem.W.mg_of X G a29,
   (F29.binds (ps:=["_law_one","_law_other"]) fun _ _ _ _ _ _ us hl=>by obtain ⟨_,_,rfl⟩:=zcj hl; rfl),
   F30,
   PySem.W.mg_of X G a30,
   (F30.binds (ps:=["_law_one","_law_other"]) fun _ _ _ _ _ _ us hl=>by obtain ⟨_,_,rfl⟩:=zcj hl; rfl),
   F31,
   PySem.W.mg_of X G a31,
   (F31.binds (ps:=["_law_caught"]) fun _ _ _ _ _ _ us hl=>by obtain ⟨_,rfl⟩:=zgG hl; rfl),
   F32,
   PySem.W.mg_of X G a32,
   (F32.binds (ps:=["_law_pen_here"]) fun _ _ _ _ _ _ us hl=>by obtain ⟨_,rfl⟩:=zgG hl; rfl),
   F33,
   PySem.W.mg_of X G a33,
   (F33.binds (ps:=["_law_pen_here"]) fun _ _ _ _ _ _ us hl=>by obtain ⟨_,rfl⟩:=zgG hl; rfl),
   F34,
   PySem.W.mg_of X G a34,
   (F34.binds (ps:=["_law_pen_here"]) fun _ _ _ _ _ _ us hl=>by obtain ⟨_,rfl⟩:=zgG hl; rfl),
   F35,
   PySem.W.mg_of X G a35,
   (F35.binds (ps:=["_law_pen_here","_law_many"]) fun _ _ _ _ _ _ us hl=>by obtain ⟨_,_,rfl⟩:=zcj hl; rfl),
   F36,
   PySem.W.mg_of X G a36,
   (F36.binds (ps:=["_law_rule_here","_law_sizes_here","_law_places_here"]) fun _ _ _ _ _ _ us hl=>by obtain ⟨_,_,_,rfl⟩:=zde hl; rfl),
   F37,
   PySem.W.mg_of X G a37,
   (F37.binds (ps:=["_law_factor","_law_shifts","_law_places_here"]) fun _ _ _ _ _ _ us hl=>by obtain ⟨_,_,_,rfl⟩:=zde hl; rfl),
   F38,
   PySem.W.mg_of X G a38,
   (F38.binds (ps:=["_law_some"]) fun _ _ _ _ _ _ us hl=>by obtain ⟨_,rfl⟩:=zgG hl; rfl),
   F39,
   PySem.W.mg_of X G a39,
   (F39.binds (ps:=["_law_factor","_law_shifts","_law_places_here"]) fun _ _ _ _ _ _ us hl=>by obtain ⟨_,_,_,rfl⟩:=zde hl; rfl),
   F40,
   PySem.W.mg_of X G a40,
   (F40.binds (ps:=["_law_rule_here","_law_sizes_here","_law_places_here"]) fun _ _ _ _ _ _ us hl=>by obtain ⟨_,_,_,rfl⟩:=zde hl; rfl),
   F41,
   PySem.W.mg_of X G a41,
   (F41.binds (ps:=["_law_rule_here","_law_sizes_here","_law_places_here"]) fun _ _ _ _ _ _ us hl=>by obtain ⟨_,_,_,rfl⟩:=zde hl; rfl),
   F42,
   PySem.W.mg_of X G a42,
   (F42.binds (ps:=["_law_pen_here","_law_rule_here","_law_sizes_here"]) fun _ _ _ _ _ _ us hl=>by obtain ⟨_,_,_,rfl⟩:=zde hl; rfl),
   F43,
   PySem.W.mg_of X G a43,
   (F43.binds (ps:=["_law_rule_here","_law_sizes_here"]) fun _ _ _ _ _ _ us hl=>by obtain ⟨_,_,rfl⟩:=zcj hl; rfl),
   F44,
   PySem.W.mg_of X G a44,
   (F44.binds (ps:=["_law_script"]) fun _ _ _ _ _ _ us hl=>by obtain ⟨_,rfl⟩:=zgG hl; rfl),
   PySem.W.mg_none_of X G z_ValueError,
   PySem.W.mg_none_of X G z_abs,
   PySem.W.mg_none_of X G z_all,
   PySem.W.mg_none_of X G z_any,
   PySem.W.mg_none_of X G z_bool,
   PySem.W.mg_none_of X G z_enumerate,
   PySem.W.mg_none_of X G z_int,
   PySem.W.mg_none_of X G z_isinstance,
   PySem.W.mg_none_of X G z_len,
   PySem.W.mg_none_of X G z_list,
   PySem.W.mg_none_of X G z_range,
   PySem.W.mg_none_of X G z_sum,
   PySem.W.mg_none_of X G z_tuple,
   PySem.W.mg_none_of X G z_zip,
   PySem.W.mg_of X G n_TooLong,
   PySem.W.mg_of X G n_NoBack,
   PySem.W.mg_of X G n_NoRow,
   PySem.W.mg_of X G n_NoText,
   PySem.W.mg_of X G n_NoWeb,
   PySem.W.mg_of X G n_NoStand,
   PySem.W.mg_of X G n_NoSwarm,
   PySem.W.mg_of X G n_NoRule,
   PySem.W.mg_of X G n_NoNumber,
   PySem.W.mg_of X G n_GlowError,
   h_x_TooLong,
   h_m_TooLong,
   h_e_TooLong,
   h_k_TooLong_TooLong,
   h_k_TooLong_NoBack,
   h_k_TooLong_NoRow,
   h_k_TooLong_NoText,
   h_k_TooLong_NoWeb,
   h_k_TooLong_NoStand,
   h_k_TooLong_NoSwarm,
   h_k_TooLong_NoRule,
   h_k_TooLong_NoNumber,
   h_v_TooLong,
   PySem.W.mg_of X G q0,
   fun H=>.inr ⟨_,_,_,r0,rfl,rfl,by simp; decide,(.cons ⟨_,rfl⟩ (.cons ⟨_,rfl⟩ .nil))⟩,
   PySem.W.mg_of X G q1,
   fun H=>.inr ⟨_,_,_,r1,rfl,rfl,by simp; decide,(.cons ⟨_,rfl⟩ (.cons ⟨_,rfl⟩ .nil))⟩,
   ⟨_,PySem.W.mg_of X G q2⟩⟩
 exact ⟨_,fun s v=>.of_eq rfl,fun base _ _=>zrD T⟩
theorem walk {l : PySem.W.OpenLaw} {q : Program} {loose : List Str} {XP : (Str -> Option Value) -> Heap -> Prop} {YP : World -> Heap -> Prop} {d : DefRec} {K : Params -> PySem.W.Frag} (hn : l.most = some 63) (hdf : d.params.defaults = [])
   (hY : ∀ (w : World) (h : Heap),YP w h -> (K w.params).In h)
   (F : ∀ (w : World) (mg : Str -> Option Value) (fa : Addr) (h : Heap),(K w.params).In h -> h.Ns mainGlobals mg -> mg d.name = some (.ref fa) ->
     ∃ fd : FuncData,(∀ (s : Shared) (u : Value),BindsTo s fd ⟨[u],[]⟩ [("_law_script",u)]) /\ ∀ base : Heap,(K w.params).In base -> base.Ns mainGlobals mg -> zbd l.prog w (K w.params) mg base CX0 14 fa fd ["_law_script"] (zjz (K w.params))) :
   PySem.W.WalkO q loose XP YP l.row.toRowW d [] (fun f vs=>PySem.call f vs) :=
 L2.walk_of (n:=63) (k:=14) (x:="_law_script") (CX:=fun _=>CX0) (sp:=fun w=>zjz (K w.params)) hn (by decide) hdf ⟨rfl,by decide,by decide,rfl⟩ hY F (fun _ H a ns hl hO hS=>⟨.ref a,rfl,a,ns,rfl,zro hO hS,hl,fun _=>rfl⟩) fun _ _ _ _ _ z=>z
end G
open PySem PySem.W PyProof.Rows
set_option maxRecDepth 100000 in
set_option maxHeartbeats 0 in
theorem PySem.Challenge.cw_glowflock_k65_whole_within_told_rounds_holds : PySem.Challenge.rw_glowflock_k65_whole_within_told_rounds.Holds := by
 w_on; refine GH.head ?_
 k_fill
 refine G.walk (l:=PySem.Challenge.rw_glowflock_k65_whole_within_told_rounds) rfl rfl (fun w h Y=>PySem.W.kIn_of Y) ?F
 case F =>
   intro w mg fa h KX GG hmg
   refine' G.all_mk KX GG hmg ?a0 ?l0 ?c0 ?k0 ?a1 ?l1 ?c1 ?k1 ?a2 ?l2 ?c2 ?k2 ?a3 ?l3 ?c3 ?k3 ?a4 ?l4 ?c4 ?k4 ?a5 ?l5 ?c5 ?k5 ?a6 ?l6 ?c6 ?k6 ?a7 ?l7 ?c7 ?k7 ?a8 ?l8 ?c8 ?k8 ?a9 ?l9 ?c9 ?k9 ?a10 ?l10 ?c10 ?k10 ?a11 ?l11 ?c11 ?k11 ?a12 ?l12 ?c12 ?k12 ?a13 ?l13 ?c13 ?k13 ?a14 ?l14 ?c14 ?k14 ?a15 ?l15 ?c15 ?k15 ?a16 ?l16 ?c16 ?k16 ?a17 ?l17 ?c17 ?k17 ?a18 ?l18 ?c18 ?k18 ?a19 ?l19 ?c19 ?k19 ?a20 ?l20 ?c20 ?k20 ?a21 ?l21 ?c21 ?k21 ?a22 ?l22 ?c22 ?k22 ?a23 ?l23 ?c23 ?k23 ?a24 ?l24 ?c24 ?k24 ?a25 ?l25 ?c25 ?k25 ?a26 ?l26 ?c26 ?k26 ?a27 ?l27 ?c27 ?k27 ?a28 ?l28 ?c28 ?k28 ?a29 ?l29 ?c29 ?k29 ?a30 ?l30 ?c30 ?k30 ?a31 ?l31 ?c31 ?k31 ?a32 ?l32 ?c32 ?k32 ?a33 ?l33 ?c33 ?k33 ?a34 ?l34 ?c34 ?k34 ?a35 ?l35 ?c35 ?k35 ?a36 ?l36 ?c36 ?k36 ?a37 ?l37 ?c37 ?k37 ?a38 ?l38 ?c38 ?k38 ?a39 ?l39 ?c39 ?k39 ?a40 ?l40 ?c40 ?k40 ?a41 ?l41 ?c41 ?k41 ?a42 ?l42 ?c42 ?k42 ?a43 ?l43 ?c43 ?k43 ?a44 ?l44 ?c44 ?k44 ?n_TooLong ?n_NoBack ?n_NoRow ?n_NoText ?n_NoWeb ?n_NoStand ?n_NoSwarm ?n_NoRule ?n_NoNumber ?n_GlowError ?z_ValueError ?z_abs ?z_all ?z_any ?z_bool ?z_enumerate ?z_int ?z_isinstance ?z_len ?z_list ?z_range ?z_sum ?z_tuple ?z_zip ?h_x_TooLong ?h_m_TooLong ?h_e_TooLong ?h_k_TooLong_TooLong ?h_k_TooLong_NoBack ?h_k_TooLong_NoRow ?h_k_TooLong_NoText ?h_k_TooLong_NoWeb ?h_k_TooLong_NoStand ?h_k_TooLong_NoSwarm ?h_k_TooLong_NoRule ?h_k_TooLong_NoNumber ?h_v_TooLong ?q0 ?r0 ?q1 ?r1 ?q2
   (case a0=>k_is)
   (case l0=>k_is)
   (case c0=>k_is)
   (case k0=>k_is)
   (case a1=>k_is)
   (case l1=>k_is)
   (case c1=>k_is)
   (case k1=>k_is)
   (case a2=>k_is)
   (case l2=>k_is)
   (case c2=>k_is)
   (case k2=>k_is)
   (case a3=>k_is)
   (case l3=>k_is)
   (case c3=>k_is)
   (case k3=>k_is)
   (case a4=>k_is)
   (case l4=>k_is)
   (case c4=>k_is)
   (case k4=>k_is)
   (case a5=>k_is)
   (case l5=>k_is)
   (case c5=>k_is)
   (case k5=>k_is)
   (case a6=>k_is)
   (case l6=>k_is)
   (case c6=>k_is)
   (case k6=>k_is)
   (case a7=>k_is)
   (case l7=>k_is)
   (case c7=>k_is)
   (case k7=>k_is)
   (case a8=>k_is)
   (case l8=>k_is)
   (case c8=>k_is)
   (case k8=>k_is)
   (case a9=>k_is)
   (case l9=>k_is)
   (case c9=>k_is)
   (case k9=>k_is)
   (case a10=>k_is)
   (case l10=>k_is)
   (case c10=>k_is)
   (case k10=>k_is)
   (case a11=>k_is)
   (case l11=>k_is)
   (case c11=>k_is)
   (case k11=>k_is)
   (case a12=>k_is)
   (case l12=>k_is)
   (case c12=>k_is)
   (case k12=>k_is)
   (case a13=>k_is)
   (case l13=>k_is)
   (case c13=>k_is)
   (case k13=>k_is)
   (case a14=>k_is)
   (case l14=>k_is)
   (case c14=>k_is)
   (case k14=>k_is)
   (case a15=>k_is)
   (case l15=>k_is)
   (case c15=>k_is)
   (case k15=>k_is)
   (case a16=>k_is)
   (case l16=>k_is)
   (case c16=>k_is)
   (case k16=>k_is)
   (case a17=>k_is)
   (case l17=>k_is)
   (case c17=>k_is)
   (case k17=>k_is)
   (case a18=>k_is)
   (case l18=>k_is)
   (case c18=>k_is)
   (case k18=>k_is)
   (case a19=>k_is)
   (case l19=>k_is)
   (case c19=>k_is)
   (case k19=>k_is)
   (case a20=>k_is)
   (case l20=>k_is)
   (case c20=>k_is)
   (case k20=>k_is)
   (case a21=>k_is)
   (case l21=>k_is)
   (case c21=>k_is)
   (case k21=>k_is)
   (case a22=>k_is)
   (case l22=>k_is)
   (case c22=>k_is)
   (case k22=>k_is)
   (case a23=>k_is)
   (case l23=>k_is)
   (case c23=>k_is)
   (case k23=>k_is)
   (case a24=>k_is)
   (case l24=>k_is)
   (case c24=>k_is)
   (case k24=>k_is)
   (case a25=>k_is)
   (case l25=>k_is)
   (case c25=>k_is)
   (case k25=>k_is)
   (case a26=>k_is)
   (case l26=>k_is)
   (case c26=>k_is)
   (case k26=>k_is)
   (case a27=>k_is)
   (case l27=>k_is)
   (case c27=>k_is)
   (case k27=>k_is)
   (case a28=>k_is)
   (case l28=>k_is)
   (case c28=>k_is)
   (case k28=>k_is)
   (case a29=>k_is)
   (case l29=>k_is)
   (case c29=>k_is)
   (case k29=>k_is)
   (case a30=>k_is)
   (case l30=>k_is)
   (case c30=>k_is)
   (case k30=>k_is)
   (case a31=>k_is)
   (case l31=>k_is)
   (case c31=>k_is)
   (case k31=>k_is)
   (case a32=>k_is)
   (case l32=>k_is)
   (case c32=>k_is)
   (case k32=>k_is)
   (case a33=>k_is)
   (case l33=>k_is)
   (case c33=>k_is)
   (case k33=>k_is)
   (case a34=>k_is)
   (case l34=>k_is)
   (case c34=>k_is)
   (case k34=>k_is)
   (case a35=>k_is)
   (case l35=>k_is)
   (case c35=>k_is)
   (case k35=>k_is)
   (case a36=>k_is)
   (case l36=>k_is)
   (case c36=>k_is)
   (case k36=>k_is)
   (case a37=>k_is)
   (case l37=>k_is)
   (case c37=>k_is)
   (case k37=>k_is)
   (case a38=>k_is)
   (case l38=>k_is)
   (case c38=>k_is)
   (case k38=>k_is)
   (case a39=>k_is)
   (case l39=>k_is)
   (case c39=>k_is)
   (case k39=>k_is)
   (case a40=>k_is)
   (case l40=>k_is)
   (case c40=>k_is)
   (case k40=>k_is)
   (case a41=>k_is)
   (case l41=>k_is)
   (case c41=>k_is)
   (case k41=>k_is)
   (case a42=>k_is)
   (case l42=>k_is)
   (case c42=>k_is)
   (case k42=>k_is)
   (case a43=>k_is)
   (case l43=>k_is)
   (case c43=>k_is)
   (case k43=>k_is)
   (case a44=>k_is)
   (case l44=>k_is)
   (case c44=>k_is)
   (case k44=>k_is)
   (case n_TooLong=>k_is)
   (case n_NoBack=>k_is)
   (case n_NoRow=>k_is)
   (case n_NoText=>k_is)
   (case n_NoWeb=>k_is)
   (case n_NoStand=>k_is)
   (case n_NoSwarm=>k_is)
   (case n_NoRule=>k_is)
   (case n_NoNumber=>k_is)
   (case n_GlowError=>k_is)
   (case z_ValueError=>k_is)
   (case z_abs=>k_is)
   (case z_all=>k_is)
   (case z_any=>k_is)
   (case z_bool=>k_is)
   (case z_enumerate=>k_is)
   (case z_int=>k_is)
   (case z_isinstance=>k_is)
   (case z_len=>k_is)
   (case z_list=>k_is)
   (case z_range=>k_is)
   (case z_sum=>k_is)
   (case z_tuple=>k_is)
   (case z_zip=>k_is)
   (case h_x_TooLong=>k_exc)
   (case h_m_TooLong=>kts_exm)
   (case h_e_TooLong=>(refine L2.ExcCls.mk ?_ ?_ ?_ ?_ ?_ ?_ ?_ ?_ <;> first | k_is | (show PySem.W.isClsIn _ _ = true; k_is)))
   (case h_k_TooLong_TooLong=>kit_is)
   (case h_k_TooLong_NoBack=>kit_is)
   (case h_k_TooLong_NoRow=>kit_is)
   (case h_k_TooLong_NoText=>kit_is)
   (case h_k_TooLong_NoWeb=>kit_is)
   (case h_k_TooLong_NoStand=>kit_is)
   (case h_k_TooLong_NoSwarm=>kit_is)
   (case h_k_TooLong_NoRule=>kit_is)
   (case h_k_TooLong_NoNumber=>kit_is)
   (case h_v_TooLong=>kit_is)
   (case q0=>k_is)
   (case r0=>k_is)
   (case q1=>k_is)
   (case r1=>k_is)
   (case q2=>k_is)
#print axioms PySem.Challenge.cw_glowflock_k65_whole_within_told_rounds_holds
