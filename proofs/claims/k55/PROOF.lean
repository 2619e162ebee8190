import PyProof.Rows.All
import Wide.All
import OpenK.AllK
import Wide.FinOn
import Lean
import PyProof.EqAt
import PyProof.EqKinds
import PyProof.TupleCall
import PyProof.P3In
import PyProof.ReprRoads
import PyProof.MaxThree
import PyProof.Rows.SetFrom
import PyProof.SetRoads
import PyProof.Rows.TupDisplay
import PyProof.ReprLen
import PyProof.ReprRoads
import PyProof.CallStr
import PyProof.StrCalls2
import PyProof.StrLawsJoin
import PyProof.ReprLen
import PyProof.ReprRoads
import PyProof.StrLawsTight
import PyProof.StrLawsJoin
import PyProof.StrCalls3
import PyProof.StrLoop
import PyProof.StrWalks
import PyProof.FString
import PyProof.Conv_int
import PyProof.Rows.StrLawsPart
import PyProof.Rows.StrFirst
import PyProof.StrCalls5
import PyProof.StrCalls
import PyProof.SliceStr2
import PyProof.StrLawsIdx
import PySem.Challenge.RW_glowflock_k55_swarms_written_and_read
set_option compiler.extract_closed false
set_option Elab.async false
set_option linter.all false
set_option maxRecDepth 100000
namespace GH
open PySem PySem.W PyProof.Rows
noncomputable def ztZ (p : Program) (w : World) (m : Nat) (an : Option Value) (N : Nat) (s0 : Shared) : Option Shared :=
 Option.bind (Fast.tw14082659384304107361 Fast.tw14364793385576792824 p w m an N s0 (topStub p)) fun s1=>match staticsOk (Fast.tw5923862056798008813 p.main.body) s0.heap s1.heap && namesBound p s1.heap && gensDone s1 && laidKept s0.heap s1.heap with | true=>some s1 | false=>none
noncomputable def zur (w : World) (os : OsState) : Shared:=⟨boot_heap w.params,#[],boot_drawn,boot_toks,os⟩
theorem left_once {p q : Program} {loose : List Str} {Xt : Shared -> Bool} {A : Type} {Yf : Shared -> A} {Ya : World -> A} {N : Nat} (e : opening p = plainProg p.main.scope.names) (hN : Nat.ble 600 N = true) (f : ∀ s,fenceModules? p s = some s) {m : Nat} {an : Option Value}
   (size : ∀ w : World,((boot_heap w.params).isNs mainGlobals,(boot_heap w.params).objs.size,(boot_heap w.params).nsMap mainGlobals "__annotations__") = (true,m,an))
   (h : ∀ w : World,(fun os=>(ztZ p w m an N (zur w os)).map (fun s=>(Fast.tw4187177175401517315 q loose (Fast.tw5923862056798008813 p.main.body) Xt true s,Yf s))) = fun _=>some (openGood q loose,Ya w)) : LeftO p q loose Xt Yf Ya N:=fun w=>by
 obtain ⟨⟨h',gs,d,k,os⟩,e',e2⟩:=Option.map_eq_some_iff.mp (boot_open e hN f (w:=w))
 obtain ⟨rfl,rfl,rfl,rfl⟩ : h' = boot_heap w.params /\ gs = #[] /\ d = boot_drawn /\ k = boot_toks:=by simpa using e2
 obtain ⟨z1,z2,z3⟩ : _ /\ _ /\ _:=by simpa only [Prod.mk.injEq] using size w
 have r:=congrFun (h w) os
 unfold openEnds
 rw [e']
 show Option.map _ (topFrom treeTable p w N _) = _
 rw [<- r]
 unfold topFrom ztZ zur
 rw [<- Fast.te14082659384304107361,<- Fast.te14364793385576792824,<- Fast.te5923862056798008813,<- Fast.te4187177175401517315]
 dsimp only
 rw [z1,z2,z3]
 rfl
def qv : Program:=view PySem.Challenge.pw_glowflock_k55_swarms_written_and_read [1,2,3,4,6,7,8,9,10,11,12,13,14,16,17,18,19,20,21,22,23,24,26,27,28,29,30,31,32,33,35,36,38,39,40,41,42,43,44,45,46,47,48,49,51,52,53,54,55,56,57,58,59,60,61]
theorem said : PySem.Challenge.rw_glowflock_k55_swarms_written_and_read.wellSaid = true:=by kernel_rfl
theorem size (w : World) : ((boot_heap w.params).isNs mainGlobals,(boot_heap w.params).objs.size,(boot_heap w.params).nsMap mainGlobals "__annotations__") = (true,11,some (.ref 6)):=by kernel_rfl
local macro_rules | `(tactic| o_head $H)=>`(tactic| (refine holds_open (q:=GH.qv) (loose:=[]) (Xt:=fun s=>xlAt GH.qv [] s && recOk (RowW.records (OpenRow.toRowW (OpenLaw.row PySem.Challenge.rw_glowflock_k55_swarms_written_and_read))) s) (XP:=XL GH.qv []) (Yf:=Hook.obs $H) (Ya:=Hook.val $H) (YP:=Hook.says $H) (N:=4580) ?hl (Hook.of $H) (Hook.keeps $H) (fun s e=>xl_of s (Bool.and_eq_true_iff.mp e).1) XL.keeps (by rfl) (by rfl) (by rfl) (fun s e=>recFacts_of (Bool.and_eq_true_iff.mp e).2) (by rfl) (by first | assumption | decide +kernel) (by decide +kernel) ⟨rfl,rfl,rfl,rfl,rfl,by decide +kernel⟩ ?hw ?hc; (case hl=>refine GH.left_once (by kernel_rfl) rfl (fun s=>by kernel_rfl) GH.size ?_; intro w; kernel_rfl)))
local macro_rules | `(tactic| o_law)=>`(tactic| refine holds_law GH.said fun said=>?_)
set_option maxHeartbeats 0
open_top head for PySem.Challenge.rw_glowflock_k55_swarms_written_and_read
end GH
set_option maxHeartbeats 200000
set_option Elab.async false
set_option linter.all false
set_option maxRecDepth 100000
namespace L2
open PySem PySem.Spec PyProof.Rows
abbrev Key:=Sum Int Str
def zrY : Key -> Value -> Bool
 | .inl k,v=>Value.isInt k v
 | .inr x,v=>Value.isStrOf x v
def zuD (w : World) : Key -> Int
 | .inl k=>hashInt k
 | .inr x=>hashStr w x
theorem za3 : ∀ {k : Key} {v : Value},zrY k v = true -> (∃ i t,k = Sum.inl i /\ v = Value.int i t) \/ (∃ x t,k = Sum.inr x /\ v = Value.str x t)
 | .inl i,v,h=>by
   obtain ⟨t,e⟩:=Value.isInt_shape (k:=i) (v:=v) h
   exact .inl ⟨i,t,rfl,e⟩
 | .inr x,v,h=>by
   obtain ⟨t,e⟩:=Value.isStrOf_shape (x:=x) (v:=v) h
   exact .inr ⟨x,t,rfl,e⟩
theorem zsF (a b : Int) : decide ((Sum.inl a : Key) = Sum.inl b) = (a == b):=by
 by_cases e : a = b
 . subst e; simp
 . have h : ¬ (Sum.inl a : Key) = Sum.inl b:=fun q=>e (Sum.inl.inj q)
   rw [decide_eq_false h]
   exact (beq_eq_false_iff_ne.mpr e).symm
theorem zsU (a b : Str) : decide ((Sum.inr a : Key) = Sum.inr b) = decide (a = b):=by
 by_cases e : a = b
 . subst e; simp
 . have h : ¬ (Sum.inr a : Key) = Sum.inr b:=fun q=>e (Sum.inr.inj q)
   rw [decide_eq_false h,decide_eq_false e]
theorem zs7 (a : Int) (b : Str) : decide ((Sum.inl a : Key) = Sum.inr b) = false:=decide_eq_false (fun q=>nomatch q)
theorem zsE (a : Str) (b : Int) : decide ((Sum.inr a : Key) = Sum.inl b) = false:=decide_eq_false (fun q=>nomatch q)
def zjJ (prog : Program) (w : World) : PySem.KeyKind prog w Key where
 is:=zrY
 hash:=zuD w
 inj:=fun v a b ha hb=>by
   rcases za3 ha with ⟨i,t,rfl,rfl⟩ | ⟨x,t,rfl,rfl⟩
   . rcases za3 hb with ⟨j,u,rfl,e⟩ | ⟨y,u,rfl,e⟩
     . injection e with e1 _; rw [e1]
     . exact nomatch e
   . rcases za3 hb with ⟨j,u,rfl,e⟩ | ⟨y,u,rfl,e⟩
     . exact nomatch e
     . injection e with e1 _; rw [e1]
 byValue:=fun k v h=>by
   rcases za3 h with ⟨i,t,rfl,rfl⟩ | ⟨x,t,rfl,rfl⟩ <;> rfl
 pyHash:=fun hv h=>by
   rcases za3 hv with ⟨i,t,rfl,rfl⟩ | ⟨x,t,rfl,rfl⟩
   . exact wpAny_pyHash_int h
   . exact wpAny_pyHash_str h
 eqBool:=fun hu hv h=>by
   rcases za3 hu with ⟨i,t,rfl,rfl⟩ | ⟨x,t,rfl,rfl⟩
   . rcases za3 hv with ⟨j,u,rfl,rfl⟩ | ⟨y,u,rfl,rfl⟩
     . rw [zsF] at h; exact wpAny_eqBool_int h
     . rw [zs7] at h; exact SeqAt.EqAt.int_str i t y u _ _ _ _ h
   . rcases za3 hv with ⟨j,u,rfl,rfl⟩ | ⟨y,u,rfl,rfl⟩
     . rw [zsE] at h; exact SeqAt.EqAt.str_int x t j u _ _ _ _ h
     . rw [zsU] at h; exact wpAny_eqBool_str h
 «strs»:=fun k x t v h=>by
   rcases za3 h with ⟨i,u,rfl,e⟩ | ⟨y,u,rfl,e⟩
   . exact nomatch e
   . injection e with e1 _
     subst e1
     cases v <;> rfl
end L2
namespace L2
open PySem PySem.Spec PyProof.Rows
inductive V where
 | non | bl (b : Bool) | int (i : Int) | str (x : Str) | byt (b : Array UInt8) | flt (b : UInt64) | ref (a : Addr) | ty (n : String)
 deriving DecidableEq
def zaJ : V -> Value -> Prop
 | .non,u=>u = Value.none
 | .bl b,u=>u = Value.bool b
 | .int i,u=>∃ t,u = Value.int i t
 | .str x,u=>∃ t,u = Value.str x t
 | .byt b,u=>∃ t,u = Value.bytes b t
 | .flt b,u=>∃ t,u = Value.float b t
 | .ref a,u=>u = Value.ref a
 | .ty n,u=>u = Value.type n
abbrev zav : List V -> List Value -> Prop:=Paired zaJ
theorem zav.length {xs : List V} {us : List Value} (r : zav xs us) : xs.length = us.length:=Paired.length r
theorem zav.get : ∀ {xs : List V} {us : List Value} {i : Nat} {x : V},zav xs us -> xs[i]? = some x -> ∃ u,us[i]? = some u /\ zaJ x u
 | _,_,_,_,.nil,e=>by simp at e
 | _,_,0,_,.cons r _,e=>by simp at e; subst e; exact ⟨_,rfl,r⟩
 | _,_,i + 1,x,.cons _ t,e=>by
   obtain ⟨u,h1,h2⟩:=zav.get (i:=i) (x:=x) t (by simpa using e)
   exact ⟨u,by simpa using h1,h2⟩
theorem zav.set {x : V} {u : Value} (r : zaJ x u) : ∀ {xs : List V} {us : List Value} (i : Nat),zav xs us -> zav (xs.set i x) (us.set i u)
 | _,_,_,.nil=>.nil
 | _,_,0,.cons _ t=>.cons r t
 | _,_,i + 1,.cons q t=>.cons q (zav.set r i t)
theorem zav.append : ∀ {xs ys : List V} {us ws : List Value},zav xs us -> zav ys ws -> zav (xs ++ ys) (us ++ ws)
 | _,_,_,_,.nil,s=>s
 | _,_,_,_,.cons r t,s=>.cons r (zav.append t s)
theorem zav.take : ∀ {xs : List V} {us : List Value} (n : Nat),zav xs us -> zav (xs.take n) (us.take n)
 | _,_,0,_=>.nil
 | _,_,_ + 1,.nil=>.nil
 | _,_,n + 1,.cons r t=>.cons r (zav.take n t)
theorem zav.drop : ∀ {xs : List V} {us : List Value} (n : Nat),zav xs us -> zav (xs.drop n) (us.drop n)
 | _,_,0,r=>r
 | _,_,_ + 1,.nil=>.nil
 | _,_,n + 1,.cons _ t=>zav.drop n t
def zuz : Option V -> Option Value -> Prop
 | some v,some u=>zaJ v u
 | none,none=>True
 | _,_=>False
def KV {κ : Type} : List (κ × V) -> List (κ × Value) -> Prop:=Paired fun (p : κ × V) (q : κ × Value)=>p.1 = q.1 /\ zaJ p.2 q.2
def kV : Key -> V
 | .inl i=>.int i
 | .inr x=>.str x
inductive HO where
 /-- a list -/
 | lst (xs : List V)
 /-- a tuple (never changes) -/
 | tup (xs : List V)
 /-- a dict whose keys are ints and texts; one whose keys are tuples of ints and texts (the empty one is both) -/
 | dK (kvs : List (Key × V)) | dT (kvs : List (List Key × V))
 /-- a set of ints: its members,its size -/
 | set (S : Int -> Bool) (n : Nat)
 /-- an instance of the class at C,its dict at dx,its attributes -/
 | ins (C dx : Addr) (fs : List (Str × V))
 /-- the dict of the instance at x -/
 | own (x : Addr)
 /-- the dict of an exception -/
 | xd (fs : List (Str × V))
 /-- a bound method,f of x -/
 | met (f x : Addr)
 /-- a range object lo,lo + 1,.. below hi -/
 | rng (lo hi : Int)
 /-- a thing that is known to the object (the script; a dict while a loop walks it): read,never written while it is so -/
 | frz (o : Obj) (u : HO)
 /-- a code object's table -/
 | tbl (ps : Array Value)
 /-- any other thing,by what is true of its one object (a def of one's own: SetO a S n:=HO.ext fun h=>..) -/
 | ext (φ : Heap -> Prop)
abbrev Hp:=Addr -> Option HO
def upd (H : Hp) (a : Addr) (o : HO) : Hp:=fun b=>if b = a then some o else H b
theorem zaB {H : Hp} {a : Addr} {o : HO} : upd H a o a = some o:=by unfold upd; rw [if_pos rfl]
theorem zaG {H : Hp} {a b : Addr} {o : HO} (h : b ≠ a) : upd H a o b = H b:=by unfold upd; rw [if_neg h]
theorem zsb {H : Hp} {a b : Addr} {o u : HO} (h : H a = some o) (h' : H b = some u) (d : o ≠ u) : a ≠ b:=by
 intro e; subst e; rw [h] at h'; exact d (Option.some.inj h')
theorem zaQ {H : Hp} {a b : Addr} {o : HO} (h : H a = some o) (h' : H b = none) : a ≠ b:=by
 intro e; subst e; rw [h] at h'; cases h'
section
variable (P : Program) (w : World)
def zbM (H : Hp) (h : Heap) (a : Addr) : HO -> Prop
 | .lst xs=>xs.length <= sizeLine /\ ∃ (its : List Value) (n : Nat),zav xs its /\ h.get? a = some { cls:=.type "list",data:=.seq its.toArray n }
 | .tup xs=>xs.length <= sizeLine /\ ∃ its : List Value,zav xs its /\ IsTup h a its.toArray
 | .dK kvs=>kvs.length <= sizeLine /\ (a == sysModules) = false /\ ∃ vs,KV kvs vs /\ h.DictOf (zjJ P w) a vs
 | .dT kvs=>kvs.length <= sizeLine /\ (a == sysModules) = false /\ ∃ xs : List (List Key × Addr × Value),
     Paired (fun (p : List Key × V) (q : List Key × Addr × Value)=>p.1 = q.1 /\ H q.2.1 = some (.tup (p.1.map kV)) /\ zaJ p.2 q.2.2) kvs xs /\
     ∃ o es ep,h.get? a = some o /\ o.ExactDict /\ o.data = .dict es ep /\ es.toList = xs.map (entryOfKey (tupleKind (zjJ P w))) /\ (xs.map (·.1)).Nodup
 | .set S n=>h.SetOf (intKind P w) a S n
 | .ins C dx fs=>H dx = some (.own a) /\ fs.length <= 1000 /\ dx ≠ a /\ h.get? a = some (PySem.W.instObj C dx) /\
     ∃ mA,h.Ns1 dx mA /\ (∀ f,zuz (fs.lookup f) (mA f)) /\ PySem.Within mA (fs.map (·.1))
 | .own _=>∃ o,h.get? a = some o
 | .xd fs=>∃ mA,h.Ns1 a mA /\ ∀ f,zuz (fs.lookup f) (mA f)
 | .rng lo hi=>∃ t u v,h.get? a = some { cls:=.type "range",data:=.fields #[.int lo t,.int hi u,.int 1 v] }
 | .frz o u=>h.get? a = some o /\ zbM H h a u
 | .tbl ps=>h.get? a = some { cls:=.none,data:=.fields ps }
 | .met f x=>h.get? a = some (PySem.W.methodObj (.ref f) (.ref x))
 | .ext φ=>φ h /\ (∃ o,h.get? a = some o) /\ ∀ h1 h2 : Heap,φ h1 -> (∀ o,h1.get? a = some o -> h2.get? a = some o) -> φ h2
def HOk (H : Hp) (h : Heap) : Prop:=∀ a o,H a = some o -> zbM P w H h a o
end
section
variable {P : Program} {w : World} {H H' : Hp} {h h' : Heap} {a : Addr} {o : HO}
theorem zbM.lt (x : zbM P w H h a o) : a < h.objs.size:=by
 cases o with
 | lst xs=>obtain ⟨_,_,_,_,e⟩:=x; exact Heap.lt_size e
 | tup xs=>obtain ⟨_,_,_,p⟩:=x; exact p.lt
 | dK kvs=>obtain ⟨_,_,_,_,o,_,_,e,_⟩:=x; exact Heap.lt_size e
 | dT kvs=>obtain ⟨_,_,_,_,o,_,_,e,_⟩:=x; exact Heap.lt_size e
 | set S n=>obtain ⟨o,_,_,_,e,_⟩:=x; exact Heap.lt_size e
 | ins C dx fs=>obtain ⟨_,_,_,e,_⟩:=x; exact Heap.lt_size e
 | own y=>obtain ⟨_,e⟩:=x; exact Heap.lt_size e
 | xd fs=>obtain ⟨_,⟨_,_,_,e,_⟩,_⟩:=x; exact Heap.lt_size e
 | rng lo hi=>obtain ⟨_,_,_,e⟩:=x; exact Heap.lt_size e
 | frz ob u=>obtain ⟨e,_⟩:=x; exact Heap.lt_size e
 | tbl ps=>exact Heap.lt_size (show h.get? a = some _ from x)
 | met f y=>exact Heap.lt_size (show h.get? a = some _ from x)
 | ext φ=>obtain ⟨_,⟨_,e⟩,_⟩:=x; exact Heap.lt_size e
theorem Paired.mapP {α β : Type} {F G : α -> β -> Prop} : ∀ {l₁ : List α} {l₂ : List β},Paired F l₁ l₂ -> (∀ a b,F a b -> G a b) -> Paired G l₁ l₂
 | _,_,.nil,_=>.nil
 | _,_,.cons r t,f=>.cons (f _ _ r) (Paired.mapP t f)
theorem zbM.stay (x : zbM P w H h a o) (k : ∀ b u,(b = a \/ H b = some (.own a)) -> h.get? b = some u -> h'.get? b = some u)
   (ho : ∀ b,H b = some (.own a) -> H' b = some (.own a)) (ht : ∀ b xs,H b = some (.tup xs) -> H' b = some (.tup xs)) : zbM P w H' h' a o:=by
 induction o with
 | lst xs=>obtain ⟨z,its,n,r,e⟩:=x; exact ⟨z,its,n,r,k _ _ (.inl rfl) e⟩
 | tup xs=>obtain ⟨z,its,r,ob,e,c⟩:=x; exact ⟨z,its,r,ob,k _ _ (.inl rfl) e,c⟩
 | dK kvs=>obtain ⟨z,y,vs,r,ob,es,ep,e,c⟩:=x; exact ⟨z,y,vs,r,ob,es,ep,k _ _ (.inl rfl) e,c⟩
 | dT kvs =>
   obtain ⟨z,y,xs,r,ob,es,ep,e,c⟩:=x
   exact ⟨z,y,xs,Paired.mapP r fun p q z=>⟨z.1,ht _ _ z.2.1,z.2.2⟩,ob,es,ep,k _ _ (.inl rfl) e,c⟩
 | set S n=>obtain ⟨ob,es,ep,t,e,c⟩:=x; exact ⟨ob,es,ep,t,k _ _ (.inl rfl) e,c⟩
 | ins C dx fs =>
   obtain ⟨d,z,ne,e,mA,⟨od,es,ep,e2,c⟩,r⟩:=x
   exact ⟨ho _ d,z,ne,k _ _ (.inl rfl) e,mA,⟨od,es,ep,k _ _ (.inr d) e2,c⟩,r⟩
 | own y=>obtain ⟨ob,e⟩:=x; exact ⟨ob,k _ _ (.inl rfl) e⟩
 | xd fs=>obtain ⟨mA,⟨od,es,ep,e,c⟩,r⟩:=x; exact ⟨mA,⟨od,es,ep,k _ _ (.inl rfl) e,c⟩,r⟩
 | rng lo hi=>obtain ⟨t,u,v,e⟩:=x; exact ⟨t,u,v,k _ _ (.inl rfl) e⟩
 | frz ob u ih=>obtain ⟨e,q⟩:=x; exact ⟨k _ _ (.inl rfl) e,ih q⟩
 | tbl ps =>
   have e : h.get? a = some { cls:=.none,data:=.fields ps }:=x
   show h'.get? a = some { cls:=.none,data:=.fields ps }
   exact k a _ (.inl rfl) e
 | met f y =>
   have e : h.get? a = some (PySem.W.methodObj (.ref f) (.ref y)):=x
   show h'.get? a = some (PySem.W.methodObj (.ref f) (.ref y))
   exact k a _ (.inl rfl) e
 | ext φ=>obtain ⟨p,⟨o,e⟩,st⟩:=x; exact ⟨st _ _ p fun o q=>k _ _ (.inl rfl) q,⟨o,k _ _ (.inl rfl) e⟩,st⟩
theorem HOk.lt (x : HOk P w H h) (e : H a = some o) : a < h.objs.size:=(x a o e).lt
theorem HOk.fresh (x : HOk P w H h) (e : h.objs.size <= a) : H a = none:=by
 cases q : H a with
 | none=>rfl
 | some u=>exact absurd (Nat.lt_of_lt_of_le (x.lt q) e) (Nat.lt_irrefl _)
theorem HOk.kept (x : HOk P w H h) (k : ∀ b u,h.get? b = some u -> h'.get? b = some u) : HOk P w H h':=fun a o e =>
 (x a o e).stay (fun b u _ q=>k b u q) (fun _ q=>q) fun _ _ q=>q
theorem HOk.laid (x : HOk P w H h) (k : ∀ b u,h.get? b = some u -> h'.get? b = some u) (hp : h.objs.size <= a) (new : zbM P w (upd H a o) h' a o) : HOk P w (upd H a o) h':=fun b u e=>by
 have hn:=x.fresh hp
 by_cases hb : b = a
 . subst hb; rw [zaB] at e; cases e; exact new
 . rw [zaG hb] at e
   exact (x b u e).stay (fun c v _ q=>k c v q) (fun c q=>by rw [zaG (zaQ q hn)]; exact q) fun c xs q=>by rw [zaG (zaQ q hn)]; exact q
end
def Rd (H : Hp) (a : Addr) (u : HO) : Prop:=H a = some u \/ ∃ o,H a = some (.frz o u)
theorem Rd.ok {P : Program} {w : World} {H : Hp} {h : Heap} {a : Addr} {u : HO} (r : Rd H a u) (x : HOk P w H h) : zbM P w H h a u:=by
 rcases r with r | ⟨o,r⟩
 . exact x a u r
 . obtain ⟨_,q⟩:=x a _ r
   exact q
def Mut : Option HO -> Prop
 | some (.lst _)=>True
 | some (.dK _)=>True
 | some (.dT _)=>True
 | some (.set _ _)=>True
 | some (.ins _ _ _)=>True
 | some (.ext _)=>True
 | _=>False
section
variable {P : Program} {w : World} {H : Hp} {h h' : Heap} {x e : Addr} {o' : HO}
theorem HOk.write (ok : HOk P w H h) (mu : Mut (H x)) (he : e = x \/ H e = some (.own x)) (k : ∀ b u,b ≠ e -> h.get? b = some u -> h'.get? b = some u) (heo : ∃ u,h'.get? e = some u)
   (new : zbM P w (upd H x o') h' x o') : HOk P w (upd H x o') h':=fun b u q=>by
 have nown : ∀ c y,H c = some (.own y) -> c ≠ x:=fun c y r z=>by subst z; rw [r] at mu; exact mu
 have ntup : ∀ c xs,H c = some (.tup xs) -> c ≠ x:=fun c xs r z=>by subst z; rw [r] at mu; exact mu
 by_cases hb : b = x
 . subst hb; rw [zaB] at q; cases q; exact new
 . rw [zaG hb] at q
   by_cases hbe : b = e
   . have q' : H b = some (.own x):=by
       rcases he with z | z
       . exact absurd (hbe.trans z) hb
       . rw [hbe]; exact z
     rw [q] at q'; cases q'
     obtain ⟨v,hv⟩:=heo
     exact ⟨v,by rw [hbe]; exact hv⟩
   . refine (ok b u q).stay (fun c v hc r=>k c v ?_ r) (fun c r=>by rw [zaG (nown c b r)]; exact r) fun c xs r=>by rw [zaG (ntup c xs r)]; exact r
     rcases hc with rfl | hc
     . exact hbe
     . rintro rfl
       rcases he with z | z
       . exact nown c b hc z
       . rw [hc] at z; cases z; exact hb rfl
end
structure Un (fs ex : List Addr) (H H' : Hp) (h h' : Heap) : Prop where
 keep : ∀ b o,h.get? b = some o -> H b = none -> b ∉ fs -> b ∉ ex -> h'.get? b = some o
 slot : ∀ b o,h.get? b = some o -> H b = none -> b ∈ fs -> b ∉ ex -> ∃ sl,h'.get? b = some { o with slots:=sl }
 free : ∀ b o,h.get? b = some o -> H b = none -> b ∉ ex -> H' b = none
 there : ∀ b o,h.get? b = some o -> b ∉ ex -> ∃ o',h'.get? b = some o'
 tups : ∀ b xs,H b = some (.tup xs) -> H' b = some (.tup xs)
 frzs : ∀ b o u,H b = some (.frz o u) -> H' b = some (.frz o u)
 tbls : ∀ b ps,H b = some (.tbl ps) -> ∃ more,H' b = some (.tbl (ps ++ more))
section
variable {fs fs' ex ex' : List Addr} {H H1 H2 : Hp} {h h1 h2 h' : Heap} {a x e : Addr} {o : HO}
theorem Un.any (u : Un fs ex H H1 h h1) {b : Addr} {ob : Obj} (q : h.get? b = some ob) (n : H b = none) (hx : b ∉ ex) : ∃ sl,h1.get? b = some { ob with slots:=sl }:=by
 by_cases hb : b ∈ fs
 . exact u.slot b ob q n hb hx
 . exact ⟨ob.slots,u.keep b ob q n hb hx⟩
theorem Un.kept (k : ∀ b u,h.get? b = some u -> h'.get? b = some u) : Un fs ex H H h h' :=
 ⟨fun b ob q _ _ _=>k b ob q,fun b ob q _ _ _=>⟨ob.slots,k b ob q⟩,fun _ _ _ n _=>n,fun b ob q _=>⟨ob,k b ob q⟩,fun _ _ q=>q,fun _ _ _ q=>q,fun _ ps q=>⟨#[],by rw [q]; simp⟩⟩
theorem Un.refl : Un fs ex H H h h:=Un.kept fun _ _ q=>q
theorem Un.laid (k : ∀ b u,h.get? b = some u -> h'.get? b = some u) (hp : h.objs.size <= a) (hn : H a = none) : Un fs ex H (upd H a o) h h' where
 keep:=fun b u q _ _ _=>k b u q
 slot:=fun b u q _ _ _=>⟨u.slots,k b u q⟩
 free:=fun b u q n _=>by rw [zaG (Nat.ne_of_lt (Nat.lt_of_lt_of_le (Heap.lt_size q) hp))]; exact n
 there:=fun b u q _=>⟨u,k b u q⟩
 tups:=fun b xs q=>by rw [zaG (zaQ q hn)]; exact q
 frzs:=fun b u xs q=>by rw [zaG (zaQ q hn)]; exact q
 tbls:=fun b ps q=>⟨#[],by rw [zaG (zaQ q hn),q]; simp⟩
theorem Un.write (mu : Mut (H x)) (he : e = x \/ H e = some (.own x)) (k : ∀ b u,b ≠ e -> h.get? b = some u -> h'.get? b = some u) (heo : ∃ u,h'.get? e = some u) : Un fs ex H (upd H x o) h h':=by
 have hx : ∀ b,H b = none -> b ≠ x:=fun b n z=>by subst z; rw [n] at mu; exact mu
 have hb : ∀ b,H b = none -> b ≠ e:=fun b n z=>by
   subst z
   rcases he with r | r
   . exact hx b n r
   . rw [n] at r; cases r
 have hm : ∀ b u,H b = some u -> ¬ Mut (some u) -> b ≠ x:=fun b u q nm z=>by subst z; rw [q] at mu; exact nm mu
 refine ⟨fun b u q n _ _=>k b u (hb b n) q,fun b u q n _ _=>⟨u.slots,k b u (hb b n) q⟩,fun b u q n _=>by rw [zaG (hx b n)]; exact n,fun b u q _=>?_,
   fun b xs q=>by rw [zaG (hm b _ q fun z=>z)]; exact q,fun b u xs q=>by rw [zaG (hm b _ q fun z=>z)]; exact q,fun b ps q=>⟨#[],by rw [zaG (hm b _ q fun z=>z),q]; simp⟩⟩
 by_cases hbe : b = e
 . subst hbe; exact heo
 . exact ⟨u,k b u hbe q⟩
end
def trk (h : Heap) (H : Hp) : List Addr:=(List.range h.objs.size).filter fun a=>(H a).isSome
def zjG (h : Heap) (H : Hp) : Heap:=PySem.W.hideAll h (trk h H)
theorem zn4 (h : Heap) (H : Hp) : (zjG h H).objs.size = h.objs.size:=PySem.W.hideAll_size _ _
theorem zqb {h : Heap} {H : Hp} {b : Addr} {o : Obj} (e : h.get? b = some o) (n : H b = none) : (zjG h H).get? b = some o :=
 PySem.W.hideAll_get _ e fun hm=>by
   have q : (H b).isSome = true:=(List.mem_filter.mp hm).2
   rw [n] at q; simp at q
theorem zqH {h : Heap} {H : Hp} {b : Addr} {o : Obj} (e : (zjG h H).get? b = some o) : h.get? b = some o /\ H b = none:=by
 have e' : h.get? b = some o:=PySem.W.of_hideAll (trk h H) e
 refine ⟨e',?_⟩
 cases q : H b with
 | none=>rfl
 | some x =>
   have hm : b ∈ trk h H:=List.mem_filter.mpr ⟨List.mem_range.mpr (Heap.lt_size e'),by simp [q]⟩
   have z : (zjG h H).get? b = none:=PySem.W.hideAll_none (trk h H) hm
   rw [z] at e; cases e
def zqA (g h : Heap) (L : Addr) : List (Addr × Obj):=(List.range h.objs.size).filterMap fun a=>if a = L \/ (g.get? a).isSome = true then none else (h.get? a).map fun o=>(a,o)
def zbO (g h : Heap) (L d : Addr) : List (Addr × Obj):=(zqA g h L).filter fun p=>decide (p.1 ≠ d)
end L2
namespace L2
open PySem PySem.Spec PyProof.Rows
structure Mod (K : PySem.W.Frag) (mg : Str -> Option Value) (base : Heap) : Prop where
 kin : K.In base
 glob : base.Ns mainGlobals mg
 blt : ∃ mb,base.Ns builtinsNs mb /\ ∀ x : Str,x ≠ "__name__" -> mb x = bootBuiltins x
 nolimit : base.NoLimit
structure Cx where
 prog : Program
 w : World
 K : PySem.W.Frag
 mg : Str -> Option Value
 base : Heap
 A : Around
 N : List Str
 s₀ : Shared
 H₀ : Hp
 env : Env
 outer : List Env
 stack : List Env
 ex : List Addr
 fn : Str -> Bool
 calm : Bool
 pn : List (Addr × Obj)
 xe : Value -> Shared -> Prop
def frs (l : List Env) : List Addr:=l.filterMap (·.frame)
abbrev Cx.fs (X : Cx) : List Addr:=frs X.outer
def Vis (sc : Scope) (x : Str) : Prop:=sc.names.lookup x = some .local \/ sc.names.lookup x = some .cell \/ sc.names.lookup x = some .free
def Loc (sc : Scope) (x : Str) : Prop:=sc.names.lookup x = some .local \/ sc.names.lookup x = some .cell
def zuL (env : Env) (h : Heap) (m : Str -> Option Value) (x : Str) (u : Value) : Prop :=
 (env.kindOf x = some .local /\ m x = some u) \/ ((env.kindOf x = some .cell \/ env.kindOf x = some .free) /\ ∃ c,env.cells.lookup x = some c /\ h.IsCell c (some u))
structure Cx.Ok (X : Cx) : Prop where
 mod : Mod X.K X.mg X.base
 kind : X.env.scope.kind = .function
 glob : X.env.globals = mainGlobals
 blt : X.env.builtins = builtinsNs
 above : X.s₀.heap.objs.size <= X.env.locals
 inj : ∀ x y c,X.env.cells.lookup x = some c -> X.env.cells.lookup y = some c -> x = y
 has : ∀ x,(X.env.kindOf x = some .cell \/ X.env.kindOf x = some .free) -> ∃ c,X.env.cells.lookup x = some c
 cab : ∀ x c,X.fn x = true -> X.env.cells.lookup x = some c -> X.s₀.heap.objs.size <= c
 hd : X.calm = true -> X.A.handled = none
 frames : X.A.frames = some X.stack
 stk : X.stack = X.outer \/ (X.stack = X.env :: X.outer /\ X.env.frame = some X.env.locals)
 exf : ∀ b ∈ X.ex,b ≠ X.env.locals /\ ∀ x c,X.env.cells.lookup x = some c -> c ≠ b
 bs : ∀ b o,X.base.get? b = some o -> X.s₀.heap.get? b = some o /\ X.H₀ b = none
 bsz : X.base.objs.size <= X.s₀.heap.objs.size
 noex : ∀ b o,X.base.get? b = some o -> b ∉ X.ex
 exfs : ∀ b ∈ X.ex,b ∉ X.fs
 funs : X.s₀.heap.FunFrames X.base X.outer
 frf : ∀ b ∈ X.fs,X.H₀ b = none
structure Inv (X : Cx) (pins : List (Addr × Obj)) (σ : List (Option V)) (H : Hp) (s : Shared) : Prop where
 ok : X.Ok
 os : s.os = X.s₀.os
 bare : AllBare s.gens
 base : Un X.fs X.ex X.H₀ H X.s₀.heap s.heap
 loc : ∃ m,s.heap.Ns X.env.locals m /\ ∀ (i : Nat) (x : Str) (v : V),X.N[i]? = some x -> σ[i]? = some (some v) -> Vis X.env.scope x -> ∃ u,zaJ v u /\ zuL X.env s.heap m x u
 cell : ∀ x c,X.env.cells.lookup x = some c -> ∃ v,s.heap.IsCell c v
 free : H X.env.locals = none
 freeC : ∀ x c,X.env.cells.lookup x = some c -> H c = none
 pin : ∀ p ∈ X.pn ++ pins,s.heap.get? p.1 = some p.2 /\ H p.1 = none /\ p.1 ≠ X.env.locals /\ p.1 ∉ X.fs /\ ∀ v,p.2.data ≠ .cell v
 hok : HOk X.prog X.w H s.heap
 len : σ.length = X.N.length
section
variable {X : Cx} {pins : List (Addr × Obj)} {σ : List (Option V)} {H H' : Hp} {s : Shared} {h' : Heap}
theorem Cx.Ok.nofr (ok : X.Ok) {b : Addr} {o : Obj} (e : X.base.get? b = some o) : b ∉ X.fs:=fun hb=>by
 have:=(ok.funs.mem hb).1
 rw [e] at this; cases this
theorem Inv.bs (I : Inv X pins σ H s) : ∀ b o,X.base.get? b = some o -> s.heap.get? b = some o /\ H b = none:=fun b o e =>
 ⟨I.base.keep b o (I.ok.bs b o e).1 (I.ok.bs b o e).2 (I.ok.nofr e) (I.ok.noex b o e),I.base.free b o (I.ok.bs b o e).1 (I.ok.bs b o e).2 (I.ok.noex b o e)⟩
theorem Inv.bk (I : Inv X pins σ H s) : ∀ b o,X.base.get? b = some o -> s.heap.get? b = some o:=fun b o e=>(I.bs b o e).1
theorem Inv.mod (I : Inv X pins σ H s) : Mod X.K X.mg X.base:=I.ok.mod
theorem Inv.kIn (I : Inv X pins σ H s) : X.K.In s.heap:=I.ok.mod.kin.keeps I.bk
theorem Inv.lt (I : Inv X pins σ H s) : X.env.locals < s.heap.objs.size:=let ⟨_,hn,_⟩:=I.loc; hn.lt
theorem Inv.sz (I : Inv X pins σ H s) : X.s₀.heap.objs.size <= s.heap.objs.size:=Nat.le_trans I.ok.above (Nat.le_of_lt I.lt)
theorem Inv.nofs (I : Inv X pins σ H s) {a : Addr} (h : s.heap.objs.size <= a) : a ∉ X.fs:=fun hb=>by
 obtain ⟨_,o,ho,_⟩:=I.ok.funs.mem hb
 exact absurd (Nat.lt_of_lt_of_le (Heap.lt_size ho) (Nat.le_trans I.sz h)) (Nat.lt_irrefl _)
theorem Inv.cne (I : Inv X pins σ H s) : ∀ x c,X.env.cells.lookup x = some c -> c ≠ X.env.locals:=fun x c e z=>by
 obtain ⟨v,o,ho,hd⟩:=I.cell x c e
 obtain ⟨m,⟨o',es,ep,ho',hd',_⟩,_⟩:=I.loc
 rw [z,ho'] at ho; cases ho; rw [hd'] at hd; cases hd
theorem Inv.funs (I : Inv X pins σ H s) : s.heap.FunFrames X.base X.outer:=by
 have all : ∀ (l : List Env),(∀ b ∈ frs l,b ∈ X.fs) -> X.s₀.heap.FunFrames X.base l -> s.heap.FunFrames X.base l:=by
   intro l
   induction l with
   | nil=>intro _ _; trivial
   | cons env r ih =>
     intro hs hl
     obtain ⟨hk,⟨L,o,hf,hn,ho,hd⟩,hr⟩:=hl
     have hL : L ∈ X.fs:=hs L (by unfold frs; rw [List.filterMap_cons,hf]; exact List.mem_cons_self)
     obtain ⟨sl,e⟩:=I.base.slot L o ho (I.ok.frf L hL) hL fun z=>I.ok.exfs L z hL
     exact ⟨hk,⟨L,_,hf,hn,e,hd⟩,ih (fun b hb=>hs b (by unfold frs; rw [List.filterMap_cons,hf]; exact List.mem_cons_of_mem _ hb)) hr⟩
 exact all X.outer (fun _ hb=>hb) I.ok.funs
theorem Inv.stack (I : Inv X pins σ H s) : s.heap.FunFrames X.base X.stack:=by
 rcases I.ok.stk with e | ⟨e,hf⟩
 . rw [e]; exact I.funs
 . rw [e]
   obtain ⟨m,hn,_⟩:=I.loc
   refine .cons (by rw [I.ok.kind]; decide) hf hn ?_ I.funs
   exact Heap.get?_none_of_le (Nat.le_trans I.ok.bsz I.ok.above)
theorem Inv.stkSub (I : Inv X pins σ H s) : ∀ b ∈ frs X.stack,b ∈ X.env.locals :: X.fs:=fun b hb=>by
 rcases I.ok.stk with e | ⟨e,hf⟩
 . rw [e] at hb; exact List.mem_cons_of_mem _ hb
 . rw [e] at hb
   unfold frs at hb
   rw [List.filterMap_cons,hf] at hb
   exact hb
theorem Inv.stkFree (I : Inv X pins σ H s) : ∀ b ∈ frs X.stack,H b = none:=fun b hb=>by
 rcases List.mem_cons.mp (I.stkSub b hb) with e | hb
 . rw [e]; exact I.free
 . obtain ⟨_,o,ho,_⟩:=I.ok.funs.mem hb
   exact I.base.free b o ho (I.ok.frf b hb) fun z=>I.ok.exfs b z hb
theorem Inv.step {g' : Array GenState} {t' : Nat} {d' : Drawn} {ch : List Addr} (I : Inv X pins σ H s)
   (hch : ∀ b ∈ ch,(b ∈ X.ex \/ X.s₀.heap.objs.size <= b) /\ b ≠ X.env.locals /\ (∀ x c,X.env.cells.lookup x = some c -> c ≠ b) /\ ∀ p ∈ X.pn ++ pins,p.1 ≠ b)
   (keep : ∀ b o,b ≠ X.env.locals -> b ∉ X.fs -> b ∉ ch -> s.heap.get? b = some o -> H b = none -> h'.get? b = some o)
   (slot : ∀ b o,b ≠ X.env.locals -> b ∈ X.fs -> b ∉ ch -> s.heap.get? b = some o -> H b = none -> ∃ sl,h'.get? b = some { o with slots:=sl }) (free : ∀ b o,b ∉ ch -> s.heap.get? b = some o -> H b = none -> H' b = none)
   (there : ∀ b o,b ∉ ch -> s.heap.get? b = some o -> ∃ o',h'.get? b = some o')
   (tups : ∀ b xs,H b = some (.tup xs) -> H' b = some (.tup xs)) (frzs : ∀ b o u,H b = some (.frz o u) -> H' b = some (.frz o u)) (tbls : ∀ b ps,H b = some (.tbl ps) -> ∃ more,H' b = some (.tbl (ps ++ more)))
   (ns : ∀ m,s.heap.Ns X.env.locals m -> h'.Ns X.env.locals m) (hok : HOk X.prog X.w H' h') (hg : AllBare g') :
   Inv X pins σ H' { s with heap:=h',gens:=g',drawn:=d',toks:=t' }:=by
 have neL : ∀ b o,X.s₀.heap.get? b = some o -> b ≠ X.env.locals:=fun b o e=>Nat.ne_of_lt (Nat.lt_of_lt_of_le (Heap.lt_size e) I.ok.above)
 have neC : ∀ b o,X.s₀.heap.get? b = some o -> b ∉ X.ex -> b ∉ ch:=fun b o e hx hb=>by
   rcases (hch b hb).1 with z | z
   . exact hx z
   . exact absurd (Nat.lt_of_lt_of_le (Heap.lt_size e) z) (Nat.lt_irrefl _)
 have cellK : ∀ x c,X.env.cells.lookup x = some c -> ∀ v,s.heap.IsCell c v -> h'.IsCell c v:=fun x c e v ⟨o,ho,hd⟩=>by
   have nch : c ∉ ch:=fun z=>(hch c z).2.2.1 x c e rfl
   by_cases hc : c ∈ X.fs
   . obtain ⟨sl,q⟩:=slot c o (I.cne x c e) hc nch ho (I.freeC x c e)
     exact ⟨_,q,hd⟩
   . exact ⟨o,keep c o (I.cne x c e) hc nch ho (I.freeC x c e),hd⟩
 refine ⟨I.ok,I.os,hg,⟨fun b o e n hb hx=>?_,fun b o e n hb hx=>?_,fun b o e n hx=>?_,fun b o e hx=>?_,fun b xs e=>tups b xs (I.base.tups b xs e),fun b o xs e=>frzs b o xs (I.base.frzs b o xs e),fun b ps e=>?_⟩,?_,fun x c e=>?_,?_,fun x c e=>?_,fun p hp=>?_,hok,I.len⟩
 . exact keep b o (neL b o e) hb (neC b o e hx) (I.base.keep b o e n hb hx) (I.base.free b o e n hx)
 . obtain ⟨sl,e1⟩:=I.base.slot b o e n hb hx
   obtain ⟨sl',e2⟩:=slot b _ (neL b o e) hb (neC b o e hx) e1 (I.base.free b o e n hx)
   exact ⟨sl',e2⟩
 . obtain ⟨o',e1⟩:=I.base.there b o e hx
   exact free b o' (neC b o e hx) e1 (I.base.free b o e n hx)
 . obtain ⟨o',e1⟩:=I.base.there b o e hx
   exact there b o' (neC b o e hx) e1
 . obtain ⟨m1,e1⟩:=I.base.tbls b ps e
   obtain ⟨m2,e2⟩:=tbls b _ e1
   exact ⟨m1 ++ m2,by rw [e2,Array.append_assoc]⟩
 . obtain ⟨m,hn,hl⟩:=I.loc
   refine ⟨m,ns m hn,fun i x v e1 e2 e3=>?_⟩
   obtain ⟨u,r,l⟩:=hl i x v e1 e2 e3
   refine ⟨u,r,?_⟩
   rcases l with l | ⟨k,c,e,z⟩
   . exact .inl l
   . exact .inr ⟨k,c,e,cellK x c e _ z⟩
 . obtain ⟨v,z⟩:=I.cell x c e
   exact ⟨v,cellK x c e v z⟩
 . obtain ⟨m,⟨o,_,_,ho,_⟩,_⟩:=I.loc
   exact free _ o (fun z=>(hch _ z).2.1 rfl) ho I.free
 . obtain ⟨v,o,ho,hd⟩:=I.cell x c e
   exact free c o (fun z=>(hch c z).2.2.1 x c e rfl) ho (I.freeC x c e)
 . obtain ⟨e,n,ne,nf,d⟩:=I.pin p hp
   have nch : p.1 ∉ ch:=fun z=>(hch p.1 z).2.2.2 p hp rfl
   exact ⟨keep p.1 p.2 ne nf nch e n,free p.1 p.2 nch e n,ne,nf,d⟩
theorem Inv.un {t' : Nat} (I : Inv X pins σ H s) (u : Un X.fs [] H H' s.heap h') (hok : HOk X.prog X.w H' h') : Inv X pins σ H' { s with heap:=h',toks:=t' }:=by
 obtain ⟨m,⟨o,es,ep,ho,r⟩,_⟩:=id I.loc
 obtain ⟨sl,hL⟩:=u.any ho I.free (by simp)
 exact I.step (g':=s.gens) (d':=s.drawn) (ch:=[]) (fun _ z=>nomatch z) (fun b o _ hb _ e n=>u.keep b o e n hb (by simp)) (fun b o _ hb _ e n=>u.slot b o e n hb (by simp)) (fun b o _ e n=>u.free b o e n (by simp)) (fun b o _ e=>u.there b o e (by simp)) u.tups u.frzs u.tbls (fun m' hm=>by
   obtain ⟨o',es',ep',ho',r'⟩:=hm
   rw [ho] at ho'; cases ho'
   exact ⟨_,es',ep',hL,r'⟩) hok I.bare
theorem Inv.call {g' : Array GenState} {t' : Nat} {d' : Drawn} {ch : List Addr} (I : Inv X pins σ H s) (u : Un (frs X.stack) ch H H' s.heap h') (hok : HOk X.prog X.w H' h') (hg : AllBare g')
   (hch : ∀ b ∈ ch,(b ∈ X.ex \/ X.s₀.heap.objs.size <= b) /\ b ≠ X.env.locals /\ (∀ x c,X.env.cells.lookup x = some c -> c ≠ b) /\ ∀ p ∈ X.pn ++ pins,p.1 ≠ b) :
   Inv X pins σ H' { s with heap:=h',gens:=g',drawn:=d',toks:=t' }:=by
 obtain ⟨m,⟨o,es,ep,ho,r⟩,_⟩:=id I.loc
 obtain ⟨sl,hL⟩:=u.any ho I.free fun z=>(hch _ z).2.1 rfl
 exact I.step (ch:=ch) hch (fun b o hL hb hc e n=>u.keep b o e n (fun z=>(List.mem_cons.mp (I.stkSub b z)).elim hL hb) hc) (fun b o _ _ hc e n=>u.any e n hc) (fun b o hc e n=>u.free b o e n hc) (fun b o hc e=>u.there b o e hc) u.tups u.frzs u.tbls (fun m' hm=>by
   obtain ⟨o',es',ep',ho',r'⟩:=hm
   rw [ho] at ho'; cases ho'
   exact ⟨_,es',ep',hL,r'⟩) hok hg
theorem Inv.turned {t' : Nat} {it : Addr} (I : Inv X pins σ H s) (k : ∀ b o,b ≠ it -> s.heap.get? b = some o -> h'.get? b = some o) (hn : H it = none) (hL : it ≠ X.env.locals)
   (h1 : it ∈ X.ex \/ X.s₀.heap.objs.size <= it) (h2 : ∀ x c,X.env.cells.lookup x = some c -> c ≠ it) (h3 : ∀ p ∈ X.pn ++ pins,p.1 ≠ it) : Inv X pins σ H { s with heap:=h',toks:=t' }:=by
 have nit : ∀ b u,H b = some u -> b ≠ it:=fun b u e z=>by rw [z,hn] at e; cases e
 refine I.step (g':=s.gens) (d':=s.drawn) (ch:=[it]) (fun b hb=>?_) (fun b o _ _ hc e _=>k b o (fun z=>hc (by simp [z])) e) (fun b o _ _ hc e _=>⟨o.slots,k b o (fun z=>hc (by simp [z])) e⟩) (fun _ _ _ _ n=>n)
   (fun b o hc e=>⟨o,k b o (fun z=>hc (by simp [z])) e⟩) (fun _ _ e=>e) (fun _ _ _ e=>e) (fun b ps e=>⟨#[],by rw [e]; simp⟩) (fun m hm=>?_) (fun b u e=>?_) I.bare
 . have e : b = it:=by simpa using hb
   subst e
   exact ⟨h1,hL,h2,h3⟩
 . obtain ⟨o,es,ep,ho,r⟩:=hm
   exact ⟨o,es,ep,k _ o (Ne.symm hL) ho,r⟩
 . refine (I.hok b u e).stay (fun c v hc q=>k c v ?_ q) (fun _ q=>q) fun _ _ q=>q
   rcases hc with z | z
   . rw [z]; exact nit b u e
   . exact nit c _ z
theorem Inv.tok (I : Inv X pins σ H s) (t : Nat) : Inv X pins σ H { s with toks:=t }:=I.un (h':=s.heap) (t':=t) Un.refl I.hok
theorem Inv.kept {t' : Nat} (I : Inv X pins σ H s) (k : ∀ b u,s.heap.get? b = some u -> h'.get? b = some u) : Inv X pins σ H { s with heap:=h',toks:=t' }:=I.un (Un.kept k) (I.hok.kept k)
theorem Inv.laid {a : Addr} {o : HO} {t' : Nat} (I : Inv X pins σ H s) (k : ∀ b u,s.heap.get? b = some u -> h'.get? b = some u) (hp : s.heap.objs.size <= a) (new : zbM X.prog X.w (upd H a o) h' a o) :
   Inv X pins σ (upd H a o) { s with heap:=h',toks:=t' }:=I.un (Un.laid k hp (I.hok.fresh hp)) (I.hok.laid k hp new)
theorem Inv.write {x e : Addr} {o : HO} {t' : Nat} (I : Inv X pins σ H s) (mu : Mut (H x)) (he : e = x \/ H e = some (.own x)) (k : ∀ b u,b ≠ e -> s.heap.get? b = some u -> h'.get? b = some u) (heo : ∃ u,h'.get? e = some u)
   (new : zbM X.prog X.w (upd H x o) h' x o) : Inv X pins σ (upd H x o) { s with heap:=h',toks:=t' }:=I.un (Un.write mu he k heo) (I.hok.write mu he k heo new)
theorem Inv.pins_of {pins' : List (Addr × Obj)} (I : Inv X pins σ H s) (h : ∀ p ∈ pins',s.heap.get? p.1 = some p.2 /\ H p.1 = none /\ p.1 ≠ X.env.locals /\ p.1 ∉ X.fs /\ ∀ v,p.2.data ≠ .cell v) : Inv X pins' σ H s :=
 ⟨I.ok,I.os,I.bare,I.base,I.loc,I.cell,I.free,I.freeC,fun p hp=>(List.mem_append.mp hp).elim (fun z=>I.pin p (List.mem_append_left _ z)) (h p),I.hok,I.len⟩
theorem zhU {N : List Str} (hN : N.Nodup) {i j : Nat} {x : Str} (a : N[i]? = some x) (b : N[j]? = some x) : i = j:=by
 obtain ⟨h1,e1⟩:=List.getElem?_eq_some_iff.mp a
 obtain ⟨h2,e2⟩:=List.getElem?_eq_some_iff.mp b
 exact (List.getElem_inj hN).mp (e1.trans e2.symm)
theorem zi2 {M : Model} {A : Around} {E : Value -> Shared -> Prop} {i : Nat} {x : Str} {v : V} {u : Value} {Q : Unit -> Shared -> Prop} (I : Inv X pins σ H s) (hN : X.N.Nodup) (hi : X.N[i]? = some x) (hx : Loc X.env.scope x) (r : zaJ v u)
   (h : ∀ s',Inv X pins (σ.set i (some v)) H s' -> (∃ a,Heap.SameBut a s.heap s'.heap /\ (a = X.env.locals \/ X.env.cells.lookup x = some a)) -> Q () s') (hf : X.fn x = true \/ X.env.scope.names.lookup x = some .local:=by first | exact .inl rfl | exact .inr rfl | assumption) : wpAny M A (storeName X.env x u) Q E s:=by
 obtain ⟨m,hn,hl⟩:=id I.loc
 have hcls : (X.env.scope.kind == .class || (X.env.scope.kind == .module && X.env.locals != X.env.globals)) = false:=by rw [I.ok.kind]; rfl
 have hiσ : i < σ.length:=by rw [I.len]; exact (List.getElem?_eq_some_iff.mp hi).1
 have cne:=I.cne
 have tracked : ∀ {a : Addr} {h' : Heap},(∃ o,s.heap.get? a = some o /\ H a = none) -> Heap.SameBut a s.heap h' -> HOk X.prog X.w H h':=fun {a h'} ha hs b ob e=>by
   obtain ⟨_,_,hfree⟩:=ha
   refine (I.hok b ob e).stay (fun c w' hc q=>(hs.2 c ?_).trans q) (fun _ q=>q) fun _ _ q=>q
   rintro rfl
   rcases hc with rfl | hc
   . rw [hfree] at e; cases e
   . rw [hfree] at hc; cases hc
 rcases hx with hk | hk
 . refine wpAny_storeName_local hk hn (fun h' hn' hs=>?_) hcls
   obtain ⟨oL,_,_,hoL,_⟩:=id hn
   refine h _ ⟨I.ok,I.os,I.bare,⟨fun b o e n hb hx=>?_,fun b o e n hb hx=>?_,I.base.free,fun b o e hx=>?_,I.base.tups,I.base.frzs,I.base.tbls⟩,⟨_,hn',fun j y v' e1 e2 e3=>?_⟩,fun y c e=>?_,I.free,I.freeC,fun p hp=>?_,tracked ⟨oL,hoL,I.free⟩ hs,by simpa using I.len⟩ ⟨_,hs,.inl rfl⟩
   . exact (hs.2 b (Nat.ne_of_lt (Nat.lt_of_lt_of_le (Heap.lt_size e) I.ok.above))).trans (I.base.keep b o e n hb hx)
   . obtain ⟨sl,e1⟩:=I.base.slot b o e n hb hx
     exact ⟨sl,(hs.2 b (Nat.ne_of_lt (Nat.lt_of_lt_of_le (Heap.lt_size e) I.ok.above))).trans e1⟩
   . obtain ⟨o',e1⟩:=I.base.there b o e hx
     exact ⟨o',(hs.2 b (Nat.ne_of_lt (Nat.lt_of_lt_of_le (Heap.lt_size e) I.ok.above))).trans e1⟩
   . by_cases hj : j = i
     . subst hj
       rw [hi] at e1; cases e1
       rw [List.getElem?_set_self hiσ] at e2
       cases e2
       exact ⟨u,r,.inl ⟨hk,by simp⟩⟩
     . rw [List.getElem?_set_ne (Ne.symm hj)] at e2
       obtain ⟨u',r',q⟩:=hl j y v' e1 e2 e3
       refine ⟨u',r',?_⟩
       rcases q with ⟨k,e⟩ | ⟨k,c,e,z⟩
       . refine .inl ⟨k,?_⟩
         have : y ≠ x:=fun e=>hj (zhU hN e1 (e ▸ hi))
         simp [this,e]
       . exact .inr ⟨k,c,e,z.sameBut hs (cne y c e)⟩
   . obtain ⟨w',z⟩:=I.cell y c e
     exact ⟨w',z.sameBut hs (cne y c e)⟩
   . obtain ⟨e,n,ne,nf,d⟩:=I.pin p hp
     exact ⟨(hs.2 p.1 ne).trans e,n,ne,nf,d⟩
 . have hfn : X.fn x = true:=by
     rcases hf with z | z
     . exact z
     . rw [z] at hk; cases hk
   obtain ⟨c,hc⟩:=I.ok.has x (.inl hk)
   obtain ⟨w',z⟩:=I.cell x c hc
   refine wpAny_storeName_cell I.ok.kind hk hc z (fun h' hc' hs=>?_)
   obtain ⟨oc,hoc,hocd⟩:=id z
   refine h { s with heap:=h' } ⟨I.ok,I.os,I.bare,⟨fun b o e n hb hx=>?_,fun b o e n hb hx=>?_,I.base.free,fun b o e hx=>?_,I.base.tups,I.base.frzs,I.base.tbls⟩,⟨m,hn.sameBut hs (Ne.symm (cne x c hc)),fun j y v' e1 e2 e3=>?_⟩,fun y c' e=>?_,I.free,I.freeC,fun p hp=>?_,tracked ⟨oc,hoc,I.freeC x c hc⟩ hs,by simpa using I.len⟩ ⟨c,hs,.inr hc⟩
   . exact (hs.2 b (Nat.ne_of_lt (Nat.lt_of_lt_of_le (Heap.lt_size e) (I.ok.cab x c hfn hc)))).trans (I.base.keep b o e n hb hx)
   . obtain ⟨sl,e1⟩:=I.base.slot b o e n hb hx
     exact ⟨sl,(hs.2 b (Nat.ne_of_lt (Nat.lt_of_lt_of_le (Heap.lt_size e) (I.ok.cab x c hfn hc)))).trans e1⟩
   . obtain ⟨o',e1⟩:=I.base.there b o e hx
     exact ⟨o',(hs.2 b (Nat.ne_of_lt (Nat.lt_of_lt_of_le (Heap.lt_size e) (I.ok.cab x c hfn hc)))).trans e1⟩
   . by_cases hj : j = i
     . subst hj
       rw [hi] at e1; cases e1
       rw [List.getElem?_set_self hiσ] at e2
       cases e2
       exact ⟨u,r,.inr ⟨.inl hk,c,hc,hc'⟩⟩
     . rw [List.getElem?_set_ne (Ne.symm hj)] at e2
       obtain ⟨u',r',q⟩:=hl j y v' e1 e2 e3
       refine ⟨u',r',?_⟩
       rcases q with q | ⟨k,c',e,z'⟩
       . exact .inl q
       . refine .inr ⟨k,c',e,z'.sameBut hs ?_⟩
         rintro rfl
         exact hj (zhU hN e1 (I.ok.inj _ _ _ e hc ▸ hi))
   . by_cases hcc : c' = c
     . subst hcc; exact ⟨_,hc'⟩
     . obtain ⟨w2,z2⟩:=I.cell y c' e
       exact ⟨w2,z2.sameBut hs hcc⟩
   . obtain ⟨e,n,ne,nf,d⟩:=I.pin p hp
     refine ⟨(hs.2 p.1 ?_).trans e,n,ne,nf,d⟩
     intro q
     rw [q,hoc] at e
     have q' : oc = p.2:=Option.some.inj e
     exact d w' (by rw [<- q']; exact hocd)
theorem zen {M : Model} {A : Around} {E : Value -> Shared -> Prop} {i : Nat} {x : Str} {v : V} {u : Value} {Q : Unit -> Shared -> Prop} (I : Inv X pins σ H s) (hN : X.N.Nodup) (hi : X.N[i]? = some x) (hx : Loc X.env.scope x) (r : zaJ v u)
   (h : ∀ s',Inv X pins (σ.set i (some v)) H s' -> Q () s') (hf : X.fn x = true \/ X.env.scope.names.lookup x = some .local:=by first | exact .inl rfl | exact .inr rfl | assumption) : wpAny M A (storeName X.env x u) Q E s :=
 zi2 I hN hi hx r (fun s' I' _=>h s' I') hf
theorem Inv.call' {s' : Shared} {ch : List Addr} (I : Inv X pins σ H s) (ho : s'.os = s.os) (u : Un (frs X.stack) ch H H' s.heap s'.heap) (hok : HOk X.prog X.w H' s'.heap) (hg : AllBare s'.gens)
   (hch : ∀ b ∈ ch,(b ∈ X.ex \/ X.s₀.heap.objs.size <= b) /\ b ≠ X.env.locals /\ (∀ x c,X.env.cells.lookup x = some c -> c ≠ b) /\ ∀ p ∈ X.pn ++ pins,p.1 ≠ b) : Inv X pins σ H' s':=by
 obtain ⟨h',g',d',t',o'⟩:=s'
 have e : o' = s.os:=ho
 subst e
 exact I.call (g':=g') (t':=t') (d':=d') u hok hg hch
end
abbrev XK:=Value -> Option Addr -> Hp -> Prop
abbrev St:=List (Option V)
abbrev VK:=V -> Hp -> Prop
abbrev TE:=St -> Hp -> VK -> Prop
abbrev TT:=St -> Hp -> (Bool -> Hp -> Prop) -> Prop
abbrev TA:=St -> Hp -> (List V -> Hp -> Prop) -> Prop
structure zb7 where
 nx : St -> Hp -> Prop
 rt : VK
 bk : St -> Hp -> Prop:=fun _ _=>False
 ct : St -> Hp -> Prop:=fun _ _=>False
abbrev TS:=zb7 -> St -> Hp -> Prop
def EP (X : Cx) (pins : List (Addr × Obj)) (σ : St) (Q : VK) (u : Value) (s' : Shared) : Prop:=∃ v H',Inv X pins σ H' s' /\ zaJ v u /\ Q v H'
def TP (X : Cx) (pins : List (Addr × Obj)) (σ : St) (Q : Bool -> Hp -> Prop) (b : Bool) (s' : Shared) : Prop:=∃ H',Inv X pins σ H' s' /\ Q b H'
def AP (X : Cx) (pins : List (Addr × Obj)) (σ : St) (Q : List V -> Hp -> Prop) (us : List Value) (s' : Shared) : Prop:=∃ vs H',Inv X pins σ H' s' /\ zav vs us /\ Q vs H'
def SP (X : Cx) (pins : List (Addr × Obj)) (D : zb7) (f : Flow) (s' : Shared) : Prop :=
 match f with
 | .next=>∃ σ' H',Inv X pins σ' H' s' /\ D.nx σ' H'
 | .brk=>∃ σ' H',Inv X pins σ' H' s' /\ D.bk σ' H'
 | .cont=>∃ σ' H',Inv X pins σ' H' s' /\ D.ct σ' H'
 | .ret u=>∃ v σ' H',Inv X pins σ' H' s' /\ zaJ v u /\ D.rt v H'
def PE (X : Cx) (e : Expr) (t : TE) : Prop :=
 ∀ (pins : List (Addr × Obj)) (s : Shared) (σ : St) (H : Hp) (Q : VK),Inv X pins σ H s -> t σ H Q -> wpAny (model X.prog X.w) X.A (eval e X.env) (EP X pins σ Q) X.xe s
def PT (X : Cx) (e : Expr) (t : TT) : Prop :=
 ∀ (pins : List (Addr × Obj)) (s : Shared) (σ : St) (H : Hp) (Q : Bool -> Hp -> Prop),Inv X pins σ H s -> t σ H Q -> wpAny (model X.prog X.w) X.A (isTrue e X.env (eval e X.env)) (TP X pins σ Q) X.xe s
def PW (X : Cx) (e : Expr) (t : TT) : Prop :=
 ∀ (whole : Sem Value) (pins : List (Addr × Obj)) (s : Shared) (σ : St) (H : Hp) (Q : Bool -> Hp -> Prop),Inv X pins σ H s -> t σ H Q -> wpAny (model X.prog X.w) X.A (isTrue e X.env whole) (TP X pins σ Q) X.xe s
theorem PW.pt {X : Cx} {e : Expr} {t : TT} (h : PW X e t) : PT X e t:=h _
def PA (X : Cx) (es : List Expr) (t : TA) : Prop :=
 ∀ (pos : Pos) (pins : List (Addr × Obj)) (s : Shared) (σ : St) (H : Hp) (Q : List V -> Hp -> Prop),Inv X pins σ H s -> t σ H Q -> wpAny (model X.prog X.w) X.A (spliced (backTo pos (starEach es X.env))) (AP X pins σ Q) X.xe s
def PS (X : Cx) (st : Stmt) (t : TS) : Prop :=
 ∀ (pins : List (Addr × Obj)) (s : Shared) (σ : St) (H : Hp) (D : zb7),Inv X pins σ H s -> t D σ H -> wpAny (model X.prog X.w) X.A (exec st X.env) (SP X pins D) X.xe s
def PSs (X : Cx) (st : List Stmt) (t : TS) : Prop :=
 ∀ (pins : List (Addr × Obj)) (s : Shared) (σ : St) (H : Hp) (D : zb7),Inv X pins σ H s -> t D σ H -> wpAny (model X.prog X.w) X.A (execs st X.env) (SP X pins D) X.xe s
theorem thn {α : Type} {t : Sem α} {Q Q' : α -> Shared -> Prop} {M : Model} {A : Around} {E : Value -> Shared -> Prop} {s : Shared} (h : wpAny M A t Q E s) (hQ : ∀ a s,Q a s -> Q' a s) : wpAny M A t Q' E s:=wpAny_mono h hQ fun _ _ x=>x
end L2
namespace L2
open PySem PySem.Spec PyProof.Rows
section
variable {X : Cx}
def zoN (i : Nat) : TE:=fun σ H Q=>∃ v,σ[i]? = some (some v) /\ Q v H
def tC (v : V) : TE:=fun _ H Q=>Q v H
theorem zst {i : Nat} {x : Str} {pos : Pos} (hN : X.N[i]? = some x) (hv : Vis X.env.scope x) (hd : (x == ("__debug__" : Str)) = false:=by decide) (hcd : (x == ("__classdict__" : Str)) = false:=by decide) : PE X (.Name x pos) (zoN i):=by
 intro pins s σ H Q I h
 obtain ⟨v,e,h⟩:=h
 obtain ⟨m,hn,hl⟩:=I.loc
 obtain ⟨u,r,l⟩:=hl i x v hN e hv
 have fin : EP X pins σ Q u s:=⟨v,H,I,r,h⟩
 rcases l with ⟨hk,hm⟩ | ⟨hk,c,hc,hcell⟩
 . exact wpAny_Name (wpAny_loadName_local I.ok.kind hk hn hm fin) hd
 . rcases hk with hk | hk
   . exact wpAny_Name (wpAny_loadName_cell I.ok.kind hk hc hcell fin) hd
   . exact wpAny_Name (wpAny_loadName_free I.ok.kind hk hc hcell fin hcd) hd
theorem zaf {i j pos} : PE X (.Constant (.int i) j pos) (tC (.int i)):=fun _ _ _ H _ I h=>wpAny_Constant_int ⟨.int i,H,I.tok _,⟨_,rfl⟩,h⟩
theorem zcn {b j pos} : PE X (.Constant (.bool b) j pos) (tC (.bl b)):=fun _ _ _ H _ I h=>Constant_bool ⟨.bl b,H,I,rfl,h⟩
theorem zsO {j pos} : PE X (.Constant .none j pos) (tC .non):=fun _ _ _ H _ I h=>Constant_none ⟨.non,H,I,rfl,h⟩
theorem zba {x j pos} : PE X (.Constant (.str x) j pos) (tC (.str x)):=fun _ _ _ H _ I h=>Calls.Constant_str ⟨.str x,H,I.tok _,⟨_,rfl⟩,h⟩
def Gl (X : Cx) (x : Str) : Prop:=X.env.kindOf x = some .globalImplicit
theorem zf3 {E : Value -> Shared -> Prop} {pins : List (Addr × Obj)} {s : Shared} {σ : St} {H : Hp} {x : Str} {u : Value} {pos : Pos} {Q : Value -> Shared -> Prop} (I : Inv X pins σ H s) (hg : Gl X x) (hm : X.mg x = some u) (h : Q u s)
   (hd : (x == ("__debug__" : Str)) = false:=by decide) : wpAny (model X.prog X.w) X.A (eval (.Name x pos) X.env) Q E s :=
 Calls.Name_function_global I.ok.kind hg (Calls.loadGlobal_global (by rw [I.ok.glob]; exact I.mod.glob.keeps I.bk) hm h) hd
theorem zfA {E : Value -> Shared -> Prop} {pins : List (Addr × Obj)} {s : Shared} {σ : St} {H : Hp} {x : Str} {u : Value} {pos : Pos} {Q : Value -> Shared -> Prop} (I : Inv X pins σ H s) (hg : Gl X x) (hm : X.mg x = none) (hv : bootBuiltins x = some u) (h : Q u s)
   (hn : x ≠ "__name__":=by decide) (hd : (x == ("__debug__" : Str)) = false:=by decide) : wpAny (model X.prog X.w) X.A (eval (.Name x pos) X.env) Q E s:=by
 obtain ⟨mb,h1,h2⟩:=I.mod.blt
 exact Calls.Name_function_global I.ok.kind hg (Calls.loadGlobal_builtin (by rw [I.ok.glob]; exact I.mod.glob.keeps I.bk) hm (by rw [I.ok.blt]; exact h1.keeps I.bk) ((h2 x hn).trans hv) h) hd
theorem zaX {x : Str} {v : V} {u : Value} {pos : Pos} (hg : Gl X x) (hm : X.mg x = some u) (r : zaJ v u) (hd : (x == ("__debug__" : Str)) = false:=by decide) : PE X (.Name x pos) (tC v) :=
 fun _ _ _ H _ I h=>zf3 I hg hm ⟨v,H,I,r,h⟩ hd
theorem zcX {x : Str} {v : V} {u : Value} {pos : Pos} (hg : Gl X x) (hm : X.mg x = none) (hv : bootBuiltins x = some u) (r : zaJ v u) (hn : x ≠ "__name__":=by decide) (hd : (x == ("__debug__" : Str)) = false:=by decide) : PE X (.Name x pos) (tC v) :=
 fun _ _ _ H _ I h=>zfA I hg hm hv ⟨v,H,I,r,h⟩ hn hd
def t2I (ta tb : TE) (k : Int -> Int -> Hp -> Prop) : St -> Hp -> Prop:=fun σ H=>ta σ H fun x H1=>tb σ H1 fun y H2=>∃ i j,x = .int i /\ y = .int j /\ k i j H2
variable {a b : Expr} {ta tb : TE} {pos : Pos}
def zob (p : Int -> Int -> Bool) (ta tb : TE) : TE:=fun σ H Q=>t2I ta tb (fun i j H2=>Q (.bl (p i j)) H2) σ H
abbrev tLt : TE -> TE -> TE:=zob fun i j=>decide (i < j)
abbrev tLe : TE -> TE -> TE:=zob fun i j=>decide (i <= j)
abbrev tGt : TE -> TE -> TE:=zob fun i j=>decide (j < i)
abbrev tGe : TE -> TE -> TE:=zob fun i j=>decide (j <= i)
abbrev zuX : TE -> TE -> TE:=zob fun i j=>decide (i = j)
abbrev zuZ : TE -> TE -> TE:=zob fun i j=>!decide (i = j)
def tB (t : TE) : TT:=fun σ H Q=>t σ H fun x H1=>∃ c,x = .bl c /\ Q c H1
theorem zbe {e : Expr} {t : TE} (h : PE X e t) (he : ∀ whole,isTrue e X.env whole = (do let v <- whole; standAt e.pos; holding [v] (truthy v)):=by intro _; rfl) : PT X e (tB t):=by
 intro pins s σ H Q I hw
 refine isTrue_plain (thn (h pins s σ H _ I hw) fun v s1 ⟨x,H1,I1,r1,q1⟩=>?_) (he _)
 obtain ⟨d,rfl,q⟩:=q1
 cases r1
 exact wpAny_truthy_bool ⟨H1,I1,q⟩
variable {tA tB' : TT} {zbO : List Expr}
def ztR (t u : TT) : TT:=fun σ H Q=>t σ H fun c H1=>if c = true then u σ H1 Q else Q false H1
def tOr (t u : TT) : TT:=fun σ H Q=>t σ H fun c H1=>if c = true then Q true H1 else u σ H1 Q
def zt8 (t : TT) : TT:=fun σ H Q=>t σ H fun c H1=>Q (!c) H1
theorem znw (ha : PT X a tA) : PW X (.BoolOp .And [a] pos) tA:=by
 intro wh pins s σ H Q I h
 refine isTrue_and (thn (ha pins s σ H Q I h) fun c s1 e=>?_)
 cases c with
 | true=>exact isTrue_and_nil e
 | false=>exact e
theorem zdg (ha : PT X a tA) : PW X (.BoolOp .Or [a] pos) tA:=by
 intro wh pins s σ H Q I h
 refine isTrue_or (thn (ha pins s σ H Q I h) fun c s1 e=>?_)
 cases c with
 | false=>exact isTrue_or_nil e
 | true=>exact e
theorem zpc (ha : PT X a tA) (hb : PW X (.BoolOp .And (b :: zbO) pos) tB') : PW X (.BoolOp .And (a :: b :: zbO) pos) (ztR tA tB'):=by
 intro wh pins s σ H Q I h
 refine isTrue_and (thn (ha pins s σ H _ I h) fun c s1 ⟨H1,I1,q1⟩=>?_)
 cases c with
 | true=>exact hb wh pins s1 σ H1 Q I1 q1
 | false=>exact ⟨H1,I1,q1⟩
theorem zem (ha : PT X a tA) (hb : PW X (.BoolOp .Or (b :: zbO) pos) tB') : PW X (.BoolOp .Or (a :: b :: zbO) pos) (tOr tA tB'):=by
 intro wh pins s σ H Q I h
 refine isTrue_or (thn (ha pins s σ H _ I h) fun c s1 ⟨H1,I1,q1⟩=>?_)
 cases c with
 | true=>exact ⟨H1,I1,q1⟩
 | false=>exact hb wh pins s1 σ H1 Q I1 q1
theorem zbm (ha : PT X a tA) : PT X (.UnaryOp .Not a pos) (zt8 tA):=by
 intro pins s σ H Q I h
 exact isTrue_not (ha pins s σ H (fun c H1=>Q (!c) H1) I h)
def zsh (ta tb : TE) : TE:=fun σ H Q=>ta σ H fun x H1=>∃ c,x = .bl c /\ if c = true then tb σ H1 Q else Q (.bl false) H1
def ztU (ta tb : TE) : TE:=fun σ H Q=>ta σ H fun x H1=>∃ c,x = .bl c /\ if c = true then Q (.bl true) H1 else tb σ H1 Q
def zsa (ta : TE) : TE:=fun σ H Q=>ta σ H fun x H1=>∃ c,x = .bl c /\ Q (.bl (!c)) H1
theorem zdX {op} {t : TE} (h : PE X a t) : PE X (.BoolOp op [a] pos) t:=fun pins s σ H Q I hw=>BoolOp_one (h pins s σ H Q I hw)
theorem zcj (ha : PE X a ta) (hb : PE X (.BoolOp .And (b :: zbO) pos) tb) : PE X (.BoolOp .And (a :: b :: zbO) pos) (zsh ta tb):=by
 intro pins s σ H Q I h
 refine BoolOp_and (thn (ha pins s σ H _ I h) fun v s1 ⟨x,H1,I1,r1,q1⟩=>?_)
 obtain ⟨c,rfl,q1⟩:=q1
 cases r1
 refine wpAny_truthy_bool ?_
 cases c with
 | true=>exact hb pins s1 σ H1 Q I1 q1
 | false=>exact ⟨.bl false,H1,I1,rfl,q1⟩
theorem ztV (ha : PE X a ta) (hb : PE X (.BoolOp .Or (b :: zbO) pos) tb) : PE X (.BoolOp .Or (a :: b :: zbO) pos) (ztU ta tb):=by
 intro pins s σ H Q I h
 refine BoolOp_or (thn (ha pins s σ H _ I h) fun v s1 ⟨x,H1,I1,r1,q1⟩=>?_)
 obtain ⟨c,rfl,q1⟩:=q1
 cases r1
 refine wpAny_truthy_bool ?_
 cases c with
 | false=>exact hb pins s1 σ H1 Q I1 q1
 | true=>exact ⟨.bl true,H1,I1,rfl,q1⟩
theorem zh8 (ha : PE X a ta) : PE X (.UnaryOp .Not a pos) (zsa ta):=by
 intro pins s σ H Q I h
 refine UnaryOp_ (thn (ha pins s σ H _ I h) fun v s1 ⟨x,H1,I1,r1,q1⟩=>?_)
 obtain ⟨c,rfl,q1⟩:=q1
 cases r1
 exact not_of (wpAny_truthy_bool ⟨.bl (!c),H1,I1,rfl,q1⟩)
def tIf (t : TT) (ta tb : TE) : TE:=fun σ H Q=>t σ H fun c H1=>if c = true then ta σ H1 Q else tb σ H1 Q
theorem zhA {c : Expr} (hc : PT X c tA) (ha : PE X a ta) (hb : PE X b tb) : PE X (.IfExp c a b pos) (tIf tA ta tb):=by
 intro pins s σ H Q I h
 refine wpAny_IfExp (thn (hc pins s σ H _ I h) fun d s1 ⟨H1,I1,q1⟩=>?_)
 cases d with
 | true=>exact ha pins s1 σ H1 Q I1 q1
 | false=>exact hb pins s1 σ H1 Q I1 q1
end
end L2
namespace L2
open PySem PySem.Spec PyProof.Rows
def SqL (K : PySem.W.Frag) (H : Hp) (a : Addr) (xs : List V) : Prop :=
 Rd H a (.lst xs) \/
   ∃ (o : Obj) (its : Array Value) (n : Nat),K.lookup a = some o /\ o.cls = .type "list" /\ o.dict = none /\ o.data = .seq its n /\ its.size <= sizeLine /\ zav xs its.toList
def SqT (K : PySem.W.Frag) (H : Hp) (a : Addr) (xs : List V) : Prop :=
 Rd H a (.tup xs) \/
   ∃ (o : Obj) (its : Array Value) (n : Nat),K.lookup a = some o /\ o.cls = .type "tuple" /\ o.data = .seq its n /\ its.size <= sizeLine /\ zav xs its.toList
def zuM : Value -> Option V
 | .none=>some .non
 | .bool b=>some (.bl b)
 | .int i _=>some (.int i)
 | .str x _=>some (.str x)
 | .bytes b _=>some (.byt b)
 | .float b _=>some (.flt b)
 | .ref a=>some (.ref a)
 | .type n=>some (.ty n)
 | _=>none
theorem zaJ.abs {x : V} {u : Value} (r : zaJ x u) : zuM u = some x:=by
 cases x with
 | non=>cases r; rfl
 | bl _=>cases r; rfl
 | int _=>obtain ⟨t,rfl⟩:=r; rfl
 | str _=>obtain ⟨t,rfl⟩:=r; rfl
 | byt _=>obtain ⟨t,rfl⟩:=r; rfl
 | flt _=>obtain ⟨t,rfl⟩:=r; rfl
 | ref _=>cases r; rfl
 | ty _=>cases r; rfl
theorem zaJ.inj {x y : V} {u : Value} (r : zaJ x u) (q : zaJ y u) : x = y:=Option.some.inj (r.abs.symm.trans q.abs)
theorem zav.inj : ∀ {xs ys : List V} {us : List Value},zav xs us -> zav ys us -> xs = ys
 | _,_,_,.nil,.nil=>rfl
 | _,_,_,.cons r t,.cons r' t'=>by rw [r.inj r',zav.inj t t']
section
variable {X : Cx} {pins : List (Addr × Obj)} {σ : St} {H : Hp} {s : Shared} {a : Addr} {xs ys : List V}
theorem SqL.of {K : PySem.W.Frag} (h : H a = some (.lst xs)) : SqL K H a xs:=.inl (.inl h)
theorem SqT.of {K : PySem.W.Frag} (h : H a = some (.tup xs)) : SqT K H a xs:=.inl (.inl h)
theorem Inv.list (I : Inv X pins σ H s) (h : SqL X.K H a xs) : ∃ its : List Value,zav xs its /\ PlainL s.heap a its.toArray /\ xs.length <= sizeLine:=by
 rcases h with h | ⟨o,its,n,hk,hc,hd,hs,hz,r⟩
 . obtain ⟨z,its,n,r,e⟩:=h.ok I.hok
   exact ⟨its,r,⟨_,n,e,rfl,rfl,rfl⟩,z⟩
 . refine ⟨its.toList,r,⟨o,n,I.kIn a o hk,hc,hd,by simpa using hs⟩,?_⟩
   have e:=r.length
   simp only [Array.length_toList] at e
   lia
theorem Inv.tuple (I : Inv X pins σ H s) (h : SqT X.K H a xs) : ∃ its : List Value,zav xs its /\ IsTup s.heap a its.toArray /\ xs.length <= sizeLine:=by
 rcases h with h | ⟨o,its,n,hk,hc,hs,hz,r⟩
 . obtain ⟨z,its,r,p⟩:=h.ok I.hok
   exact ⟨its,r,p,z⟩
 . refine ⟨its.toList,r,⟨o,I.kIn a o hk,hc,n,by simpa using hs⟩,?_⟩
   have e:=r.length
   simp only [Array.length_toList] at e
   lia
theorem Inv.list_inj (I : Inv X pins σ H s) (h : SqL X.K H a xs) (h' : SqL X.K H a ys) : xs = ys:=by
 obtain ⟨its,r,⟨o,n,e,_,_,d⟩,_⟩:=I.list h
 obtain ⟨its',r',⟨o',n',e',_,_,d'⟩,_⟩:=I.list h'
 rw [e] at e'; cases e'
 rw [d] at d'
 injection d' with d1 _
 have : its = its':=by simpa using congrArg Array.toList d1
 subst this
 exact r.inj r'
theorem Inv.tuple_inj (I : Inv X pins σ H s) (h : SqT X.K H a xs) (h' : SqT X.K H a ys) : xs = ys:=by
 obtain ⟨its,r,⟨o,e,_,n,d⟩,_⟩:=I.tuple h
 obtain ⟨its',r',⟨o',e',_,n',d'⟩,_⟩:=I.tuple h'
 rw [e] at e'; cases e'
 rw [d] at d'
 injection d' with d1 _
 have : its = its':=by simpa using congrArg Array.toList d1
 subst this
 exact r.inj r'
end
abbrev Cx.wish (X : Cx) (E : Value -> Shared -> Prop) : Cx:={ X with xe:=E }
abbrev Cx.nox (X : Cx) : Cx:=X.wish fun _ _=>False
theorem Cx.Ok.wish {X : Cx} (ok : X.Ok) (E : Value -> Shared -> Prop) : (X.wish E).Ok :=
 ⟨ok.mod,ok.kind,ok.glob,ok.blt,ok.above,ok.inj,ok.has,ok.cab,ok.hd,ok.frames,ok.stk,ok.exf,ok.bs,ok.bsz,ok.noex,ok.exfs,ok.funs,ok.frf⟩
theorem Cx.Ok.unwish {X : Cx} {E : Value -> Shared -> Prop} (ok : (X.wish E).Ok) : X.Ok :=
 ⟨ok.mod,ok.kind,ok.glob,ok.blt,ok.above,ok.inj,ok.has,ok.cab,ok.hd,ok.frames,ok.stk,ok.exf,ok.bs,ok.bsz,ok.noex,ok.exfs,ok.funs,ok.frf⟩
section
variable {X : Cx} {pins : List (Addr × Obj)} {σ : St} {H : Hp} {s : Shared} {E : Value -> Shared -> Prop}
theorem Inv.wish (I : Inv X pins σ H s) (E : Value -> Shared -> Prop) : Inv (X.wish E) pins σ H s:=⟨I.ok.wish E,I.os,I.bare,I.base,I.loc,I.cell,I.free,I.freeC,I.pin,I.hok,I.len⟩
theorem Inv.unwish (I : Inv (X.wish E) pins σ H s) : Inv X pins σ H s:=⟨I.ok.unwish,I.os,I.bare,I.base,I.loc,I.cell,I.free,I.freeC,I.pin,I.hok,I.len⟩
theorem SP.unwish {D : zb7} {f : Flow} {s' : Shared} (h : SP (X.wish E) pins D f s') : SP X pins D f s':=by
 cases f with
 | next=>obtain ⟨σ',H',I,q⟩:=h; exact ⟨σ',H',I.unwish,q⟩
 | brk=>obtain ⟨σ',H',I,q⟩:=h; exact ⟨σ',H',I.unwish,q⟩
 | cont=>obtain ⟨σ',H',I,q⟩:=h; exact ⟨σ',H',I.unwish,q⟩
 | ret u=>obtain ⟨v,σ',H',I,r,q⟩:=h; exact ⟨v,σ',H',I.unwish,r,q⟩
theorem PSs.nox {st : List Stmt} {t : TS} (h : PSs X.nox st t) : PSs X st t:=fun pins s σ H D I hw =>
 wpAny_mono (h pins s σ H D (I.wish _) hw) (fun _ _ q=>q.unwish) fun _ _ z=>False.elim z
end
section
variable {X : Cx} {st : Stmt} {zbO : List Stmt} {t u : TS} {e : Expr} {te : TE} {pos : Pos}
def zrW : TS:=fun D σ H=>D.nx σ H
def zs8 (t u : TS) : TS:=fun D σ H=>t { D with nx:=u D } σ H
theorem zaw : PSs X [] zrW:=fun _ _ σ H _ I h=>wpAny_execs_nil ⟨σ,H,I,h⟩
theorem zac (h1 : PS X st t) (h2 : PSs X zbO u) : PSs X (st :: zbO) (zs8 t u):=by
 intro pins s σ H D I h
 refine wpAny_execs_cons (thn (h1 pins s σ H { D with nx:=u D } I h) fun f s1 q=>?_)
 cases f with
 | next =>
   obtain ⟨σ',H',I',q⟩:=q
   exact h2 pins s1 σ' H' D I' q
 | ret v=>exact q
 | brk=>exact q
 | cont=>exact q
theorem zad (h1 : PS X st t) : PSs X [st] t:=by
 intro pins s σ H D I h
 refine wpAny_execs_cons (thn (h1 pins s σ H D I h) fun f s1 q=>?_)
 cases f with
 | next=>exact wpAny_execs_nil q
 | ret v=>exact q
 | brk=>exact q
 | cont=>exact q
theorem Inv.quiet {pins : List (Addr × Obj)} {σ : St} {H : Hp} {s : Shared} (I : Inv X pins σ H s) : interactive X.env = false:=by simp [interactive,I.ok.kind]
def zpg (te : TE) : TS:=fun D σ H=>te σ H fun _ H1=>D.nx σ H1
theorem zhm (he : PE X e te) (hs : swapsWith e none pos.line X.env = pure false:=by rfl) : PS X (.Expr e pos) (zpg te):=by
 intro pins s σ H D I h
 exact wpAny_Expr_any (thn (he pins s σ H _ I h) fun v s1 ⟨x,H1,I1,r1,q1⟩=>⟨σ,H1,I1,q1⟩) I.quiet hs
def zux (te : TE) : TS:=fun D σ H=>te σ H D.rt
theorem zak (he : PE X e te) : PS X (.Return (some e) pos) (zux te):=by
 intro pins s σ H D I h
 exact wpAny_Return_some (thn (he pins s σ H _ I h) fun v s1 ⟨x,H1,I1,r1,q1⟩=>⟨x,σ,H1,I1,r1,q1⟩)
def zt6 (c : TT) (t u : TS) : TS:=fun D σ H=>c σ H fun b H1=>if b = true then t D σ H1 else u D σ H1
theorem za9 {c : Expr} {a b : List Stmt} {tc : TT} (hc : PT X c tc) (ha : PSs X a t) (hb : PSs X b u) : PS X (.If c a b pos) (zt6 tc t u):=by
 intro pins s σ H D I h
 refine wpAny_If (thn (hc pins s σ H _ I h) fun d s1 ⟨H1,I1,q1⟩=>?_)
 cases d with
 | true=>exact ha pins s1 σ H1 D I1 q1
 | false=>exact hb pins s1 σ H1 D I1 q1
end
abbrev TG:=V -> St -> Hp -> (St -> Hp -> Prop) -> Prop
abbrev TGs:=List V -> St -> Hp -> (St -> Hp -> Prop) -> Prop
def PG (X : Cx) (target : Expr) (t : TG) : Prop :=
 ∀ (pins : List (Addr × Obj)) (s : Shared) (σ : St) (H : Hp) (v : V) (u : Value) (Q : St -> Hp -> Prop),Inv X pins σ H s -> zaJ v u -> t v σ H Q ->
   wpAny (model X.prog X.w) X.A (assign target X.env u) (fun _ s'=>∃ σ' H',Inv X pins σ' H' s' /\ Q σ' H') X.xe s
def PGs (X : Cx) (ts : List Expr) (t : TGs) : Prop :=
 ∀ (pins : List (Addr × Obj)) (s : Shared) (σ : St) (H : Hp) (vs : List V) (us : List Value) (Q : St -> Hp -> Prop),Inv X pins σ H s -> zav vs us -> t vs σ H Q ->
   wpAny (model X.prog X.w) X.A (assignInOrder ((assignEach ts X.env).map (·.2)) us) (fun _ s'=>∃ σ' H',Inv X pins σ' H' s' /\ Q σ' H') X.xe s
abbrev zq0:=V -> V -> V -> Hp -> (Hp -> Prop) -> Prop
def zt4 (X : Cx) (t : zq0) : Prop :=
 ∀ (pins : List (Addr × Obj)) (s : Shared) (σ : St) (H : Hp) (o i v : V) (ov iv u : Value) (Q : Hp -> Prop),Inv X pins σ H s -> zaJ o ov -> zaJ i iv -> zaJ v u -> t o i v H Q ->
   wpAny (model X.prog X.w) X.A (setItem ov iv u) (fun _ s'=>∃ H',Inv X pins σ H' s' /\ Q H') X.xe s
abbrev TIp:=V -> V -> Hp -> VK -> Prop
section
variable {X : Cx} {pos : Pos}
def zif (i : Nat) : TG:=fun v σ H Q=>Q (σ.set i (some v)) H
theorem zaE {i : Nat} {x : Str} (hN : X.N.Nodup) (hi : X.N[i]? = some x) (hx : Loc X.env.scope x) (hf : X.fn x = true \/ X.env.scope.names.lookup x = some .local:=by first | exact .inl rfl | exact .inr rfl | assumption) : PG X (.Name x pos) (zif i):=by
 intro pins s σ H v u Q I r h
 exact wpAny_assign_Name (zen I hN hi hx r (fun s' I'=>⟨_,H,I',h⟩) hf)
def ztW : TGs:=fun vs σ H Q=>vs = [] /\ Q σ H
def zr4 (t : TG) (u : TGs) : TGs:=fun vs σ H Q=>∃ v r,vs = v :: r /\ t v σ H fun σ' H'=>u r σ' H' Q
theorem zrL : PGs X [] ztW:=by
 intro pins s σ H vs us Q I r h
 obtain ⟨e,h⟩:=h
 subst e
 cases r
 exact assignInOrder_nil ⟨σ,H,I,h⟩
theorem zkH {e : Expr} {es : List Expr} {t : TG} {u : TGs} (h1 : PG X e t) (h2 : PGs X es u)
   (hs : (assignEach (e :: es) X.env).map (·.2) = assign e X.env :: (assignEach es X.env).map (·.2):=by rfl) : PGs X (e :: es) (zr4 t u):=by
 intro pins s σ H vs us Q I r h
 obtain ⟨v,vr,e1,h⟩:=h
 subst e1
 cases r with
 | cons r rr =>
   rw [hs]
   refine assignInOrder_cons (thn (h1 pins s σ H _ _ _ I r h) fun _ s1 ⟨σ1,H1,I1,q1⟩=>?_)
   exact h2 pins s1 σ1 H1 _ _ Q I1 rr q1
def ztB (K : PySem.W.Frag) (n : Nat) (t : TGs) : TG:=fun v σ H Q=>∃ a xs,v = .ref a /\ SqT K H a xs /\ xs.length = n /\ t xs σ H Q
theorem zte {es : List Expr} {k : Nat} {t : TGs} {n : Nat} (hc : X.calm = true) (h : PGs X es t)
   (hn : (assignEach es X.env).length = n:=by rfl) (hst : (assignEach es X.env).findIdx? (·.1) = none:=by rfl) : PG X (.Tuple es k pos) (ztB X.K n t):=by
 intro pins s σ H v u Q I r hw
 obtain ⟨a,xs,e1,hq,hl,hw⟩:=hw
 subst e1
 cases r
 obtain ⟨its,rv,ht,hz⟩:=I.tuple hq
 refine assign_Tuple_tuple (I.ok.hd hc) ht (by simp [hn,<- hl,rv.length]) hst fun h' hx=>?_
 have I1 : Inv X pins σ H { s with heap:=h' }:=I.kept (t':=s.toks) fun b o e=>hx b o (Nat.ne_of_lt (Heap.lt_size e)) e
 exact h pins _ σ H xs _ Q I1 (by simpa using rv) hw
def zt9 (to ti : TE) (t : zq0) : TG:=fun v σ H Q=>to σ H fun o H1=>ti σ H1 fun i H2=>t o i v H2 fun H3=>Q σ H3
theorem zku {o i : Expr} {to ti : TE} {t : zq0} (ho : PE X o to) (hi : PE X i ti) (hs : zt4 X t)
   (ha : ∀ v,assign (.Subscript o i pos) X.env v = (do
     let ov <- holding [v] (eval o X.env)
     let iv <- holding [v,ov] (eval i X.env)
     standAt pos
     holding [v,ov,iv] (setItem ov iv v)
     release [v,ov,iv] []):=by intro _; rfl) : PG X (.Subscript o i pos) (zt9 to ti t):=by
 intro pins s σ H v u Q I r h
 rw [ha]
 refine wpAny_bind (wpAny_holding (thn (ho pins s σ H _ I h) fun ov s1 ⟨x,H1,I1,r1,q1⟩=>?_))
 refine wpAny_bind (wpAny_holding (thn (hi pins s1 σ H1 _ I1 q1) fun iv s2 ⟨y,H2,I2,r2,q2⟩=>?_))
 refine wpAny_bind (wpAny_standAt (wpAny_bind (wpAny_holding (thn (hs pins s2 σ H2 x y v ov iv u _ I2 r1 r2 r q2) fun _ s3 ⟨H3,I3,q3⟩=>?_))))
 exact wpAny_release ⟨σ,H3,I3,q3⟩
def zow (te : TE) (g : TG) : TS:=fun D σ H=>te σ H fun x H1=>g x σ H1 D.nx
theorem zjP {tg e : Expr} {te : TE} {g : TG} (he : PE X e te) (hg : PG X tg g) (hs : swapsWithSole [tg] e pos.line X.env = pure false:=by rfl) (hw : swappedStores [tg] e X.env = pure none:=by rfl)
   (h1 : (assignEach [tg] X.env).map (·.2) = [assign tg X.env]:=by rfl) : PS X (.Assign [tg] e pos) (zow te g):=by
 intro pins s σ H D I h
 refine wpAny_Assign_stores (thn (he pins s σ H _ I h) fun v s1 ⟨x,H1,I1,r1,q1⟩=>?_) hs hw
 rw [h1]
 exact thn (hg pins s1 σ H1 x v _ I1 r1 q1) fun _ s2 q=>q
theorem zss {i : Nat} {x : Str} {e : Expr} {te : TE} {pos' : Pos} (hN : X.N.Nodup) (hi : X.N[i]? = some x) (hx : Loc X.env.scope x) (he : PE X e te) (hs : swapsWith e (some (.Name x pos')) pos.line X.env = pure false:=by rfl) (hf : X.fn x = true \/ X.env.scope.names.lookup x = some .local:=by first | exact .inl rfl | exact .inr rfl | assumption) :
   PS X (.Assign [.Name x pos'] e pos) (zow te (zif i)):=by
 intro pins s σ H D I h
 refine wpAny_Assign_Name (thn (he pins s σ H _ I h) fun v s1 ⟨y,H1,I1,r1,q1⟩=>?_) hs
 exact zen I1 hN hi hx r1 (fun s2 I2=>⟨_,H1,I2,q1⟩) hf
def zun (i j : Nat) (ta : TA) : TS:=fun D σ H=>ta σ H fun vs H1=>∃ v w,vs = [v,w] /\ D.nx ((σ.set i (some v)).set j (some w)) H1
theorem zpJ {i j : Nat} {x y : Str} {a b : Expr} {ta : TA} {px py pt : Pos} {kt k2 pt2} (hc : X.calm = true) (hN : X.N.Nodup) (hi : X.N[i]? = some x) (hj : X.N[j]? = some y) (hij : i ≠ j)
   (hx : X.env.scope.names.lookup x = some .local) (hy : X.env.scope.names.lookup y = some .local) (ha : PA X [a,b] ta)
   (hw : swappedStores [.Tuple [.Name x px,.Name y py] kt pt] (.Tuple [a,b] k2 pt2) X.env = pure (some [x,y]))
   (hs : swapsWithSole [.Tuple [.Name x px,.Name y py] kt pt] (.Tuple [a,b] k2 pt2) pos.line X.env = pure false:=by rfl) :
   PS X (.Assign [.Tuple [.Name x px,.Name y py] kt pt] (.Tuple [a,b] k2 pt2) pos) (zun i j ta):=by
 intro pins s σ H D I h
 rw [exec_Assign_arm]
 refine wpAny_bind (wpAny_standAt ?_)
 rw [hs]
 refine wpAny_bind (wpAny_pure ?_)
 rw [if_neg (by decide)]
 refine wpAny_bind (Tuple_ (thn (ha _ pins s σ H _ I h) fun us s1 ⟨vs,H1,I1,r1,q1⟩=>?_))
 obtain ⟨v,w,e1,q1⟩:=q1
 subst e1
 obtain ⟨u1,u2,rfl,rv,rw'⟩ : ∃ u1 u2,us = [u1,u2] /\ zaJ v u1 /\ zaJ w u2:=by
   cases r1 with
   | cons p q =>
     cases q with
     | cons p' q' =>
       cases q'
       exact ⟨_,_,rfl,p,p'⟩
 refine wpAny_newObj_type ?_ (by show 2 <= sizeLine; decide)
 have I2 : Inv X pins σ H1 { s1 with heap:=s1.heap.push { cls:=.type "tuple",data:=.seq [u1,u2].toArray } }:=I1.kept (t':=s1.toks) fun b o e=>Heap.get?_push_of_some _ e
 rw [hw]
 refine wpAny_bind (wpAny_pure ?_)
 show wpAny (model X.prog X.w) X.A (do rule "assign.swapped-stores"; let items <- unpackItems (.ref s1.heap.objs.size) 2 none; assignInOrder [fun v=>bindName X.env y v,fun v=>bindName X.env x v] items.reverse; pure Flow.next) _ _ _
 refine wpAny_bind (wpAny_rule (wpAny_bind (unpackItems_tuple (items:=#[u1,u2]) (I.ok.hd hc) (IsTup.new s1.heap _) fun h' hx'=>?_)))
 have I3:=I2.kept (h':=h') (t':=s1.toks) fun b o e=>hx' b o (Nat.ne_of_lt (Heap.lt_size e)) e
 show wpAny _ _ (assignInOrder [fun v=>bindName X.env y v,fun v=>bindName X.env x v] [u2,u1] >>= fun _=>pure Flow.next) _ _ _
 refine wpAny_bind (assignInOrder_cons (wpAny_bindName (zen I3 hN hj (.inl hy) rw' (fun s2 I4=>?_) (.inr hy))))
 refine assignInOrder_cons (wpAny_bindName (zen I4 hN hi (.inl hx) rv (fun s3 I5=>assignInOrder_nil (wpAny_pure ?_)) (.inr hx)))
 rw [List.set_comm _ _ (Ne.symm hij)] at I5
 exact ⟨_,H1,I5,q1⟩
end
section
variable {X : Cx} {pos : Pos}
def zmJ (c : TT) (tb : TS) : TS:=fun D σ H=>∃ W : Nat -> St -> Hp -> Prop,(∃ m,W m σ H) /\ ∀ m σ H,W m σ H ->
 c σ H fun b H1=>if b = true then ∃ N : St -> Hp -> Prop,(∀ σ' H',N σ' H' -> ∃ m',m' < m /\ W m' σ' H') /\ tb { D with nx:=N,ct:=N,bk:=D.nx } σ H1 else D.nx σ H1
theorem zh6 {c : Expr} {body : List Stmt} {tc : TT} {tb : TS} (hp : PassesOwn (model X.prog X.w) X.A X.env X.xe) (hc : PT X c tc) (hb : PSs X body tb) : PS X (.While c body [] pos) (zmJ tc tb):=by
 intro pins s σ H D I h
 obtain ⟨W,⟨m0,w0⟩,turn⟩:=h
 refine wpAny_While (codeAny_whileLoop (fun n s'=>∃ σ' H',Inv X pins σ' H' s' /\ W n σ' H') ?_ m0 ⟨σ,H,I,w0⟩)
 rintro n s1 ⟨σ1,H1,I1,w1⟩
 refine wpAny_passesOwn hp (thn (hc pins s1 σ1 H1 _ I1 (turn n σ1 H1 w1)) fun b s2 ⟨H2,I2,q2⟩=>?_)
 cases b with
 | true =>
   obtain ⟨N,hN,q2⟩:=q2
   rw [if_pos rfl]
   refine wpAny_passesOwn hp (thn (hb pins s2 σ1 H2 _ I2 q2) fun f s3 q3=>?_)
   cases f with
   | next =>
     obtain ⟨σ3,H3,I3,n3⟩:=q3
     obtain ⟨m',hm,w3⟩:=hN σ3 H3 n3
     exact ⟨m',hm,σ3,H3,I3,w3⟩
   | cont =>
     obtain ⟨σ3,H3,I3,n3⟩:=q3
     obtain ⟨m',hm,w3⟩:=hN σ3 H3 n3
     exact ⟨m',hm,σ3,H3,I3,w3⟩
   | brk=>exact q3
   | ret v=>exact q3
 | false =>
   rw [if_neg Bool.false_ne_true]
   exact wpAny_execs_nil ⟨σ1,H2,I2,q2⟩
end
structure It where
 go : Nat -> Hp -> Prop
 yld : Nat -> Hp -> V -> Hp -> Prop
 stop : Nat -> Hp -> Prop
def zej (X : Cx) (pins : List (Addr × Obj)) (H : Hp) (b : Addr) : Prop :=
 H b = none /\ b ≠ X.env.locals /\ b ∉ X.fs /\ (b ∈ X.ex \/ X.s₀.heap.objs.size <= b) /\ (∀ x c,X.env.cells.lookup x = some c -> c ≠ b) /\ ∀ p ∈ X.pn ++ pins,p.1 ≠ b
theorem Inv.fpOk {X : Cx} {pins : List (Addr × Obj)} {σ : St} {H H' : Hp} {s : Shared} {b : Addr} (I : Inv X pins σ H s) (hb : s.heap.objs.size <= b) (hn : H' b = none) : zej X pins H' b:=by
 refine ⟨hn,Nat.ne_of_gt (Nat.lt_of_lt_of_le I.lt hb),I.nofs hb,.inr (Nat.le_trans I.sz hb),fun x c e z=>?_,fun p hp z=>?_⟩
 . obtain ⟨v,q⟩:=I.cell x c e
   exact absurd (Nat.lt_of_lt_of_le q.lt (by rw [z]; exact hb)) (Nat.lt_irrefl _)
 . exact absurd (Nat.lt_of_lt_of_le (Heap.lt_size (I.pin p hp).1) (by rw [z]; exact hb)) (Nat.lt_irrefl _)
structure zkv (P : Program) (w : World) (K : PySem.W.Frag) (tg : Expr) (J : It) (fp : List Addr) (it : Addr) (tn : Nat -> Heap -> Prop) : Prop where
 mem : it ∈ fp
 obj : ∀ i h,tn i h -> ∀ b ∈ fp,∃ o,h.get? b = some o /\ ∀ v,o.data ≠ .cell v
 keep : ∀ i h h',tn i h -> (∀ b ∈ fp,∀ o,h.get? b = some o -> h'.get? b = some o) -> tn i h'
 item : ∀ (X : Cx),X.prog = P -> X.w = w -> X.K = K -> X.calm = true -> ∀ (i : Nat) (pins : List (Addr × Obj)) (s : Shared) (σ : St) (H : Hp) (E : Value -> Shared -> Prop),Inv X pins σ H s -> (∀ b ∈ fp,zej X pins H b) -> tn i s.heap -> J.go i H ->
   wpAny (model P w) X.A (pyNext (.ref it)) (fun r s1=>∃ u,r = some u /\
     wpAny (model P w) X.A (letOwnedTupleGo tg (.ref it) u) (fun _ s2=>∃ x H',Inv X pins σ H' s2 /\ zaJ x u /\ J.yld i H x H' /\ tn (i + 1) s2.heap /\ ∀ b ∈ fp,H' b = none) E s1) E s
 done : ∀ (X : Cx),X.prog = P -> X.w = w -> X.K = K -> X.calm = true -> ∀ (i : Nat) (pins : List (Addr × Obj)) (s : Shared) (σ : St) (H : Hp) (E : Value -> Shared -> Prop),Inv X pins σ H s -> (∀ b ∈ fp,zej X pins H b) -> tn i s.heap -> J.stop i H ->
   wpAny (model P w) X.A (pyNext (.ref it)) (fun r s1=>r = none /\ Inv X pins σ H s1) E s
 self : ∀ (A : Around) (i : Nat) (s : Shared) (Q : Value -> Shared -> Prop) (E : Value -> Shared -> Prop),tn i s.heap -> Q (.ref it) s -> wpAny (model P w) A (pyIter (.ref it)) Q E s
abbrev TI:=St -> Hp -> (It -> Hp -> Prop) -> Prop
def PIE (X : Cx) (pins : List (Addr × Obj)) (σ : St) (tg : Expr) (R : It -> Hp -> Prop) (itv : Value) (s2 : Shared) : Prop :=
 ∃ (it : Addr) (fp : List Addr) (tn : Nat -> Heap -> Prop) (J : It) (H' : Hp),itv = .ref it /\ Inv X pins σ H' s2 /\ zkv X.prog X.w X.K tg J fp it tn /\ tn 0 s2.heap /\ (∀ b ∈ fp,zej X pins H' b) /\ R J H'
def PI (X : Cx) (tg iter : Expr) (wi : TI) : Prop :=
 ∀ (pins : List (Addr × Obj)) (s : Shared) (σ : St) (H : Hp) (R : It -> Hp -> Prop),Inv X pins σ H s -> wi σ H R ->
   wpAny (model X.prog X.w) X.A (eval iter X.env) (fun v s1=>wpAny (model X.prog X.w) X.A (pyIter v) (PIE X pins σ tg R) X.xe s1) X.xe s
theorem znD {M : Model} {A : Around} {E : Value -> Shared -> Prop} {s : Shared} {tg : Expr} {it : Addr} {u : Value} {o : Obj} {n : String} {vs : Array Value} {Q : Unit -> Shared -> Prop} (ho : s.heap.get? it = some o) (hc : o.cls = .type n) (hd : o.data = .fields vs)
   (hn : ["enumerate","zip","dict_itemiterator","dict_reverseitemiterator","odict_iterator","itertools.zip_longest","itertools.pairwise"].contains n = false) (hQ : Q () s) : wpAny M A (letOwnedTupleGo tg (.ref it) u) Q E s:=by
 unfold letOwnedTupleGo
 cases tg <;> first
   | exact wpAny_pure hQ
   | (cases u <;> first
       | exact wpAny_pure hQ
       | (refine wpAny_bind (wpAny_load ho ?_)
          rw [hc,hd]
          show wpAny M A (if (["enumerate","zip","dict_itemiterator","dict_reverseitemiterator","odict_iterator","itertools.zip_longest","itertools.pairwise"].contains n && vs[0]? == some (rawInt _)) = true then _ else _) Q E s
          rw [if_neg (by intro h; rw [hn,Bool.false_and] at h; cases h)]
          exact wpAny_pure hQ))
def Itl (K : PySem.W.Frag) (a : Addr) : It :=
 ⟨fun i H=>∃ xs x,SqL K H a xs /\ xs[i]? = some x,fun i H x H'=>H' = H /\ ∀ xs,SqL K H a xs -> xs[i]? = some x,fun i H=>∃ xs,SqL K H a xs /\ xs.length <= i⟩
def Itt (K : PySem.W.Frag) (a : Addr) : It :=
 ⟨fun i H=>∃ xs x,SqT K H a xs /\ xs[i]? = some x,fun i H x H'=>H' = H /\ ∀ xs,SqT K H a xs -> xs[i]? = some x,fun i H=>∃ xs,SqT K H a xs /\ xs.length <= i⟩
def Itr (lo : Int) (n : Nat) : It:=⟨fun i _=>i < n,fun i H x H'=>H' = H /\ x = .int (lo + i),fun i _=>n <= i⟩
theorem zjh {P : Program} {w : World} {K : PySem.W.Frag} {tg : Expr} (a it : Addr) : zkv P w K tg (Itl K a) [it] it (fun i h=>h.IsListIter it a i) where
 mem:=by simp
 obj:=fun i h st b hb=>by
   have e : b = it:=by simpa using hb
   subst e
   obtain ⟨o,e,c,d⟩:=st
   exact ⟨o,e,fun v z=>by rw [d] at z; cases z⟩
 keep:=fun i h h' st k=>st.at fun o e=>k it (by simp) o e
 item:=by
   intro X hP hw hK hc i pins s σ H E I hf st hg
   subst hP hw hK
   obtain ⟨xs,x,hq,hx⟩:=hg
   obtain ⟨its,rv,p,hz⟩:=I.list hq
   obtain ⟨u,hu,ru⟩:=rv.get hx
   obtain ⟨f0,f1,f2,f3,f4,f5⟩:=hf it (by simp)
   refine wpAny_pyNext_list_item st p.isList (x:=u) (by simpa using hu) fun h' st' sb=>?_
   have I1 : Inv X pins σ H { s with heap:=h' }:=I.turned (t':=s.toks) (fun b o hb e=>(sb.2 b hb).trans e) f0 f1 f3 f4 f5
   obtain ⟨o,e,c,d⟩:=id st'
   exact ⟨u,rfl,znD (s:={ s with heap:=h' }) e c d (by decide) ⟨x,H,I1,ru,⟨rfl,fun ys hy=>by rw [I.list_inj hy hq]; exact hx⟩,st',fun b hb=>(hf b hb).1⟩⟩
 done:=by
   intro X hP hw hK hc i pins s σ H E I hf st hg
   subst hP hw hK
   obtain ⟨xs,hq,hx⟩:=hg
   obtain ⟨its,rv,p,hz⟩:=I.list hq
   obtain ⟨f0,f1,f2,f3,f4,f5⟩:=hf it (by simp)
   have hl:=rv.length
   exact wpAny_pyNext_list_end (I.ok.hd hc) st p.isList (by simp; lia) fun h' eb=>⟨rfl,I.turned (t':=s.toks) (fun b o hb e=>eb b o hb e) f0 f1 f3 f4 f5⟩
 self:=fun _ _ _ _ _ st h=>wpAny_pyIter_listiter st h
theorem zhC {P : Program} {w : World} {K : PySem.W.Frag} {tg : Expr} (a it : Addr) : zkv P w K tg (Itt K a) [it] it (fun i h=>h.IsTupleIter it a i) where
 mem:=by simp
 obj:=fun i h st b hb=>by
   have e : b = it:=by simpa using hb
   subst e
   obtain ⟨o,e,c,d⟩:=st
   exact ⟨o,e,fun v z=>by rw [d] at z; cases z⟩
 keep:=fun i h h' st k=>st.at fun o e=>k it (by simp) o e
 item:=by
   intro X hP hw hK hc i pins s σ H E I hf st hg
   subst hP hw hK
   obtain ⟨xs,x,hq,hx⟩:=hg
   obtain ⟨its,rv,p,hz⟩:=I.tuple hq
   obtain ⟨u,hu,ru⟩:=rv.get hx
   obtain ⟨f0,f1,f2,f3,f4,f5⟩:=hf it (by simp)
   refine wpAny_pyNext_tuple_item st (show s.heap.IsTuple a its.toArray from p) (x:=u) (by simpa using hu) fun h' st' sb=>?_
   have I1 : Inv X pins σ H { s with heap:=h' }:=I.turned (t':=s.toks) (fun b o hb e=>(sb.2 b hb).trans e) f0 f1 f3 f4 f5
   obtain ⟨o,e,c,d⟩:=id st'
   exact ⟨u,rfl,znD (s:={ s with heap:=h' }) e c d (by decide) ⟨x,H,I1,ru,⟨rfl,fun ys hy=>by rw [I.tuple_inj hy hq]; exact hx⟩,st',fun b hb=>(hf b hb).1⟩⟩
 done:=by
   intro X hP hw hK hc i pins s σ H E I hf st hg
   subst hP hw hK
   obtain ⟨xs,hq,hx⟩:=hg
   obtain ⟨its,rv,p,hz⟩:=I.tuple hq
   obtain ⟨f0,f1,f2,f3,f4,f5⟩:=hf it (by simp)
   have hl:=rv.length
   exact wpAny_pyNext_tuple_end (I.ok.hd hc) st (show s.heap.IsTuple a its.toArray from p) (by simp; lia) fun h' eb=>⟨rfl,I.turned (t':=s.toks) (fun b o hb e=>eb b o hb e) f0 f1 f3 f4 f5⟩
 self:=fun _ _ _ _ _ st h=>wpAny_pyIter_tupleiter st h
theorem zmp {P : Program} {w : World} {K : PySem.W.Frag} {tg : Expr} (it : Addr) (lo : Int) (n : Nat) : zkv P w K tg (Itr lo n) [it] it (fun i h=>IsRangeIter h it (lo + (i : Nat) * 1) ((n : Int) - (i : Nat)) 1) where
 mem:=by simp
 obj:=fun i h st b hb=>by
   have e : b = it:=by simpa using hb
   subst e
   exact ⟨_,st,fun v z=>by
     have z' : Data.fields _ = Data.cell v:=z
     cases z'⟩
 keep:=fun i h h' st k=>k it (by simp) _ st
 item:=by
   intro X hP hw hK hc i pins s σ H E I hf st hg
   subst hP hw hK
   obtain ⟨f0,f1,f2,f3,f4,f5⟩:=hf it (by simp)
   have W:=Walks.range (prog:=X.prog) (w:=X.w) (I.ok.hd hc) it lo 1 n
   refine W.item i s _ _ hg st fun v h' tk hv st' kk=>?_
   obtain ⟨t,rfl⟩:=hv
   have I1 : Inv X pins σ H { s with heap:=h',toks:=tk }:=I.turned (fun b o hb e=>kk b o (by simpa using hb) e) f0 f1 f3 f4 f5
   refine ⟨_,rfl,znD (s:={ s with heap:=h',toks:=tk }) (n:="range_iterator") st' rfl rfl (by decide) ⟨.int (lo + i),H,I1,⟨t,?_⟩,⟨rfl,rfl⟩,st',fun b hb=>(hf b hb).1⟩⟩
   rw [Int.mul_one]
 done:=by
   intro X hP hw hK hc i pins s σ H E I hf st hg
   subst hP hw hK
   obtain ⟨f0,f1,f2,f3,f4,f5⟩:=hf it (by simp)
   exact wpAny_pyNext_range_end (I.ok.hd hc) st (by have : n <= i:=hg; lia) fun h' eb=>⟨rfl,I.turned (t':=s.toks) (fun b o hb e=>eb b o hb e) f0 f1 f3 f4 f5⟩
 self:=fun _ _ _ _ _ st h=>wpAny_pyIter_rangeiter st h
end L2
namespace L2
open PySem PySem.Spec PyProof.Rows
section
variable {X : Cx} {tg : Expr}
def zpQ (K : PySem.W.Frag) (tl : TE) : TI:=fun σ H R=>tl σ H fun x H1=>∃ a,x = .ref a /\ (∃ xs,SqL K H1 a xs) /\ R (Itl K a) H1
def ztQ (K : PySem.W.Frag) (tl : TE) : TI:=fun σ H R=>tl σ H fun x H1=>∃ a,x = .ref a /\ (∃ xs,SqT K H1 a xs) /\ R (Itt K a) H1
theorem zc5 {l : Expr} {tl : TE} (hl : PE X l tl) : PI X tg l (zpQ X.K tl):=by
 intro pins s σ H R I h
 refine thn (hl pins s σ H _ I h) fun v s1 ⟨x,H1,I1,r1,q1⟩=>?_
 obtain ⟨a,e,⟨xs,hq⟩,q⟩:=q1
 subst e
 cases r1
 obtain ⟨its,rv,p,hz⟩:=I1.list hq
 refine wpAny_pyIter_list p.isList ?_
 refine ⟨s1.heap.objs.size,[s1.heap.objs.size],_,_,H1,rfl,I1.kept (t':=s1.toks) fun b o e=>Heap.get?_push_of_some _ e,zjh a _,⟨_,Heap.get?_push_size _ rfl,rfl,rfl⟩,fun b hb=>?_,q⟩
 have e : b = s1.heap.objs.size:=by simpa using hb
 subst e
 exact I1.fpOk (Nat.le_refl _) (I1.hok.fresh (Nat.le_refl _))
theorem zjX {l : Expr} {tl : TE} (hl : PE X l tl) : PI X tg l (ztQ X.K tl):=by
 intro pins s σ H R I h
 refine thn (hl pins s σ H _ I h) fun v s1 ⟨x,H1,I1,r1,q1⟩=>?_
 obtain ⟨a,e,⟨xs,hq⟩,q⟩:=q1
 subst e
 cases r1
 obtain ⟨its,rv,p,hz⟩:=I1.tuple hq
 refine wpAny_pyIter_tuple (show s1.heap.IsTuple a its.toArray from p) ?_
 refine ⟨s1.heap.objs.size,[s1.heap.objs.size],_,_,H1,rfl,I1.kept (t':=s1.toks) fun b o e=>Heap.get?_push_of_some _ e,zhC a _,⟨_,Heap.get?_push_size _ rfl,rfl,rfl⟩,fun b hb=>?_,q⟩
 have e : b = s1.heap.objs.size:=by simpa using hb
 subst e
 exact I1.fpOk (Nat.le_refl _) (I1.hok.fresh (Nat.le_refl _))
theorem zo5 {pins : List (Addr × Obj)} {σ : St} {H : Hp} {s : Shared} {R : It -> Hp -> Prop} {E : Value -> Shared -> Prop} {lo hi : Int} {t u v : Tok} {tk : Nat} (I : Inv X pins σ H s) (h1 : -(2 ^ 62) <= lo) (h2 : lo < 2 ^ 62) (h3 : -(2 ^ 62) <= hi) (h4 : hi < 2 ^ 62)
   (q : R (Itr lo (hi - lo).toNat) H) : wpAny (model X.prog X.w) X.A (pyIter (.ref s.heap.objs.size)) (PIE X pins σ tg R) E { s with heap:=s.heap.push { cls:=.type "range",data:=.fields #[.int lo t,.int hi u,.int 1 v] },toks:=tk }:=by
 refine wpAny_pyIter_range (IsRange.new ..) (small_one h1 h2 h3 h4) ?_
 have I1 : Inv X pins σ H { s with heap:=s.heap.push { cls:=.type "range",data:=.fields #[.int lo t,.int hi u,.int 1 v] },toks:=tk }:=I.kept fun b o e=>Heap.get?_push_of_some _ e
 refine ⟨(s.heap.push { cls:=.type "range",data:=.fields #[.int lo t,.int hi u,.int 1 v] }).objs.size,[(s.heap.push { cls:=.type "range",data:=.fields #[.int lo t,.int hi u,.int 1 v] }).objs.size],_,_,H,rfl,
   I1.kept (t':=tk) fun b o e=>Heap.get?_push_of_some _ e,zmp _ lo (hi - lo).toNat,?_,fun b hb=>?_,q⟩
 . have e1 : lo + ((0 : Nat) : Int) * 1 = lo:=by simp
   have e2 : (((hi - lo).toNat : Nat) : Int) - ((0 : Nat) : Int) = Builtin.Range.rangeSize lo hi 1:=by rw [rangeSize_one]; split <;> lia
   show IsRangeIter _ _ (lo + ((0 : Nat) : Int) * 1) ((((hi - lo).toNat : Nat) : Int) - ((0 : Nat) : Int)) 1
   rw [e1,e2]
   exact Heap.get?_push_size _ rfl
 . have e : b = (s.heap.push { cls:=.type "range",data:=.fields #[.int lo t,.int hi u,.int 1 v] }).objs.size:=by simpa using hb
   subst e
   exact I1.fpOk (Nat.le_refl _) (I1.hok.fresh (Nat.le_refl _))
def zsi (ta : TA) : TI:=fun σ H R=>ta σ H fun vs H1=>∃ j : Int,vs = [.int j] /\ -(2 ^ 62) <= j /\ j < 2 ^ 62 /\ R (Itr 0 j.toNat) H1
theorem zcG {a : Expr} {ta : TA} {p pos : Pos} (hg : Gl X "range") (hm : X.mg "range" = none) (ha : PA X [a] ta) (hs : starEach [a] X.env = [(false,eval a X.env)]:=by rfl) : PI X tg (.Call (.Name "range" p) [a] [] pos) (zsi ta):=by
 intro pins s σ H R I h
 refine Call_ (zfA I hg hm boot_range (PyProof.Rows.callWith_type1 (thn (ha pos pins s σ H _ I h) fun us s1 ⟨vs,H1,I1,r1,q1⟩=>?_) hs rfl))
 obtain ⟨j,e,q1,q2,q⟩:=q1
 subst e
 cases r1 with
 | cons r rr =>
   cases rr
   obtain ⟨t,rfl⟩:=r
   exact call_range_1 (zo5 I1 (by lia) (by lia) q1 q2 (by simpa using q))
def zrC (wi : TI) (g : TG) (tb : TS) : TS:=fun D σ H=>wi σ H fun J H1=>∃ W : Nat -> Nat -> St -> Hp -> Prop,(∃ m,W 0 m σ H1) /\ ∀ i m σ H,W i m σ H ->
 (J.stop i H /\ D.nx σ H) \/ (J.go i H /\ ∃ N : St -> Hp -> Prop,(∀ σ' H',N σ' H' -> ∃ m',m' < m /\ W (i + 1) m' σ' H') /\ ∀ x H',J.yld i H x H' -> g x σ H' fun σ2 H2=>tb { D with nx:=N,ct:=N,bk:=D.nx } σ2 H2)
def zhY (fp : List Addr) (h : Heap) : List (Addr × Obj):=fp.filterMap fun b=>(h.get? b).map fun o=>(b,o)
theorem zdW {fp : List Addr} {h : Heap} {b : Addr} {o : Obj} (hb : b ∈ fp) (e : h.get? b = some o) : (b,o) ∈ zhY fp h:=List.mem_filterMap.mpr ⟨b,hb,by rw [e]; rfl⟩
theorem zn3 {fp : List Addr} {h : Heap} {p : Addr × Obj} (hp : p ∈ zhY fp h) : p.1 ∈ fp /\ h.get? p.1 = some p.2:=by
 obtain ⟨b,hb,e⟩:=List.mem_filterMap.mp hp
 cases q : h.get? b with
 | none=>rw [q] at e; cases e
 | some o =>
   rw [q] at e
   have e' : (b,o) = p:=Option.some.inj e
   subst e'
   exact ⟨hb,q⟩
theorem Inv.pinned {pins : List (Addr × Obj)} {σ : St} {H : Hp} {s : Shared} {fp : List Addr} (I : Inv X pins σ H s) (hf : ∀ b ∈ fp,zej X pins H b) (ho : ∀ b ∈ fp,∃ o,s.heap.get? b = some o /\ ∀ v,o.data ≠ .cell v) : Inv X (pins ++ zhY fp s.heap) σ H s :=
 I.pins_of fun p hp=>(List.mem_append.mp hp).elim (fun z=>I.pin p (List.mem_append_right _ z)) fun z=>by
   obtain ⟨hb,e⟩:=zn3 z
   obtain ⟨f0,f1,f2,_⟩:=hf p.1 hb
   obtain ⟨o,e',d⟩:=ho p.1 hb
   rw [e] at e'; cases e'
   exact ⟨e,f0,f1,f2,d⟩
theorem Inv.unpinned {pins pl : List (Addr × Obj)} {σ : St} {H : Hp} {s : Shared} (I : Inv X (pins ++ pl) σ H s) : Inv X pins σ H s:=I.pins_of fun p hp=>I.pin p (List.mem_append_right _ (List.mem_append_left _ hp))
theorem zd2 {iter : Expr} {body : List Stmt} {wi : TI} {g : TG} {tb : TS} {pos : Pos} (hp : PassesOwn (model X.prog X.w) X.A X.env X.xe) (hc : X.calm = true) (hi : PI X tg iter wi) (hg : PG X tg g) (hb : PSs X body tb)
   (hs : ∀ x,foldedSetIterable iter X.env x = pure x:=by intro _; rfl) : PS X (.For tg iter body [] pos) (zrC wi g tb):=by
 intro pins s σ H D I h
 refine wpAny_For (thn (hi pins s σ H _ I h) fun v s1 h1=>thn h1 fun itv s2 h2=>?_) hs
 obtain ⟨it,fp,tn,J,H2,e,I2,T,st2,f2,W,⟨m0,w0⟩,turn⟩:=h2
 subst e
 -- what stays true of the iterator's objects through the loop
 have stat : ∀ {H' : Hp},(∀ b ∈ fp,H' b = none) -> ∀ b ∈ fp,zej X pins H' b:=fun hn b hb=>⟨hn b hb,(f2 b hb).2⟩
 refine codeAny_forLoop_any (fun n s'=>∃ i σ' H',Inv X pins σ' H' s' /\ tn i s'.heap /\ (∀ b ∈ fp,H' b = none) /\ W i n σ' H') ?_ m0 ⟨0,σ,H2,I2,st2,fun b hb=>(f2 b hb).1,w0⟩
 rintro n s3 ⟨i,σ3,H3,I3,st3,fr3,w3⟩
 rcases turn i n σ3 H3 w3 with ⟨stop,qn⟩ | ⟨go,N,hN,step⟩
 . refine wpAny_passesOwn hp (thn (T.done X rfl rfl rfl hc i pins s3 σ3 H3 X.xe I3 (stat fr3) st3 stop) fun r s4 ⟨hr,I4⟩=>?_)
   subst hr
   exact wpAny_execs_nil ⟨σ3,H3,I4,qn⟩
 . refine wpAny_passesOwn hp (thn (T.item X rfl rfl rfl hc i pins s3 σ3 H3 X.xe I3 (stat fr3) st3 go) fun r s4 ⟨u,hr,h4⟩=>?_)
   subst hr
   refine wpAny_passesOwn hp (thn h4 fun _ s5 ⟨x,H5,I5,r5,y5,st5,fr5⟩=>?_)
   have I5':=I5.pinned (stat fr5) (T.obj _ _ st5)
   refine wpAny_passesOwn hp (thn (hg _ s5 σ3 H5 x u _ I5' r5 (step x H5 y5)) fun _ s6 ⟨σ6,H6,I6,q6⟩=>?_)
   refine wpAny_passesOwn hp (thn (hb _ s6 σ6 H6 _ I6 q6) fun f s7 q7=>?_)
   have again : ∀ {σ7 : St} {H7 : Hp},Inv X (pins ++ zhY fp s5.heap) σ7 H7 s7 -> N σ7 H7 -> ∃ m,m < n /\ ∃ i σ' H',Inv X pins σ' H' s7 /\ tn i s7.heap /\ (∀ b ∈ fp,H' b = none) /\ W i m σ' H':=fun {σ7 H7} I7 n7=>by
     obtain ⟨m',hm,w7⟩:=hN σ7 H7 n7
     refine ⟨m',hm,i + 1,σ7,H7,I7.unpinned,T.keep _ _ _ st5 fun b hb o e=>(I7.pin (b,o) (List.mem_append_right _ (List.mem_append_right _ (zdW hb e)))).1,fun b hb=>?_,w7⟩
     obtain ⟨o,e,d⟩:=T.obj _ _ st5 b hb
     exact (I7.pin (b,o) (List.mem_append_right _ (List.mem_append_right _ (zdW hb e)))).2.1
   cases f with
   | next=>obtain ⟨σ7,H7,I7,n7⟩:=q7; exact again I7 n7
   | cont=>obtain ⟨σ7,H7,I7,n7⟩:=q7; exact again I7 n7
   | brk=>obtain ⟨σ7,H7,I7,q7⟩:=q7; exact ⟨σ7,H7,I7.unpinned,q7⟩
   | ret v=>obtain ⟨x7,σ7,H7,I7,r7,q7⟩:=q7; exact ⟨x7,σ7,H7,I7.unpinned,r7,q7⟩
end
theorem zpR {K : PySem.W.Frag} {a : Addr} {xs : List V} {g : TG} {tb : TS} {D : zb7} {σ : St} {H : Hp} (Pv : Nat -> St -> Hp -> Prop) (h0 : Pv 0 σ H) (hl : ∀ i σ H,i <= xs.length -> Pv i σ H -> SqL K H a xs)
   (hs : ∀ i x σ H,xs[i]? = some x -> Pv i σ H -> g x σ H fun σ2 H2=>tb { D with nx:=Pv (i + 1),ct:=Pv (i + 1),bk:=D.nx } σ2 H2) (hd : ∀ σ H,Pv xs.length σ H -> D.nx σ H) :
   ∃ W : Nat -> Nat -> St -> Hp -> Prop,(∃ m,W 0 m σ H) /\ ∀ i m σ H,W i m σ H ->
     ((Itl K a).stop i H /\ D.nx σ H) \/ ((Itl K a).go i H /\ ∃ N : St -> Hp -> Prop,(∀ σ' H',N σ' H' -> ∃ m',m' < m /\ W (i + 1) m' σ' H') /\ ∀ x H',(Itl K a).yld i H x H' -> g x σ H' fun σ2 H2=>tb { D with nx:=N,ct:=N,bk:=D.nx } σ2 H2):=by
 refine ⟨fun i m σ H=>m = xs.length - i /\ i <= xs.length /\ Pv i σ H,⟨xs.length,by simp,Nat.zero_le _,h0⟩,?_⟩
 rintro i m σ H ⟨rfl,hi,p⟩
 have q:=hl i σ H hi p
 by_cases hlt : i < xs.length
 . refine .inr ⟨⟨xs,xs[i],q,by simp [hlt]⟩,Pv (i + 1),fun σ' H' p'=>⟨xs.length - (i + 1),by lia,rfl,hlt,p'⟩,fun x H' y=>?_⟩
   obtain ⟨e,y⟩:=y
   subst e
   exact hs i x σ _ (y xs q) p
 . have e : i = xs.length:=by lia
   subst e
   exact .inl ⟨⟨xs,q,Nat.le_refl _⟩,hd σ H p⟩
theorem zqs {K : PySem.W.Frag} {a : Addr} {xs : List V} {g : TG} {tb : TS} {D : zb7} {σ : St} {H : Hp} (Pv : Nat -> St -> Hp -> Prop) (h0 : Pv 0 σ H) (hl : ∀ i σ H,i <= xs.length -> Pv i σ H -> SqT K H a xs)
   (hs : ∀ i x σ H,xs[i]? = some x -> Pv i σ H -> g x σ H fun σ2 H2=>tb { D with nx:=Pv (i + 1),ct:=Pv (i + 1),bk:=D.nx } σ2 H2) (hd : ∀ σ H,Pv xs.length σ H -> D.nx σ H) :
   ∃ W : Nat -> Nat -> St -> Hp -> Prop,(∃ m,W 0 m σ H) /\ ∀ i m σ H,W i m σ H ->
     ((Itt K a).stop i H /\ D.nx σ H) \/ ((Itt K a).go i H /\ ∃ N : St -> Hp -> Prop,(∀ σ' H',N σ' H' -> ∃ m',m' < m /\ W (i + 1) m' σ' H') /\ ∀ x H',(Itt K a).yld i H x H' -> g x σ H' fun σ2 H2=>tb { D with nx:=N,ct:=N,bk:=D.nx } σ2 H2):=by
 refine ⟨fun i m σ H=>m = xs.length - i /\ i <= xs.length /\ Pv i σ H,⟨xs.length,by simp,Nat.zero_le _,h0⟩,?_⟩
 rintro i m σ H ⟨rfl,hi,p⟩
 have q:=hl i σ H hi p
 by_cases hlt : i < xs.length
 . refine .inr ⟨⟨xs,xs[i],q,by simp [hlt]⟩,Pv (i + 1),fun σ' H' p'=>⟨xs.length - (i + 1),by lia,rfl,hlt,p'⟩,fun x H' y=>?_⟩
   obtain ⟨e,y⟩:=y
   subst e
   exact hs i x σ _ (y xs q) p
 . have e : i = xs.length:=by lia
   subst e
   exact .inl ⟨⟨xs,q,Nat.le_refl _⟩,hd σ H p⟩
theorem zon {lo : Int} {n : Nat} {g : TG} {tb : TS} {D : zb7} {σ : St} {H : Hp} (Pv : Nat -> St -> Hp -> Prop) (h0 : Pv 0 σ H)
   (hs : ∀ i σ H,i < n -> Pv i σ H -> g (.int (lo + i)) σ H fun σ2 H2=>tb { D with nx:=Pv (i + 1),ct:=Pv (i + 1),bk:=D.nx } σ2 H2) (hd : ∀ σ H,Pv n σ H -> D.nx σ H) :
   ∃ W : Nat -> Nat -> St -> Hp -> Prop,(∃ m,W 0 m σ H) /\ ∀ i m σ H,W i m σ H ->
     ((Itr lo n).stop i H /\ D.nx σ H) \/ ((Itr lo n).go i H /\ ∃ N : St -> Hp -> Prop,(∀ σ' H',N σ' H' -> ∃ m',m' < m /\ W (i + 1) m' σ' H') /\ ∀ x H',(Itr lo n).yld i H x H' -> g x σ H' fun σ2 H2=>tb { D with nx:=N,ct:=N,bk:=D.nx } σ2 H2):=by
 refine ⟨fun i m σ H=>m = n - i /\ i <= n /\ Pv i σ H,⟨n,by simp,Nat.zero_le _,h0⟩,?_⟩
 rintro i m σ H ⟨rfl,hi,p⟩
 by_cases hlt : i < n
 . refine .inr ⟨hlt,Pv (i + 1),fun σ' H' p'=>⟨n - (i + 1),by lia,rfl,hlt,p'⟩,fun x H' y=>?_⟩
   obtain ⟨e,y⟩:=y
   subst e y
   exact hs i σ _ hlt p
 . have e : i = n:=by lia
   subst e
   exact .inl ⟨Nat.le_refl _,hd σ H p⟩
end L2
namespace L2
open PySem PySem.Spec PyProof.Rows
abbrev R2:=V -> V -> Hp -> VK -> Prop
def OpR (X : Cx) (f : Value -> Value -> Sem Value) (r : R2) : Prop :=
 ∀ (pins : List (Addr × Obj)) (s : Shared) (σ : St) (H : Hp) (x y : V) (v u : Value) (Q : VK),Inv X pins σ H s -> zaJ x v -> zaJ y u -> r x y H Q ->
   wpAny (model X.prog X.w) X.A (f v u) (EP X pins σ Q) X.xe s
def UnR (X : Cx) (f : Value -> Sem Value) (r : V -> Hp -> VK -> Prop) : Prop :=
 ∀ (pins : List (Addr × Obj)) (s : Shared) (σ : St) (H : Hp) (x : V) (v : Value) (Q : VK),Inv X pins σ H s -> zaJ x v -> r x H Q ->
   wpAny (model X.prog X.w) X.A (f v) (EP X pins σ Q) X.xe s
def zaq (X : Cx) (f : Value) (r : List V -> Hp -> VK -> Prop) : Prop :=
 ∀ (pins : List (Addr × Obj)) (s : Shared) (σ : St) (H : Hp) (xs : List V) (us : List Value) (Q : VK),Inv X pins σ H s -> zav xs us -> r xs H Q ->
   wpAny (model X.prog X.w) X.A (call f us) (EP X pins σ Q) X.xe s
def zuE (X : Cx) (r : V -> Hp -> (Bool -> Hp -> Prop) -> Prop) : Prop :=
 ∀ (pins : List (Addr × Obj)) (s : Shared) (σ : St) (H : Hp) (x : V) (v : Value) (Q : Bool -> Hp -> Prop),Inv X pins σ H s -> zaJ x v -> r x H Q ->
   wpAny (model X.prog X.w) X.A (truthy v) (TP X pins σ Q) X.xe s
def tOp (r : R2) (ta tb : TE) : TE:=fun σ H Q=>ta σ H fun x H1=>tb σ H1 fun y H2=>r x y H2 Q
def tUn (r : V -> Hp -> VK -> Prop) (ta : TE) : TE:=fun σ H Q=>ta σ H fun x H1=>r x H1 Q
def rI (C : Int -> Int -> Prop) (g : Int -> Int -> V) : R2:=fun x y H Q=>∃ i j,x = .int i /\ y = .int j /\ C i j /\ Q (g i j) H
def rI0 (g : Int -> Int -> V) : R2:=fun x y H Q=>∃ i j,x = .int i /\ y = .int j /\ Q (g i j) H
def rU (g : Int -> V) : V -> Hp -> VK -> Prop:=fun x H Q=>∃ i,x = .int i /\ Q (g i) H
section
variable {X : Cx} {a b c : Expr} {ta tb tc : TE} {pos : Pos}
theorem zsQ (ha : PE X a ta) (hb : PE X b tb) {pins : List (Addr × Obj)} {s : Shared} {σ : St} {H : Hp} {R : V -> V -> Hp -> Prop} (I : Inv X pins σ H s)
   (h : ta σ H fun x H1=>tb σ H1 fun y H2=>R x y H2) {Q : Value -> Shared -> Prop} {f : Value -> Value -> Sem Value}
   (hf : ∀ v u s2 x y H2,Inv X pins σ H2 s2 -> zaJ x v -> zaJ y u -> R x y H2 -> wpAny (model X.prog X.w) X.A (f v u) Q X.xe s2) :
   wpAny (model X.prog X.w) X.A (eval a X.env) (fun v s₁=>wpAny (model X.prog X.w) X.A (eval b X.env) (fun u s₂=>wpAny (model X.prog X.w) X.A (f v u) Q X.xe s₂) X.xe s₁) X.xe s:=by
 refine thn (ha pins s σ H _ I h) fun v s1 ⟨x,H1,I1,r1,q1⟩=>?_
 refine thn (hb pins s1 σ H1 _ I1 q1) fun u s2 ⟨y,H2,I2,r2,q2⟩=>?_
 exact hf v u s2 x y H2 I2 r1 r2 q2
theorem zam {op : Operator} {r : R2} (ho : OpR X (binaryOp op) r) (ha : PE X a ta) (hb : PE X b tb) : PE X (.BinOp a op b pos) (tOp r ta tb):=by
 intro pins s σ H Q I h
 exact wpAny_BinOp (zsQ ha hb I h fun v u s2 x y H2 I2 rx ry q=>ho pins s2 σ H2 x y v u Q I2 rx ry q)
theorem zr2 {op : UnaryOp} {r : V -> Hp -> VK -> Prop} (ho : UnR X (unaryOp op) r) (ha : PE X a ta) : PE X (.UnaryOp op a pos) (tUn r ta):=by
 intro pins s σ H Q I h
 exact UnaryOp_ (thn (ha pins s σ H _ I h) fun v s1 ⟨x,H1,I1,r1,q1⟩=>ho pins s1 σ H1 x v Q I1 r1 q1)
theorem opI {f : Value -> Value -> Sem Value} {C : Int -> Int -> Prop} {g : Int -> Int -> Int}
   (rule : ∀ (i j : Int) (t u : Tok) (s : Shared) (Q : Value -> Shared -> Prop) (E : Value -> Shared -> Prop),C i j -> Q (.int (g i j) s.toks) { s with toks:=s.toks + 1 } -> wpAny (model X.prog X.w) X.A (f (.int i t) (.int j u)) Q E s) :
   OpR X f (rI C fun i j=>.int (g i j)):=by
 intro pins s σ H x y v u Q I rx ry h
 obtain ⟨i,j,rfl,rfl,hc,q⟩:=h
 obtain ⟨t,rfl⟩:=rx
 obtain ⟨t',rfl⟩:=ry
 exact rule i j t t' s _ _ hc ⟨.int (g i j),H,I.tok _,⟨_,rfl⟩,q⟩
theorem zuu {f : Value -> Value -> Sem Value} {g : Int -> Int -> Int}
   (rule : ∀ (i j : Int) (t u : Tok) (s : Shared) (Q : Value -> Shared -> Prop) (E : Value -> Shared -> Prop),Q (.int (g i j) s.toks) { s with toks:=s.toks + 1 } -> wpAny (model X.prog X.w) X.A (f (.int i t) (.int j u)) Q E s) :
   OpR X f (rI0 fun i j=>.int (g i j)):=by
 intro pins s σ H x y v u Q I rx ry h
 obtain ⟨i,j,rfl,rfl,q⟩:=h
 obtain ⟨t,rfl⟩:=rx
 obtain ⟨t',rfl⟩:=ry
 exact rule i j t t' s _ _ ⟨.int (g i j),H,I.tok _,⟨_,rfl⟩,q⟩
theorem zrM {f : Value -> Value -> Sem Value} {g : Int -> Int -> Bool}
   (rule : ∀ (i j : Int) (t u : Tok) (s : Shared) (Q : Value -> Shared -> Prop) (E : Value -> Shared -> Prop),Q (.bool (g i j)) s -> wpAny (model X.prog X.w) X.A (f (.int i t) (.int j u)) Q E s) :
   OpR X f (rI0 fun i j=>.bl (g i j)):=by
 intro pins s σ H x y v u Q I rx ry h
 obtain ⟨i,j,rfl,rfl,q⟩:=h
 obtain ⟨t,rfl⟩:=rx
 obtain ⟨t',rfl⟩:=ry
 exact rule i j t t' s _ _ ⟨.bl (g i j),H,I,rfl,q⟩
def zup (i j : Int) : Prop:=0 <= j /\ j <= 1000000 /\ i.natAbs < 2 ^ 64
theorem zs5 : OpR X (binaryOp .Add) (rI0 fun i j=>.int (i + j)):=zuu fun _ _ _ _ _ _ _ q=>add_int q
theorem zoO : OpR X (binaryOp .Sub) (rI0 fun i j=>.int (i - j)):=zuu fun _ _ _ _ _ _ _ q=>sub_int q
theorem zck : OpR X (binaryOp .Mod) (rI (fun _ j=>0 < j) fun i j=>.int (i % j)):=opI fun i j _ _ _ _ _ hc q=>by
 have h1 : (0 : Int) < j:=hc
 exact mod_int' (by lia) (by rw [Int.fmod_eq_emod_of_nonneg i (by lia)]; exact q)
theorem zsB : OpR X (binaryOp .Pow) (rI zup fun i j=>.int (i ^ j.toNat)):=opI fun _ _ _ _ _ _ _ hc q=>pow_int_small hc.1 hc.2.1 hc.2.2 q
theorem unI {f : Value -> Sem Value} {g : Int -> Int}
   (rule : ∀ (i : Int) (t : Tok) (s : Shared) (Q : Value -> Shared -> Prop) (E : Value -> Shared -> Prop),Q (.int (g i) s.toks) { s with toks:=s.toks + 1 } -> wpAny (model X.prog X.w) X.A (f (.int i t)) Q E s) :
   UnR X f (rU fun i=>.int (g i)):=by
 intro pins s σ H x v Q I rx h
 obtain ⟨i,rfl,q⟩:=h
 obtain ⟨t,rfl⟩:=rx
 exact rule i t s _ _ ⟨.int (g i),H,I.tok _,⟨_,rfl⟩,q⟩
theorem zqf : UnR X (unaryOp .USub) (rU fun i=>.int (-i)):=unI fun _ _ _ _ _ q=>neg_int q
end
section
variable {X : Cx} {a b c : Expr} {ta tb tc : TE} {pos : Pos}
theorem zsM {pins : List (Addr × Obj)} {σ : St} {H : Hp} {s : Shared} {Q : VK} {k k' : Bool} (I : Inv X pins σ H s) (q : Q (.bl k) H) (e : k = k') : EP X pins σ Q (.bool k') s:=by
 subst e
 exact ⟨.bl k,H,I,rfl,q⟩
theorem zmV : OpR X (compareOp .Lt) (rI0 fun i j=>.bl (decide (i < j))):=zrM fun _ _ _ _ _ _ _ q=>lt_int q
theorem zg2 : OpR X (compareOp .LtE) (rI0 fun i j=>.bl (decide (i <= j))):=zrM fun _ _ _ _ _ _ _ q=>le_int q
theorem zmU : OpR X (compareOp .Gt) (rI0 fun i j=>.bl (decide (j < i))):=zrM fun _ _ _ _ _ _ _ q=>gt_int q
theorem zrX : OpR X (compareOp .GtE) (rI0 fun i j=>.bl (decide (j <= i))):=zrM fun _ _ _ _ _ _ _ q=>ge_int q
theorem zn5 : OpR X (compareOp .In) (fun x y H Q=>∃ i j,x = .str i /\ y = .str j /\ Q (.bl (!(Builtin.Str.occurrences j i 0 j.length 1).isEmpty)) H):=by
 intro pins s σ H x y v u Q I rx ry h
 obtain ⟨i,j,rfl,rfl,q⟩:=h
 obtain ⟨t,rfl⟩:=rx
 obtain ⟨t',rfl⟩:=ry
 exact in_str (zsM I q rfl)
theorem OpR.or {f : Value -> Value -> Sem Value} {r r' : R2} (h : OpR X f r) (h' : OpR X f r') : OpR X f (fun x y H Q=>r x y H Q \/ r' x y H Q):=by
 intro pins s σ H x y v u Q I rx ry q
 rcases q with q | q
 . exact h pins s σ H x y v u Q I rx ry q
 . exact h' pins s σ H x y v u Q I rx ry q
theorem zax (b : Expr) {op : CmpOp} (h : op ≠ .In:=by decide) (h2 : op ≠ .NotIn:=by decide) : behindInMarks op b = false:=by
 have e1 : (op == CmpOp.In) = false:=by cases op <;> first | rfl | exact absurd rfl h
 have e2 : (op == CmpOp.NotIn) = false:=by cases op <;> first | rfl | exact absurd rfl h2
 cases b <;> simp [behindInMarks,e1,e2]
theorem zb4 {op : CmpOp} {r : R2} (ho : OpR X (compareOp op) r) (ha : PE X a ta) (hb : PE X b tb) (hm : behindInMarks op b = false) : PE X (.Compare a [op] [b] pos) (tOp r ta tb):=by
 intro pins s σ H Q I h
 exact wpAny_Compare1 (zsQ ha hb I h fun v u s2 x y H2 I2 rx ry q=>ho pins s2 σ H2 x y v u Q I2 rx ry q) hm
def zpL (t : TE) : TT:=fun σ H Q=>t σ H fun x H'=>∃ k,x = .bl k /\ Q k H'
theorem zaC {op : CmpOp} {r : R2} (ho : OpR X (compareOp op) r) (ha : PE X a ta) (hb : PE X b tb) (hm : behindInMarks op b = false) : PT X (.Compare a [op] [b] pos) (zpL (tOp r ta tb)):=by
 intro pins s σ H Q I h
 refine wpAny_isTrue_Compare1 (thn (ha pins s σ H _ I h) fun v s1 ⟨x,H1,I1,r1,q1⟩=>thn (hb pins s1 σ H1 _ I1 q1) fun u s2 ⟨y,H2,I2,r2,q2⟩ =>
   thn (ho pins s2 σ H2 x y v u _ I2 r1 r2 q2) fun c s3 ⟨z,H3,I3,r3,k,e,q3⟩=>?_) hm
 subst e
 cases r3
 exact wpAny_truthy_bool ⟨H3,I3,q3⟩
def zqk (r r' : R2) (ta tb tc : TE) : TE:=fun σ H Q=>ta σ H fun x H1=>tb σ H1 fun y H2=>r x y H2 fun z H3=>∃ k,z = .bl k /\
 (if k = true then tc σ H3 fun w' H4=>r' y w' H4 Q else Q (.bl false) H3)
theorem zli {op op' : CmpOp} {r r' : R2} (ho : OpR X (compareOp op) r) (ho' : OpR X (compareOp op') r') (ha : PE X a ta) (hb : PE X b tb) (hc : PE X c tc)
   (hm : lastMarks [op,op'] [b,c] = false:=by with_unfolding_all rfl) : PT X (.Compare a [op,op'] [b,c] pos) (zpL (zqk r r' ta tb tc)):=by
 intro pins s σ H Q I h
 refine isTrue_chain (thn (ha pins s σ H _ I h) fun v s1 ⟨x,H1,I1,r1,q1⟩=>test_link (thn (hb pins s1 σ H1 _ I1 q1) fun u s2 ⟨y,H2,I2,r2,q2⟩ =>
   thn (ho pins s2 σ H2 x y v u _ I2 r1 r2 q2) fun d s3 ⟨z,H3,I3,r3,k,e,q3⟩=>?_)) hm
 subst e
 cases r3
 refine wpAny_truthy_bool ?_
 cases k with
 | false =>
   obtain ⟨k',e',q'⟩:=q3
   cases e'
   exact ite_ff ⟨H3,I3,q'⟩
 | true =>
   refine ite_tt (test_last (thn (hc pins s3 σ H3 _ I3 q3) fun w' s4 ⟨z',H4,I4,r4,q4⟩=>thn (ho' pins s4 σ H4 y z' u w' _ I4 r2 r4 q4) fun d' s5 ⟨z2,H5,I5,r5,k2,e2,q5⟩=>?_))
   subst e2
   cases r5
   exact wpAny_truthy_bool ⟨H5,I5,q5⟩
def ztL (K : PySem.W.Frag) (x : V) (H : Hp) (k : Bool) : Prop :=
 match x with
 | .non=>k = false
 | .bl b=>k = b
 | .int i=>k = (i != 0)
 | .str y=>y.length <= sizeLine /\ k = ((y.length : Int) != 0)
 | .byt y=>y.size <= sizeLine /\ k = ((y.size : Int) != 0)
 | .ref p=>(∃ xs,SqL K H p xs /\ k = !xs.isEmpty) \/ (∃ xs,SqT K H p xs /\ k = !xs.isEmpty) \/ ∃ kvs,H p = some (.dK kvs) /\ k = !kvs.isEmpty
 | _=>False
theorem zl0 {κ : Type} {kvs : List (κ × V)} {vs : List (κ × Value)} (r : KV kvs vs) : (!vs.isEmpty) = !kvs.isEmpty:=by
 cases r <;> rfl
theorem zhH {xs : List V} {its : List Value} (r : zav xs its) : (!its.toArray.isEmpty) = !xs.isEmpty:=by
 cases r <;> simp
theorem zfu : (sizeLine : Nat) < 2 ^ 63:=by rw [sizeLine_eq]; decide
theorem zty : zuE X (fun x H Q=>∃ k,ztL X.K x H k /\ Q k H):=by
 intro pins s σ H x v Q I rx h
 obtain ⟨k,e,q⟩:=h
 have hl:=zfu
 have hs : sizeLine = 16777216:=sizeLine_eq
 cases x with
 | non =>
   cases rx
   have e' : k = false:=e
   subst e'
   exact truthy_none ⟨H,I,q⟩
 | bl b =>
   cases rx
   have e' : k = b:=e
   subst e'
   exact wpAny_truthy_bool ⟨H,I,q⟩
 | int i =>
   obtain ⟨t,rfl⟩:=rx
   have e' : k = (i != 0):=e
   subst e'
   exact PySem.P.truthy_int ⟨H,I,q⟩
 | str y =>
   obtain ⟨t,rfl⟩:=rx
   obtain ⟨hy,e'⟩ : y.length <= sizeLine /\ k = ((y.length : Int) != 0):=e
   subst e'
   exact PySem.P.truthy_str (by lia) ⟨H,I.tok _,q⟩
 | byt y =>
   obtain ⟨t,rfl⟩:=rx
   obtain ⟨hy,e'⟩ : y.size <= sizeLine /\ k = ((y.size : Int) != 0):=e
   subst e'
   exact PySem.W.truthy_bytes (by lia) ⟨H,I.tok _,q⟩
 | ref p =>
   cases rx
   have e' : (∃ xs,SqL X.K H p xs /\ k = !xs.isEmpty) \/ (∃ xs,SqT X.K H p xs /\ k = !xs.isEmpty) \/ ∃ kvs,H p = some (.dK kvs) /\ k = !kvs.isEmpty:=e
   rcases e' with ⟨xs,hx,e'⟩ | ⟨xs,hx,e'⟩ | ⟨kvs,hx,e'⟩
   . subst e'
     obtain ⟨its,r,pl,hz⟩:=I.list hx
     have hlen:=r.length
     exact wpAny_truthy_list pl.isList (by simp only [List.size_toArray]; lia) ⟨H,I.tok _,by rw [zhH r]; exact q⟩
   . subst e'
     obtain ⟨its,r,pl,hz⟩:=I.tuple hx
     have hlen:=r.length
     exact truthy_tuple pl (by simp only [List.size_toArray]; lia) ⟨H,I.tok _,by rw [zhH r]; exact q⟩
   . subst e'
     obtain ⟨hz,hS,vs,r,m⟩ : kvs.length <= sizeLine /\ (p == sysModules) = false /\ ∃ vs,KV kvs vs /\ s.heap.DictOf (zjJ X.prog X.w) p vs:=I.hok p _ hx
     have hlen : kvs.length = vs.length:=Paired.length r
     exact wpAny_truthy_dict hS m (by lia) ⟨H,I.tok _,by rw [zl0 r]; exact q⟩
 | _=>exact (show False from e).elim
theorem zp0 (ha : PE X a ta) (he : ∀ whole,isTrue a X.env whole = (do let v <- whole; standAt a.pos; holding [v] (truthy v))) :
   PT X a (fun σ H Q=>ta σ H fun x H'=>∃ k,ztL X.K x H' k /\ Q k H'):=by
 intro pins s σ H Q I h
 exact isTrue_plain (thn (ha pins s σ H _ I h) fun v s1 ⟨x,H1,I1,r1,q1⟩=>zty pins s1 σ H1 x v Q I1 r1 q1) (he _)
theorem zlY : OpR X (binaryOp .Add) (fun x y H Q=>∃ i j,x = .str i /\ y = .str j /\ i.length + j.length <= sizeLine /\ Q (.str (i ++ j)) H):=by
 intro pins s σ H x y v u Q I rx ry h
 obtain ⟨i,j,rfl,rfl,hz,q⟩:=h
 obtain ⟨t,rfl⟩:=rx
 obtain ⟨t',rfl⟩:=ry
 exact add_str (fun t' tk=>⟨.str (i ++ j),H,I.tok _,⟨_,rfl⟩,q⟩) hz
theorem zes {x : V} {us : List Value} (r : zav [x] us) : ∃ u,us = [u] /\ zaJ x u:=by
 cases r with
 | cons r1 r2=>cases r2; exact ⟨_,rfl,r1⟩
theorem zgh {x y : V} {us : List Value} (r : zav [x,y] us) : ∃ u w',us = [u,w'] /\ zaJ x u /\ zaJ y w':=by
 cases r with
 | cons r1 r2 =>
   cases r2 with
   | cons r3 r4=>cases r4; exact ⟨_,_,rfl,r1,r3⟩
theorem zpi : zaq X (.builtin "abs") (fun xs H Q=>∃ i,xs = [.int i] /\ Q (.int (if i < 0 then -i else i)) H):=by
 intro pins s σ H xs us Q I r h
 obtain ⟨i,rfl,q⟩:=h
 obtain ⟨u,rfl,t,rfl⟩:=zes r
 exact call_abs_int fun u tk=>⟨.int (if i < 0 then -i else i),H,I.tok _,⟨_,rfl⟩,q⟩
theorem zoo (hc : X.calm = true) : zaq X (.builtin "max") (fun xs H Q=>∃ i j,xs = [.int i,.int j] /\ Q (.int (if j > i then j else i)) H):=by
 intro pins s σ H xs us Q I r h
 obtain ⟨i,j,rfl,q⟩:=h
 obtain ⟨u,w',rfl,⟨t,rfl⟩,⟨t',rfl⟩⟩:=zgh r
 refine max_two_ints (I.ok.hd hc) fun h' tk k=>⟨_,H,I.kept k,?_,q⟩
 by_cases hj : j > i
 . rw [if_pos hj,if_pos hj]; exact ⟨_,rfl⟩
 . rw [if_neg hj,if_neg hj]; exact ⟨_,rfl⟩
theorem zkB : zaq X (.type "str") (fun xs H Q=>∃ i,xs = [.int i] /\ i.natAbs.log2 < 1920 /\ Q (.str (toString i)) H):=by
 intro pins s σ H xs us Q I r h
 obtain ⟨i,rfl,hz,q⟩:=h
 obtain ⟨u,rfl,t,rfl⟩:=zes r
 exact PySem.P.str_of_int hz ⟨.str _,H,I.tok _,⟨_,rfl⟩,q⟩
end
end L2
namespace L2
open PySem PySem.Spec PyProof.Rows
structure zuV (h : Heap) (x dx C : Addr) (mA : Str -> Option Value) : Prop where
 obj : h.get? x = some (PySem.W.instObj C dx)
 ns : h.Ns1 dx mA
 ne : dx ≠ x
section
variable {prog : Program} {w : World} {A : Around} {E : Value -> Shared -> Prop} {s : Shared} {K : PySem.W.Frag} {x dx C f : Addr} {mA : Str -> Option Value} {name : Str} {v : Value}
end
section
variable {P : Program} {w : World} {H H' : Hp} {h h' : Heap} {a C dx : Addr} {fs fs' : List (Str × V)}
end
structure Cls (K : PySem.W.Frag) (C : Addr) : Prop where
 pg : PySem.W.plainGet K C Str.empty = true
 hd : PySem.W.hasDictIn K C = true
 po : PySem.W.plainOver K C = true
 sa : PySem.W.findIn K (.ref C) "__setattr__" = some (some (.builtin "object.__setattr__"))
structure Con (K : PySem.W.Frag) (C : Addr) (f : Str) (v : V) (u : Value) : Prop where
 at_ : PySem.W.findIn K (.ref C) f = some (some u)
 rel : zaJ v u
 get : PySem.W.specialIn K u "__get__" = some none
 cp : PySem.W.copiedNames.contains f = false
structure zuY (K : PySem.W.Frag) (C : Addr) (m : Str) (f : Addr) : Prop where
 at_ : PySem.W.findIn K (.ref C) m = some (some (.ref f))
 fn : PySem.W.isFn K (.ref f) = true
 kp : PySem.W.keepIn K (.ref f) = true
section
variable {X : Cx} {pins : List (Addr × Obj)} {σ : St} {H : Hp} {s : Shared} {a C dx : Addr} {fs : List (Str × V)} {f : Str} {v : V} {A : Around} {E : Value -> Shared -> Prop}
end
section
variable {X : Cx} {o e value : Expr} {f : Str} {pos pos' tpos : Pos} {ta tv : TE}
end
section
variable {X : Cx} {pins : List (Addr × Obj)} {σ : St} {H : Hp} {s : Shared} {A : Around} {E : Value -> Shared -> Prop} {Q : Value -> Shared -> Prop} {c : Value} {b : Bool}
inductive ziq (K : PySem.W.Frag) (H : Hp) : V -> Value -> Prop where
 | non : ziq K H .non (.type "NoneType")
 | bl (x : Bool) : ziq K H (.bl x) (.type "bool")
 | int (i : Int) : ziq K H (.int i) (.type "int")
 | str (x : Str) : ziq K H (.str x) (.type "str")
 | flt (x : UInt64) : ziq K H (.flt x) (.type "float")
 | lst {a : Addr} {xs : List V} (e : H a = some (.lst xs)) : ziq K H (.ref a) (.type "list")
 | frz {a : Addr} {o : Obj} {xs : List V} (e : H a = some (.frz o (.lst xs))) : ziq K H (.ref a) (.type "list")
 | tup {a : Addr} {xs : List V} (e : H a = some (.tup xs)) : ziq K H (.ref a) (.type "tuple")
 | dK {a : Addr} {kvs : List (Key × V)} (e : H a = some (.dK kvs)) : ziq K H (.ref a) (.type "dict")
 | dT {a : Addr} {kvs : List (List Key × V)} (e : H a = some (.dT kvs)) : ziq K H (.ref a) (.type "dict")
 | ins {a C dx : Addr} {fs : List (Str × V)} (e : H a = some (.ins C dx fs)) (cl : Cls K C) (ha : PySem.W.findIn K (.ref C) "__class__" = some (some (.builtin "object.__class__")))
     (hn : PySem.W.specialIn K (.builtin "object.__class__") "__get__" = some (some (.builtin "getset_descriptor.__get__"))) (htk : PySem.W.takesIn K (.builtin "object.__class__") = some true)
     (hm : PySem.W.mroIn K C (.type "object") = some true) : ziq K H (.ref a) (.ref C)
end
end L2
namespace L2
open PySem PySem.Spec PyProof.Rows
structure zdb (k : Nat) (A : Around) : Prop where
 hd : A.handled = none
 dp : A.depth + 3 * k + 5 < recursionLimit
 un : A.units + 16 * k + 200 < cLine
 gd : A.guards = some []
theorem zdb.mono {j k : Nat} {A : Around} (r : zdb k A) (h : j <= k) : zdb j A:=⟨r.hd,by have:=r.dp; lia,by have:=r.un; lia,by first | exact r.gd | (simp [Around.under,Code.guards,Code.isGuard,guardIds]; exact r.gd)⟩
theorem zdb.deeper {k : Nat} {A : Around} (r : zdb (k + 1) A) (env : Env) : zdb k (A.deeper env) :=
 ⟨r.hd,by have:=r.dp; show A.depth + 1 + 3 * k + 5 < _; lia,by have:=r.un; show A.units + 3 + 16 * k + 200 < _; lia,by first | exact r.gd | (simp [Around.under,Code.guards,Code.isGuard,guardIds]; exact r.gd)⟩
theorem zdb.depth {k : Nat} {A : Around} (r : zdb k A) : A.depth < recursionLimit:=by have:=r.dp; lia
theorem zdb.units {k : Nat} {A : Around} (r : zdb k A) : A.units + 64 < cLine:=by have:=r.un; lia
def ztD : TA:=fun _ H Q=>Q [] H
def zoQ (ta : TE) (tr : TA) : TA:=fun σ H Q=>ta σ H fun x H1=>tr σ H1 fun xs H2=>Q (x :: xs) H2
section
variable {X : Cx} {e : Expr} {es : List Expr} {te : TE} {t : TA} {pos : Pos}
theorem zab : PA X [] ztD:=fun _ _ _ _ H Q I h=>Calls.spliced_nil ⟨[],H,I,.nil,h⟩
theorem zaa (ha : PE X e te) (hr : PA X es t) (hs : starEach (e :: es) X.env = (false,eval e X.env) :: starEach es X.env:=by rfl) : PA X (e :: es) (zoQ te t):=by
 intro pos pins s σ H Q I h
 rw [hs]
 show wpAny _ _ (spliced ((false,eval e X.env) :: backTo pos (starEach es X.env))) _ _ s
 refine Calls.spliced_cons (thn (ha pins s σ H _ I h) fun u s1 ⟨x,H1,I1,r1,q1⟩=>?_)
 exact thn (hr pos pins s1 σ H1 _ I1 q1) fun us s2 ⟨xs,H2,I2,r2,q2⟩=>⟨x :: xs,H2,I2,.cons r1 r2,q2⟩
def zuK (t : TA) : TE:=fun σ H Q=>t σ H fun xs H1=>xs.length <= sizeLine /\ ∀ p,H1 p = none -> Q (.ref p) (upd H1 p (.tup xs))
def zuF (t : TA) : TE:=fun σ H Q=>t σ H fun xs H1=>xs.length <= sizeLine /\ ∀ p,H1 p = none -> Q (.ref p) (upd H1 p (.lst xs))
theorem zs0 {x1} (h : PA X es t) : PE X (.Tuple es x1 pos) (zuK t):=by
 intro pins s σ H Q I hq
 refine wpAny_Tuple_spliced (thn (h pos pins s σ H _ I hq) fun us s1 ⟨xs,H1,I1,r,z,q⟩=>⟨by rw [<- r.length]; exact z,?_⟩)
 have hf : H1 s1.heap.objs.size = none:=I1.hok.fresh (Nat.le_refl _)
 refine ⟨.ref s1.heap.objs.size,upd H1 s1.heap.objs.size (.tup xs),I1.laid (t':=s1.toks) (fun b u e=>Heap.get?_push_of_some _ e) (Nat.le_refl _) ?_,rfl,q _ hf⟩
 exact ⟨z,us,r,⟨_,Heap.get?_push_size _ rfl,rfl,_,rfl⟩⟩
theorem zsY (h : PA X es t) : PE X (.List es pos) (zuF t):=by
 intro pins s σ H Q I hq
 refine wpAny_List_spliced (thn (h pos pins s σ H _ I hq) fun us s1 ⟨xs,H1,I1,r,z,q⟩=>⟨by rw [<- r.length]; exact z,?_⟩)
 have hf : H1 s1.heap.objs.size = none:=I1.hok.fresh (Nat.le_refl _)
 refine ⟨.ref s1.heap.objs.size,upd H1 s1.heap.objs.size (.lst xs),I1.laid (t':=s1.toks) (fun b u e=>Heap.get?_push_of_some _ e) (Nat.le_refl _) ?_,rfl,q _ hf⟩
 exact ⟨z,us,0,r,Heap.get?_push_size _ rfl⟩
end
abbrev Sp:=List V -> Hp -> VK -> XK -> Prop
abbrev CXT:=List Env -> Hp -> Shared -> XK -> Value -> Shared -> Prop
structure zpO (P : Program) (w : World) (K : PySem.W.Frag) (mg : Str -> Option Value) (base : Heap) (A : Around) (outer : List Env) (s : Shared) (H : Hp) : Prop where
 frames : A.frames = some outer
 mod : Mod K mg base
 bs : ∀ b o,base.get? b = some o -> s.heap.get? b = some o /\ H b = none
 bsz : base.objs.size <= s.heap.objs.size
 funs : s.heap.FunFrames base outer
 frf : ∀ b ∈ frs outer,H b = none
 hok : HOk P w H s.heap
 bare : AllBare s.gens
def CE (outer : List Env) (P : Program) (w : World) (H : Hp) (s : Shared) (Q : VK) (u : Value) (s' : Shared) : Prop :=
 ∃ v H',s'.os = s.os /\ AllBare s'.gens /\ Un (frs outer) [] H H' s.heap s'.heap /\ HOk P w H' s'.heap /\ zaJ v u /\ Q v H'
def CR (CX : CXT) (outer : List Env) (P : Program) (w : World) (H : Hp) (s : Shared) (Q : VK) (E : XK) (r : Result) (s' : Shared) : Prop :=
 match r with
 | .ok (.ret u)=>CE outer P w H s Q u s'
 | .ok _=>False
 | .error e=>CX outer H s E e s'
structure zaM (P : Program) (w : World) (K : PySem.W.Frag) (mg : Str -> Option Value) (base : Heap) (CX : CXT) (k : Nat) (f : Addr) (fd : FuncData) (ps : List Str) (sp : Sp) : Prop where
 len : ∀ vs H Q E,sp vs H Q E -> vs.length = ps.length
 run : ∀ (A : Around) (outer : List Env) (s : Shared) (H : Hp) (args : Args) (us : List Value) (vs : List V) (Q : VK) (E : XK),zdb k A -> zpO P w K mg base A outer s H -> BindsTo s fd args (ps.zip us) -> zav vs us -> sp vs H Q E ->
   codeAny (model P w) A (.call (.ref f) args) (CR CX outer P w H s Q E) s
section
variable {X : Cx} {pins : List (Addr × Obj)} {σ : St} {H : Hp} {s s' : Shared}
theorem Inv.env0 (I : Inv X pins σ H s) : zpO X.prog X.w X.K X.mg X.base X.A X.stack s H :=
 ⟨I.ok.frames,I.ok.mod,I.bs,Nat.le_trans I.ok.bsz I.sz,I.stack,I.stkFree,I.hok,I.bare⟩
theorem Inv.after {Q : VK} {u : Value} (I : Inv X pins σ H s) (h : CE X.stack X.prog X.w H s Q u s') : EP X pins σ Q u s':=by
 obtain ⟨v,H',os,bare,un,hok,r,q⟩:=h
 obtain ⟨hh,g,d,t,os'⟩:=s'
 obtain rfl : os' = s.os:=os
 exact ⟨v,H',I.call (h':=hh) (g':=g) (d':=d) (t':=t) (ch:=[]) un hok bare (fun b z=>absurd z (by simp)),r,q⟩
end
def zlt (sp : Sp) (dvs : List V) (E : XK) (t : TA) : TE:=fun σ H Q=>t σ H fun vs H1=>sp (vs ++ dvs) H1 Q E
def zib (K : PySem.W.Frag) (fd : FuncData) (ps : List Str) (ds : List Value) : Prop :=
 ∀ (s : Shared) (us : List Value),K.In s.heap -> (us ++ ds).length = ps.length -> BindsTo s fd ⟨us,[]⟩ (ps.zip (us ++ ds))
theorem zib.all {K : PySem.W.Frag} {fd : FuncData} {ps : List Str} (h : ∀ us : List Value,us.length = ps.length -> bindArgs fd ⟨us,[]⟩ = pure (ps.zip us)) : zib K fd ps []:=fun s us _ hl=>by
 rw [List.append_nil] at hl ⊢
 exact .of_eq (h us hl)
def zgL (CX : CXT) (X : Cx) (E : XK) : Prop:=∀ (pins : List (Addr × Obj)) (σ : St) (H : Hp) (s : Shared) (e : Value) (s' : Shared),Inv X pins σ H s -> CX X.stack H s E e s' -> X.xe e s'
section
variable {X : Cx} {CX : CXT} {k : Nat} {f C : Addr} {fd : FuncData} {ps : List Str} {sp : Sp} {dvs : List V} {ds : List Value} {E : XK} {x m : Str} {p pos apos : Pos} {e o : Expr} {es : List Expr} {ta : TE} {t : TA}
theorem zsx {pins : List (Addr × Obj)} {σ : St} {H : Hp} {s : Shared} {Q : VK} {us : List Value} {vs : List V} (F : zaM X.prog X.w X.K X.mg X.base CX k f fd ps sp) (hr : zdb k X.A) (hb : zib X.K fd ps ds) (hd : zav dvs ds) (hx : zgL CX X E)
   (I : Inv X pins σ H s) (r : zav vs us) (h : sp (vs ++ dvs) H Q E) : wpAny (model X.prog X.w) X.A (call (.ref f) us) (EP X pins σ Q) X.xe s:=by
 have r2 : zav (vs ++ dvs) (us ++ ds):=r.append hd
 have hl : (us ++ ds).length = ps.length:=by rw [<- r2.length]; exact F.len _ _ _ _ h
 refine wpAny_call (codeAny_mono (F.run X.A X.stack s H ⟨us,[]⟩ (us ++ ds) (vs ++ dvs) Q E hr I.env0 (hb s us I.kIn hl) r2 h) fun r s' hq=>?_)
 cases r with
 | error e=>exact hx pins σ H s e s' I hq
 | ok fl =>
   cases fl with
   | ret u=>exact I.after hq
   | next=>exact False.elim hq
   | brk=>exact False.elim hq
   | cont=>exact False.elim hq
theorem znj (F : zaM X.prog X.w X.K X.mg X.base CX k f fd ps sp) (hr : zdb k X.A) (hg : Gl X x) (hm : X.mg x = some (.ref f)) (hk : PySem.W.keepIn X.K (.ref f) = true) (hb : zib X.K fd ps ds) (hd : zav dvs ds) (hx : zgL CX X E)
   (ha : PA X (e :: es) t) (hdb : (x == ("__debug__" : Str)) = false:=by decide) (he : starEach (e :: es) X.env = (false,eval e X.env) :: starEach es X.env:=by rfl) (hpl : (backTo pos (starEach es X.env)).any (·.1) = false:=by rfl) :
   PE X (.Call (.Name x p) (e :: es) [] pos) (zlt sp dvs E t):=by
 intro pins s σ H Q I h
 refine wpAny_Call_Name_kw (zf3 I hg hm ?_ hdb)
 refine PySem.W.callWith_K (h₀:=X.base) I.ok.mod.kin hk (thn (ha pos pins s σ H _ I h) fun us s1 ⟨vs,H1,I1,r,q⟩=>⟨I1.kIn,?_⟩) he hpl
 exact zsx F hr hb hd hx I1 r q
structure Mk (K : PySem.W.Frag) (C f : Addr) : Prop where
 makes : PySem.W.makesIn K C = true
 init : PySem.W.findIn K (.ref C) "__init__" = some (some (.ref f))
 fn : PySem.W.isFn K (.ref f) = true
 kp : PySem.W.keepIn K (.ref C) = true
end
section
variable {X : Cx} {CX : CXT} {k : Nat} {f C : Addr} {fd : FuncData} {ps ks : List Str} {sp : Sp} {E : XK} {x m : Str} {p pos apos kpos : Pos} {e o : Expr} {es : List Expr} {kws : List Keyword} {te ta : TE} {t tk : TA} {nm : Option Str}
structure zuJ (K : PySem.W.Frag) (fd : FuncData) (ps ks : List Str) (g : List Value -> List Value -> List Value) (gV : List V -> List V -> List V) : Prop where
 to : ∀ (s : Shared) (us ws : List Value),K.In s.heap -> (g us ws).length = ps.length -> BindsTo s fd ⟨us,ks.zip ws⟩ (ps.zip (g us ws))
 rel : ∀ {vs : List V} {us : List Value} {zs : List V} {ws : List Value},zav vs us -> zav zs ws -> zav (gV vs zs) (g us ws)
variable {g : List Value -> List Value -> List Value} {gV : List V -> List V -> List V}
end
structure zal (N P : List Str) (sc : Scope) : Prop where
 kind : sc.kind = .function
 co : sc.isCoroutine = false
 gen : sc.isGenerator = false
 nd : N.Nodup
 pre : N.take P.length = P
 par : ∀ x ∈ P,sc.names.lookup x = some .local \/ sc.names.lookup x = some .cell
 nofree : ∀ y ∈ sc.names,y.2 ≠ .free
theorem ziU {kindOf : Str -> Option NameKind} {x : Str} : ∀ {binds : List (Str × Value)} {m : Str -> Option Value},(∀ v,(x,v) ∉ binds) -> bindL kindOf binds m x = m x
 | [],_,_=>rfl
 | (n,v) :: r,m,h=>by
   unfold bindL
   rw [ziU fun w hw=>h w (List.mem_cons_of_mem _ hw)]
   split
   . have : x ≠ n:=by rintro rfl; exact h v List.mem_cons_self
     simp [this]
   . rfl
theorem ziY {kindOf : Str -> Option NameKind} {x : Str} : ∀ {binds : List (Str × Value)} {m : Str -> Option Value},(∀ v,(x,v) ∉ binds) -> bindC kindOf binds m x = m x
 | [],_,_=>rfl
 | (n,v) :: r,m,h=>by
   unfold bindC
   rw [ziY fun w hw=>h w (List.mem_cons_of_mem _ hw)]
   split
   . rfl
   . have : x ≠ n:=by rintro rfl; exact h v List.mem_cons_self
     simp [this]
theorem zi5 {kindOf : Str -> Option NameKind} {x : Str} {v : Value} : ∀ {P : List Str} {vs : List Value} {i : Nat} {m : Str -> Option Value},P.Nodup -> P[i]? = some x -> vs[i]? = some v -> kindOf x = some .local ->
   bindL kindOf (P.zip vs) m x = some v
 | [],_,_,_,_,h,_,_=>by simp at h
 | _ :: _,[],_,_,_,_,h,_=>by simp at h
 | p :: P,w :: vs,0,m,nd,h1,h2,hk=>by
   simp at h1 h2; subst h1; subst h2
   show bindL kindOf ((p,w) :: P.zip vs) m p = _
   unfold bindL
   rw [ziU fun v hv=>(List.nodup_cons.mp nd).1 (List.of_mem_zip hv).1,if_pos hk]
   simp
 | p :: P,w :: vs,i + 1,m,nd,h1,h2,hk=>by
   show bindL kindOf ((p,w) :: P.zip vs) m x = _
   unfold bindL
   exact zi5 (i:=i) (List.nodup_cons.mp nd).2 (by simpa using h1) (by simpa using h2) hk
theorem ziS {kindOf : Str -> Option NameKind} {x : Str} {v : Value} : ∀ {P : List Str} {vs : List Value} {i : Nat} {m : Str -> Option Value},P.Nodup -> P[i]? = some x -> vs[i]? = some v -> kindOf x ≠ some .local ->
   bindC kindOf (P.zip vs) m x = some v
 | [],_,_,_,_,h,_,_=>by simp at h
 | _ :: _,[],_,_,_,_,h,_=>by simp at h
 | p :: P,w :: vs,0,m,nd,h1,h2,hk=>by
   simp at h1 h2; subst h1; subst h2
   show bindC kindOf ((p,w) :: P.zip vs) m p = _
   unfold bindC
   rw [ziY fun v hv=>(List.nodup_cons.mp nd).1 (List.of_mem_zip hv).1,if_neg hk]
   simp
 | p :: P,w :: vs,i + 1,m,nd,h1,h2,hk=>by
   show bindC kindOf ((p,w) :: P.zip vs) m x = _
   unfold bindC
   exact ziS (i:=i) (List.nodup_cons.mp nd).2 (by simpa using h1) (by simpa using h2) hk
def start (N : List Str) (vs : List V) : St:=vs.map some ++ List.replicate (N.length - vs.length) none
def zhI (CX : CXT) (P : Program) (w : World) (K : PySem.W.Frag) (mg : Str -> Option Value) (base : Heap) (N : List Str) (qual : Str) (scope : Scope) (f : Addr) (cd : Value) (A : Around) (outer : List Env) (s : Shared) (H : Hp) (E : XK) : Cx where
 prog:=P
 w:=w
 K:=K
 mg:=mg
 base:=base
 A:=A.deeper (envOfC qual scope s.heap.objs.size f cd)
 N:=N
 s₀:=s
 H₀:=H
 env:=envOfC qual scope s.heap.objs.size f cd
 outer:=outer
 stack:=envOfC qual scope s.heap.objs.size f cd :: outer
 ex:=[]
 calm:=true
 fn:=fun _=>true
 pn:=[]
 xe:=fun e s'=>wpAny (model P w) (A.deeper (envOfC qual scope s.heap.objs.size f cd)) (leaving (envOfC qual scope s.heap.objs.size f cd) e) (fun _ s''=>CX outer H s E e s'') (fun e' s''=>CX outer H s E e' s'') s'
theorem zid {sc : Scope} {n : Nat} {x : Str} (h : sc.names.lookup x = some .cell) : ∃ c,(cellsFrom n sc.names []).lookup x = some c:=by
 have q:=PySem.W.cellsFrom_some sc.names n [] (.inl h)
 exact Option.isSome_iff_exists.mp q
theorem zn0 {CX : CXT} {P : Program} {w : World} {K : PySem.W.Frag} {mg : Str -> Option Value} {base : Heap} {N ps : List Str} {qual : Str} {scope : Scope} {f : Addr} {cd : Value} {A : Around} {outer : List Env} {s s1 : Shared} {H : Hp} {E : XK} {us : List Value} {vs : List V}
   (S : zal N ps scope) (hd : A.handled = none) (e0 : zpO P w K mg base A outer s H) (hl : vs.length = ps.length) (r : zav vs us)
   (x : InCallC s s.heap.objs.size (bindL (envOfC qual scope s.heap.objs.size f cd).kindOf (ps.zip us) fun _=>none) (cellsFrom (s.heap.objs.size + 1) scope.names []) (bindC (envOfC qual scope s.heap.objs.size f cd).kindOf (ps.zip us) fun _=>none) s1) :
   Inv (zhI CX P w K mg base N qual scope f cd A outer s H E) [] (start N vs) H s1:=by
 have hpl : ps.length <= N.length:=by have:=congrArg List.length S.pre; rw [List.length_take] at this; lia
 obtain ⟨h1,tk,rfl,hk⟩:=x.done
 have noA : ∀ b : Addr,b ∉ (zhI CX P w K mg base N qual scope f cd A outer s H E).ex:=fun b z=>absurd (show b ∈ ([] : List Addr) from z) (by simp)
 refine ⟨⟨e0.mod,S.kind,rfl,rfl,Nat.le_refl _,fun y z c h1 h2=>?_,fun y hy=>?_,fun y c _ h=>?_,fun _=>hd,Around.frames_deeper e0.frames,.inr ⟨rfl,rfl⟩,fun b z=>absurd z (noA b),e0.bs,e0.bsz,fun b _ _=>noA b,fun b z=>absurd z (noA b),e0.funs,e0.frf⟩,
   rfl,e0.bare,Un.kept hk,⟨_,x.toInCall.ns,fun i y v h1 h2 h3=>?_⟩,fun y c h=>⟨_,x.cell y c h⟩,e0.hok.fresh (Nat.le_refl _),fun y c h=>?_,fun p hp=>absurd (show p ∈ ([] : List (Addr × Obj)) from hp) (by simp),e0.hok.kept hk,?_⟩
 . exact name_of_addr x.apart (PySem.mem_of_lookup h1) (PySem.mem_of_lookup h2)
 . have hy : scope.names.lookup y = some .cell \/ scope.names.lookup y = some .free:=hy
   rcases hy with hy | hy
   . exact zid hy
   . exact absurd rfl (S.nofree _ (PySem.mem_of_lookup hy))
 . exact Nat.le_of_lt (x.above y c (PySem.mem_of_lookup h))
 . have hi : i < vs.length:=by
     unfold start at h2
     by_cases hi : i < vs.length
     . exact hi
     . rw [List.getElem?_append_right (by simpa using hi)] at h2
       rw [List.getElem?_replicate] at h2
       split at h2 <;> cases h2
   have ha : vs[i]? = some v:=by
     unfold start at h2
     rw [List.getElem?_append_left (by simpa using hi),List.getElem?_map] at h2
     cases e : vs[i]? with
     | none=>rw [e] at h2; cases h2
     | some a=>rw [e] at h2; cases h2; rfl
   obtain ⟨u,hu,rv⟩:=r.get ha
   have hp : ps[i]? = some y:=by
     rw [<- S.pre,List.getElem?_take_of_lt (by lia)]; exact h1
   have ndP : ps.Nodup:=by rw [<- S.pre]; exact S.nd.sublist (List.take_sublist _ _)
   refine ⟨u,rv,?_⟩
   rcases S.par y (List.mem_of_getElem? hp) with k | k
   . exact .inl ⟨k,zi5 ndP hp hu k⟩
   . obtain ⟨c,e⟩:=zid (n:=s.heap.objs.size + 1) k
     refine .inr ⟨.inl k,c,e,?_⟩
     have q:=x.cell y c e
     rw [ziS ndP hp hu (by show scope.names.lookup y ≠ _; rw [k]; decide)] at q
     exact q
 . exact e0.hok.fresh (Nat.le_of_lt (x.above y c (PySem.mem_of_lookup h)))
 . unfold start
   show _ = N.length
   rw [List.length_append,List.length_map,List.length_replicate]
   lia
theorem zrZ {CX : CXT} {P : Program} {w : World} {K : PySem.W.Frag} {mg : Str -> Option Value} {base : Heap} {k : Nat} {f : Addr} {name qual : Str} {params : Arguments} {body : List Stmt} {scope : Scope} {dV kV doc pm cdv ct oc : Value} {an od : Option Addr}
   {osl : Array (Option Value)} {N ps : List Str} {sp : Sp} (lk : K.lookup f = some ⟨oc,od,.func (PySem.W.fnOf name qual params body scope dV kV doc pm an cdv ct),osl⟩) (hcd : PySem.W.codeIn K cdv qual = true) (S : zal N ps scope)
   (len : ∀ vs H Q E,sp vs H Q E -> vs.length = ps.length)
   (hbody : ∀ (A : Around) (outer : List Env) (s : Shared) (H : Hp) (vs : List V) (Q : VK) (E : XK),zdb k (A.deeper (envOfC qual scope s.heap.objs.size f cdv)) -> sp vs H Q E ->
     ∃ t,PSs (zhI CX P w K mg base N qual scope f cdv A outer s H E) body t /\ t { nx:=fun _ H'=>Q .non H',rt:=Q } (start N vs) H) :
   zaM P w K mg base CX (k + 1) f (PySem.W.fnOf name qual params body scope dV kV doc pm an cdv ct) ps sp:=by
 refine ⟨len,fun A outer s H args us vs Q E hr e0 hb r hsp=>?_⟩
 have hl:=len _ _ _ _ hsp
 have KX : K.In s.heap:=e0.mod.kin.keeps fun b o e=>(e0.bs b o e).1
 have lim : s.heap.NoLimit:=e0.mod.nolimit.keeps fun b o e=>(e0.bs b o e).1
 have hkind : ∀ y ∈ ps.zip us,scope.names.lookup y.1 = some .local \/ (scope.names.lookup y.1 = some .cell /\ ((cellsFrom (s.heap.objs.size + 1) scope.names []).lookup y.1).isSome = true):=fun ⟨n,v⟩ hy=>by
   rcases S.par n (List.of_mem_zip hy).1 with q | q
   . exact .inl q
   . exact .inr ⟨q,PySem.W.cellsFrom_some _ _ _ (.inl q)⟩
 refine codeAny_call_function hr.depth (KX _ _ lk) rfl S.co S.gen rfl (PySem.W.codeRec_of KX hcd) (hb _ _ _ _ ?_)
 refine wpAny_newFunctionEnv_cells S.kind hkind fun env he s1 x=>?_
 subst he
 refine ⟨lim.keeps x.toInCall.keep,codeAny_func ?_⟩
 obtain ⟨t,ht,hq⟩:=hbody A outer s H vs Q E (hr.deeper _) hsp
 have I : Inv (zhI CX P w K mg base N qual scope f cdv A outer s H E) [] (start N vs) H s1:=zn0 S hr.hd e0 hl r x
 refine wpAny_mono (ht [] s1 (start N vs) H _ I hq) (fun fl s' hs=>?_) fun e s' hs=>hs
 have fin : ∀ {σ' : St} {H' : Hp} {v : V} {u : Value},Inv (zhI CX P w K mg base N qual scope f cdv A outer s H E) [] σ' H' s' -> zaJ v u -> Q v H' -> CE outer P w H s Q u s' :=
   fun {σ' H' v u} J rv q=>⟨v,H',J.os,J.bare,J.base,J.hok,rv,q⟩
 cases fl with
 | ret u =>
   obtain ⟨v,σ',H',J,rv,q⟩:=hs
   exact fin J rv q
 | next =>
   obtain ⟨σ',H',J,q⟩:=hs
   exact fin (v:=V.non) (u:=Value.none) J rfl q
 | brk =>
   obtain ⟨_,_,_,q⟩:=hs
   exact False.elim q
 | cont =>
   obtain ⟨_,_,_,q⟩:=hs
   exact False.elim q
end L2
namespace L2
open PySem PySem.Spec PyProof.Rows
section
variable {X : Cx} {x : Str} {p pos : Pos} {e : Expr} {es : List Expr} {t : TA} {id T : String} {r : List V -> Hp -> VK -> Prop}
def tCB (r : List V -> Hp -> VK -> Prop) (t : TA) : TE:=fun σ H Q=>t σ H fun vs H1=>r vs H1 Q
theorem zao (hc : zaq X (.builtin id) r) (hg : Gl X x) (hm : X.mg x = none) (hv : bootBuiltins x = some (.builtin id)) (ha : PA X (e :: es) t) (hn : x ≠ "__name__":=by decide) (hdb : (x == ("__debug__" : Str)) = false:=by decide)
   (he : starEach (e :: es) X.env = (false,eval e X.env) :: starEach es X.env:=by rfl) (hpl : (backTo pos (starEach es X.env)).any (·.1) = false:=by rfl) : PE X (.Call (.Name x p) (e :: es) [] pos) (tCB r t):=by
 intro pins s σ H Q I h
 refine wpAny_Call_Name_kw (zfA I hg hm hv ?_ hn hdb)
 exact PyProof.Rows.callWith_builtin1 (thn (ha pos pins s σ H _ I h) fun us s1 ⟨vs,H1,I1,r1,q1⟩=>hc pins s1 σ H1 vs us Q I1 r1 q1) he hpl
theorem za2 (hc : zaq X (.type T) r) (hg : Gl X x) (hm : X.mg x = none) (hv : bootBuiltins x = some (.type T)) (ha : PA X (e :: es) t) (hn : x ≠ "__name__":=by decide) (hdb : (x == ("__debug__" : Str)) = false:=by decide)
   (he : starEach (e :: es) X.env = (false,eval e X.env) :: starEach es X.env:=by rfl) (hpl : (backTo pos (starEach es X.env)).any (·.1) = false:=by rfl) : PE X (.Call (.Name x p) (e :: es) [] pos) (tCB r t):=by
 intro pins s σ H Q I h
 refine wpAny_Call_Name_kw (zfA I hg hm hv ?_ hn hdb)
 exact PyProof.Rows.callWith_type1 (thn (ha pos pins s σ H _ I h) fun us s1 ⟨vs,H1,I1,r1,q1⟩=>hc pins s1 σ H1 vs us Q I1 r1 q1) he hpl
end
end L2
namespace L2
open PySem PySem.Spec PyProof.Rows
section
variable {κ : Type} [DecidableEq κ]
end
abbrev KT (H : Hp) : List (List Key × V) -> List (List Key × Addr × Value) -> Prop:=Paired fun p q=>p.1 = q.1 /\ H q.2.1 = some (.tup (p.1.map kV)) /\ zaJ p.2 q.2.2
section
variable {P : Program} {w : World} {H : Hp} {h : Heap} {a : Addr}
end
section
variable {X : Cx} {pins : List (Addr × Obj)} {σ : St} {H : Hp} {s : Shared} {a : Addr} {y v : V} {u r : Value} {o : Option V} {A : Around} {E : Value -> Shared -> Prop}
end
section
variable {X : Cx} {pins : List (Addr × Obj)} {σ : St} {H : Hp} {s : Shared} {a : Addr} {kvs : List (Key × V)} {k : Key} {u : Value} {A : Around} {E : Value -> Shared -> Prop}
end
section
variable {X : Cx} {o i e value : Expr} {pos pos' tpos : Pos} {td ty tv : TE}
end
section
variable {X : Cx} {pos : Pos}
end
abbrev VV : List (V × V) -> List (Value × Value) -> Prop:=Paired fun p q=>zaJ p.1 q.1 /\ zaJ p.2 q.2
structure M1 (X : Cx) (o : Expr) (m : Str) (apos : Pos) (e : Expr) (cpos : Pos) : Prop where
 base : attributeBase o m X.env (eval o X.env) = eval o X.env
 few : ((backTo cpos (starEach [e] X.env)).all (fun x=>!x.1) && (backToKw cpos (keywordEach [] X.env)).all (fun x=>x.1.isSome)
   && decide (([e] : List Expr).length + ([] : List Keyword).length + (if ([] : List Keyword).isEmpty then 0 else 1) < 30)) = true
 line : (apos.endLine == cpos.line) = true
 trees : backTo cpos (starEach [e] X.env) = [(false,eval e X.env)]
structure M2 (X : Cx) (o : Expr) (m : Str) (apos : Pos) (e f : Expr) (cpos : Pos) : Prop where
 base : attributeBase o m X.env (eval o X.env) = eval o X.env
 few : ((backTo cpos (starEach [e,f] X.env)).all (fun x=>!x.1) && (backToKw cpos (keywordEach [] X.env)).all (fun x=>x.1.isSome)
   && decide (([e,f] : List Expr).length + ([] : List Keyword).length + (if ([] : List Keyword).isEmpty then 0 else 1) < 30)) = true
 line : (apos.endLine == cpos.line) = true
 trees : backTo cpos (starEach [e,f] X.env) = [(false,eval e X.env),(false,eval f X.env)]
section
variable {X : Cx} {pins : List (Addr × Obj)} {σ : St} {H : Hp} {s : Shared} {a : Addr} {y d : V} {u r : Value} {o : Option V} {A : Around} {E : Value -> Shared -> Prop}
end
section
variable {X : Cx} {o e f : Expr} {apos cpos : Pos} {td ty tx : TE}
end
section
variable {X : Cx} {pins : List (Addr × Obj)} {σ : St} {H : Hp} {s : Shared} {a : Addr} {kvs : List (Key × V)} {A : Around} {E : Value -> Shared -> Prop}
end
section
variable {X : Cx} {pins : List (Addr × Obj)} {σ : St} {H : Hp} {s : Shared} {a : Addr} {y : V} {u : Value} {A : Around} {E : Value -> Shared -> Prop}
end
end L2
namespace HT
open PySem PyProof.Rows
section
open PySem.SeqAt
open PySem.AutoSeq1 (wpAny_loadPart')
open PySem.MeetsSeq PySem.MeetsSeq2 PySem.MeetsSeq3
end
section
variable {prog : Program} {w : World} {A : Around} {E : Value -> Shared -> Prop} {s : Shared}
def sIx (n d : Nat) : Option Int -> Nat
 | none=>d
 | some v=>if v < 0 then (v + (n : Int)).toNat else min v.toNat n
theorem ztp (n d : Nat) (hd : d <= n) (o : Option Int) : sIx n d o <= n:=by
 cases o with
 | none=>exact hd
 | some v =>
   show (if v < 0 then (v + (n : Int)).toNat else min v.toNat n) <= n
   by_cases hv : v < 0
   . rw [if_pos hv]; lia
   . rw [if_neg hv]; exact Nat.min_le_right _ _
theorem znp (v : Int) (n d : Nat) : (if v < 0 then max (v + (n : Int)) 0 else min v (n : Int)) = ((sIx n d (some v) : Nat) : Int):=by
 show (if v < 0 then max (v + (n : Int)) 0 else min v (n : Int)) = (((if v < 0 then (v + (n : Int)).toNat else min v.toNat n) : Nat) : Int)
 by_cases hv : v < 0
 . simp only [if_pos hv]; lia
 . simp only [if_neg hv]; lia
theorem zml (lo hi : Option Int) (n : Nat) : Builtin.Slice.sliceAdjust lo hi 1 (n : Int) = (((sIx n 0 lo : Nat) : Int),((sIx n n hi : Nat) : Int)):=by
 have h1 : ¬ ((1 : Int) < 0):=by lia
 unfold Builtin.Slice.sliceAdjust
 simp only [h1,if_false]
 refine Prod.ext ?_ ?_
 . cases lo with
   | none=>rfl
   | some v=>exact znp v n 0
 . cases hi with
   | none=>rfl
   | some v=>exact znp v n n
theorem zmu (i j : Nat) : Builtin.Slice.slicePlaces (i : Int) (j : Int) 1 = j - i:=by
 unfold Builtin.Slice.slicePlaces
 have h1 : (1 : Int) > 0:=by lia
 simp only [h1,if_true,Int.ediv_one]
 split <;> lia
theorem zh9 {v : Value} {o : Option Int} {Q : Option Int -> Shared -> Prop} (p : IsPart v o) (h : Q o s) : wpAny (model prog w) A (Builtin.Slice.slicePartIndex v) Q E s:=by
 cases p with
 | none=>exact slicePart_none h
 | int i t=>exact slicePart_int h
theorem zgI {sl : Addr} {vl vu : Value} {lo hi : Option Int} {n : Nat} {Q : Int × Int × Nat -> Shared -> Prop} (hs : s.heap.IsSliceOf sl vl vu .none) (pl : IsPart vl lo) (pu : IsPart vu hi)
   (h : Q (((sIx n 0 lo : Nat) : Int),1,sIx n n hi - sIx n 0 lo) s) : wpAny (model prog w) A (Builtin.Slice.sliceApplied (.ref sl) (pure (n : Int))) Q E s:=by
 obtain ⟨os,hos,hcs,hds⟩:=id hs
 unfold Builtin.Slice.sliceApplied Builtin.Slice.sliceFields
 refine wpAny_bind (wpAny_bind (wpAny_field hos hds (x:=vl) rfl (wpAny_bind (wpAny_field hos hds (x:=vu) rfl (wpAny_bind (wpAny_field hos hds (x:=.none) rfl (wpAny_pure ?_)))))))
 refine wpAny_bind (slicePart_none ?_)
 show wpAny _ _ (if ((1 : Int) == 0) = true then _ else _) _ _ s
 rw [if_neg (by decide)]
 refine wpAny_bind (zh9 pl (wpAny_bind (zh9 pu (wpAny_bind (wpAny_pure ?_)))))
 show wpAny _ _ (match Builtin.Slice.sliceAdjust lo hi 1 (n : Int) with | (lo,hi)=>pure (lo,(1 : Int),Builtin.Slice.slicePlaces lo hi 1)) _ _ s
 rw [zml lo hi n]
 show wpAny _ _ (pure (((sIx n 0 lo : Nat) : Int),(1 : Int),Builtin.Slice.slicePlaces ((sIx n 0 lo : Nat) : Int) ((sIx n n hi : Nat) : Int) 1)) _ _ s
 rw [zmu]
 exact wpAny_pure h
theorem zoY (xs : Array Value) (i k : Nat) : ((List.range k).filterMap fun (m : Nat)=>xs[((i : Int) + (m : Int) * 1).toNat]?).toArray = ((xs.toList.drop i).take k).toArray:=by
 have e : (fun (m : Nat)=>xs[((i : Int) + (m : Int) * 1).toNat]?) = fun m=>xs[i + m]?:=by
   funext m
   have : ((i : Int) + (m : Int) * 1).toNat = i + m:=by lia
   rw [this]
 rw [e]
 have:=pick_run xs i k
 rw [List.filterMap_map] at this
 have e2 : ((fun x=>xs[x]?) ∘ fun x=>i + x) = fun m=>xs[i + m]?:=rfl
 rw [e2] at this
 rw [this]
theorem getItem_tuple_cut {t sl : Addr} {items : Array Value} {vl vu : Value} {lo hi : Option Int} {Q : Value -> Shared -> Prop} (ht : IsTup s.heap t items) (hs : s.heap.IsSliceOf sl vl vu .none) (pl : IsPart vl lo) (pu : IsPart vu hi)
   (hw : ¬ (sIx items.size 0 lo = 0 /\ sIx items.size items.size hi = items.size))
   (h : Q (.ref s.heap.objs.size) { s with heap:=s.heap.push { cls:=.type "tuple",data:=.seq ((items.toList.drop (sIx items.size 0 lo)).take (sIx items.size items.size hi - sIx items.size 0 lo)).toArray } })
   (hsz : items.size <= sizeLine) : wpAny (model prog w) A (getItem (.ref t) (.ref sl)) Q E s:=by
 have htake : sizeOk (.seq ((items.toList.drop (sIx items.size 0 lo)).take (sIx items.size items.size hi - sIx items.size 0 lo)).toArray):=by
   show ((items.toList.drop (sIx items.size 0 lo)).take (sIx items.size items.size hi - sIx items.size 0 lo)).toArray.size <= sizeLine
   rw [List.size_toArray,List.length_take,List.length_drop,Array.length_toList]
   lia
 have hj : sIx items.size items.size hi <= items.size:=ztp _ _ (Nat.le_refl _) hi
 obtain ⟨os,hos,hcs,hds⟩:=id hs
 have hTs : s.TypeIs (.ref sl) "slice":=⟨os,hos,hcs⟩
 unfold getItem
 try with_reducible refine wpAny_holding ?_
 first | refine wpAny_bind (wpAny_pure ?_) | skip
 refine wpAny_bind (wpAny_sequenceKey ht.typeIs (by decide) ?_)
 refine wpAny_bind (wpAny_callSpecial?_slot (name:=Str.ofString "__getitem__") ht.typeIs PyProof.Rows.slot_tuple_getitem
   (wpAny_call_entry PyProof.Rows.slot_tuple_getitem ht.typeIs entry_tuple_getitem ?_ (args_tuple_getitem _ _)))
 show wpAny _ _ (Builtin.Tuple.tupleItemsOf (.ref t) >>= _) _ _ s
 refine wpAny_bind (tupleItemsOf_ ht ?_)
 refine wpAny_bind (wpAny_typeOf hTs ?_)
 rw [if_pos (by decide)]
 refine wpAny_bind (zgI hs pl pu ?_)
 have hno : ¬ ((((sIx items.size 0 lo : Nat) : Int) == 0 && (1 : Int) == 1 && (sIx items.size items.size hi - sIx items.size 0 lo) == items.size) = true):=by
   intro q
   rw [Bool.and_eq_true,Bool.and_eq_true] at q
   have q1 : ((sIx items.size 0 lo : Nat) : Int) = 0:=eq_of_beq q.1.1
   have q2 : sIx items.size items.size hi - sIx items.size 0 lo = items.size:=eq_of_beq q.2
   exact hw ⟨by lia,by lia⟩
 show wpAny _ _ (if (((sIx items.size 0 lo : Nat) : Int) == 0 && (1 : Int) == 1 && (sIx items.size items.size hi - sIx items.size 0 lo) == items.size) = true then _ else _) _ _ s
 rw [if_neg hno,zoY]
 first
   | exact wpAny_bind (m:=Builtin.Tuple.tupleExact _) (wpAny_newObj_type (wpAny_pure ⟨_,rfl,wpAny_pure h⟩) htake)
   | exact wpAny_bind (m:=Builtin.Tuple.tupleExact _) (wpAny_newObj_type (wpAny_bind (wpAny_pure (wpAny_pure ⟨_,rfl,wpAny_pure h⟩))) htake)
   | exact wpAny_bind (wpAny_bind (m:=Builtin.Tuple.tupleExact _) (wpAny_newObj_type (wpAny_pure (wpAny_pure ⟨_,rfl,wpAny_pure h⟩)) htake))
   | exact wpAny_bind (wpAny_bind (m:=Builtin.Tuple.tupleExact _) (wpAny_newObj_type (wpAny_pure ⟨_,rfl,wpAny_pure h⟩) htake))
end
end HT
namespace L2
open PySem PySem.Spec PyProof.Rows
abbrev TO:=St -> Hp -> (Option Int -> Hp -> Prop) -> Prop
def PO (X : Cx) (e : Option Expr) (t : TO) : Prop :=
 ∀ (pins : List (Addr × Obj)) (s : Shared) (σ : St) (H : Hp) (Q : Option Int -> Hp -> Prop),Inv X pins σ H s -> t σ H Q ->
   wpAny (model X.prog X.w) X.A (evalPart e X.env) (fun u s'=>∃ o H',Inv X pins σ H' s' /\ IsPart u o /\ Q o H') X.xe s
def zm4 : TO:=fun _ H Q=>Q none H
def zsd (t : TE) : TO:=fun σ H Q=>t σ H fun x H1=>∃ i,x = .int i /\ Q (some i) H1
theorem zmB {ns : List Int} : ∀ {us : List Value},zav (ns.map V.int) us -> IntsAre us ns:=by
 induction ns with
 | nil=>intro us r; rw [List.map_nil] at r; cases r; exact .nil
 | cons n ns ih =>
   intro us r
   rw [List.map_cons] at r
   cases r with
   | cons r1 r2 =>
     obtain ⟨t,e⟩:=r1
     subst e
     exact .cons n t (ih r2)
section
variable {X : Cx} {e : Expr} {te : TE} {lo hi : Option Expr} {tl th : TO} {pos p2 : Pos}
theorem zhq : PO X none zm4:=by
 intro pins s σ H Q I h
 rw [evalPart_none]
 exact wpAny_pure ⟨none,H,I,.none,h⟩
theorem zhu (h : PE X e te) : PO X (some e) (zsd te):=by
 intro pins s σ H Q I hw
 rw [evalPart_some]
 refine thn (h pins s σ H _ I hw) fun u s1 ⟨x,H1,I1,r1,q1⟩=>?_
 obtain ⟨i,rfl,q⟩:=q1
 obtain ⟨t,rfl⟩:=r1
 exact ⟨some i,H1,I1,.int i t,q⟩
def SlR (X : Cx) (r : V -> Option Int -> Option Int -> Hp -> VK -> Prop) : Prop :=
 ∀ (pins : List (Addr × Obj)) (s : Shared) (σ : St) (H : Hp) (x : V) (v vl vu : Value) (lo hi : Option Int) (sl : Addr) (Q : VK),Inv X pins σ H s -> zaJ x v -> s.heap.IsSliceOf sl vl vu .none -> IsPart vl lo -> IsPart vu hi -> r x lo hi H Q ->
   ∃ T id,typeLookup (.type T) "__getitem__" = pure (some (.builtin id)) /\ s.TypeIs v T /\ wpAny (model X.prog X.w) X.A (getItem v (.ref sl)) (EP X pins σ Q) X.xe s
theorem SlR.or {r r' : V -> Option Int -> Option Int -> Hp -> VK -> Prop} (h : SlR X r) (h' : SlR X r') : SlR X (fun x lo hi H Q=>r x lo hi H Q \/ r' x lo hi H Q):=by
 intro pins s σ H x v vl vu lo hi sl Q I rx hs pl pu q
 rcases q with q | q
 . exact h pins s σ H x v vl vu lo hi sl Q I rx hs pl pu q
 . exact h' pins s σ H x v vl vu lo hi sl Q I rx hs pl pu q
def tSl (r : V -> Option Int -> Option Int -> Hp -> VK -> Prop) (te : TE) (tl th : TO) : TE:=fun σ H Q=>te σ H fun x H1=>tl σ H1 fun l H2=>th σ H2 fun u H3=>r x l u H3 Q
theorem zf8 {r : V -> Option Int -> Option Int -> Hp -> VK -> Prop} (hr : SlR X r) (he : PE X e te) (hl : PO X lo tl) (hu : PO X hi th) : PE X (.Subscript e (.Slice lo hi none p2) pos) (tSl r te tl th):=by
 intro pins s σ H Q I h
 refine Subscript_ (thn (he pins s σ H _ I h) fun v s1 ⟨x,H1,I1,r1,q1⟩=>?_)
 refine wpAny_Slice (thn (hl pins s1 σ H1 _ I1 q1) fun vl s2 ⟨l,H2,I2,pl,q2⟩=>thn (hu pins s2 σ H2 _ I2 q2) fun vu s3 ⟨u,H3,I3,pu,q3⟩=>?_)
 rw [evalPart_none]
 refine wpAny_pure ?_
 have I4 : Inv X pins σ H3 { s3 with heap:=s3.heap.push { cls:=.type "slice",data:=.fields #[vl,vu,.none] } }:=I3.kept (t':=s3.toks) fun b ob q=>Heap.get?_push_of_some _ q
 obtain ⟨T,id,hT,ht,hg⟩:=hr pins { s3 with heap:=s3.heap.push { cls:=.type "slice",data:=.fields #[vl,vu,.none] } } σ H3 x v vl vu l u s3.heap.objs.size Q I4 r1 (Heap.IsSliceOf.new ..) pl pu q3
 show wpAny (model X.prog X.w) X.A (subscriptTail e (.Slice lo hi none p2) v (.ref s3.heap.objs.size)) (EP X pins σ Q) X.xe { s3 with heap:=s3.heap.push { cls:=.type "slice",data:=.fields #[vl,vu,.none] } }
 exact tail_any (ops:=[.ref s3.heap.objs.size,v]) ht hT hg (by with_unfolding_all rfl)
def zj4 (xs : List V) (lo hi : Option Int) : List V:=(xs.drop (HT.sIx xs.length 0 lo)).take (HT.sIx xs.length xs.length hi - HT.sIx xs.length 0 lo)
theorem zgS (xs : List V) (lo hi : Option Int) : (zj4 xs lo hi).length <= xs.length:=by
 unfold zj4
 rw [List.length_take,List.length_drop]
 lia
def ztO (K : PySem.W.Frag) : V -> Option Int -> Option Int -> Hp -> VK -> Prop:=fun x lo hi H Q=>∃ a xs,x = .ref a /\ SqT K H a xs /\
 ¬ (HT.sIx xs.length 0 lo = 0 /\ HT.sIx xs.length xs.length hi = xs.length) /\ ∀ p,H p = none -> Q (.ref p) (upd H p (.tup (zj4 xs lo hi)))
theorem ztc : SlR X (ztO X.K):=by
 intro pins s σ H x v vl vu lo hi sl Q I rx hs pl pu h
 obtain ⟨a,xs,rfl,hx,hw,q⟩:=h
 cases rx
 obtain ⟨its,r,ht,hz⟩:=I.tuple hx
 have hlen : its.toArray.size = xs.length:=by rw [List.size_toArray]; exact r.length.symm
 refine ⟨"tuple",_,PyProof.Rows.slot_tuple_getitem.lookup,ht.typeIs,?_⟩
 refine HT.getItem_tuple_cut ht hs pl pu (by rw [hlen]; exact hw) ?_ (by rw [hlen]; exact hz)
 rw [hlen]
 refine ⟨.ref s.heap.objs.size,_,I.laid (t':=s.toks) (o:=.tup (zj4 xs lo hi)) (fun b ob q=>Heap.get?_push_of_some _ q) (Nat.le_refl _) ?_,rfl,q _ (I.hok.fresh (Nat.le_refl _))⟩
 exact ⟨Nat.le_trans (zgS xs lo hi) hz,_,(r.drop (HT.sIx xs.length 0 lo)).take (HT.sIx xs.length xs.length hi - HT.sIx xs.length 0 lo),IsTup.new _ _⟩
end
end L2
namespace L2
open PySem PySem.Spec PyProof.Rows
def ixN (n : Nat) (i : Int) : Option Nat:=if 0 <= i then (if i < n then some i.toNat else none) else if -(n : Int) <= i then some (i + n).toNat else none
def atI {α : Type} (xs : List α) (i : Int) : Option α:=(ixN xs.length i).bind fun j=>xs[j]?
theorem znn {n : Nat} {i : Int} {j : Nat} (h : ixN n i = some j) : seqIndex? i n = some j /\ j < n /\ -(n : Int) <= i /\ i < n:=by
 unfold ixN at h
 by_cases h0 : 0 <= i
 . rw [if_pos h0] at h
   by_cases h1 : i < n
   . rw [if_pos h1] at h
     have e : i.toNat = j:=Option.some.inj h
     exact ⟨by rw [seqIndex_of h0 h1,e],by lia,by lia,h1⟩
   . rw [if_neg h1] at h; cases h
 . rw [if_neg h0] at h
   by_cases h1 : -(n : Int) <= i
   . rw [if_pos h1] at h
     have e : (i + n).toNat = j:=Option.some.inj h
     exact ⟨by rw [seqIndex_neg (by lia) h1,e],by lia,h1,by lia⟩
   . rw [if_neg h1] at h; cases h
theorem zjW {α : Type} {xs : List α} {i : Int} {v : α} (h : atI xs i = some v) : ∃ j,seqIndex? i xs.length = some j /\ xs[j]? = some v /\ j < xs.length /\ -(xs.length : Int) <= i /\ i < xs.length:=by
 unfold atI at h
 cases e : ixN xs.length i with
 | none=>rw [e] at h; cases h
 | some j =>
   rw [e] at h
   obtain ⟨h1,h2,h3,h4⟩:=znn e
   exact ⟨j,h1,h,h2,h3,h4⟩
theorem zdV {α : Type} {xs : List α} {j : Nat} {v : α} (h : xs[j]? = some v) : atI xs (j : Int) = some v:=by
 have hj : j < xs.length:=(List.getElem?_eq_some_iff.mp h).1
 have e : ixN xs.length (j : Int) = some j:=by
   unfold ixN
   rw [if_pos (by lia),if_pos (by lia)]; simp
 unfold atI; rw [e]; exact h
def zqq (b : Expr) : Prop:=∀ o i,subscripted b false o i = operate [o,i] (getItem o i)
def IxR (X : Cx) (r : R2) : Prop :=
 ∀ (value slice : Expr) (pins : List (Addr × Obj)) (s : Shared) (σ : St) (H : Hp) (x y : V) (v u : Value) (Q : VK),Inv X pins σ H s -> zaJ x v -> zaJ y u -> r x y H Q ->
   subscripted slice false v u = operate [v,u] (getItem v u) -> wpAny (model X.prog X.w) X.A (subscriptTail value slice v u) (EP X pins σ Q) X.xe s
def MtR (X : Cx) (id : String) (r : V -> List V -> Hp -> VK -> Prop) : Prop :=
 ∀ (pins : List (Addr × Obj)) (s : Shared) (σ : St) (H : Hp) (x : V) (xs : List V) (v : Value) (us : List Value) (Q : VK),Inv X pins σ H s -> zaJ x v -> zav xs us -> r x xs H Q ->
   wpAny (model X.prog X.w) X.A (call (.builtin id) (v :: us)) (EP X pins σ Q) X.xe s
section
variable {X : Cx} {a b : Expr} {ta tb : TE} {pos : Pos}
theorem IxR.or {r r' : R2} (h : IxR X r) (h' : IxR X r') : IxR X (fun x y H Q=>r x y H Q \/ r' x y H Q):=by
 intro value slice pins s σ H x y v u Q I rx ry q hs
 rcases q with q | q
 . exact h value slice pins s σ H x y v u Q I rx ry q hs
 . exact h' value slice pins s σ H x y v u Q I rx ry q hs
theorem zd8 {r : R2} (hr : IxR X r) (ha : PE X a ta) (hb : PE X b tb) (hs : zqq b) : PE X (.Subscript a b pos) (tOp r ta tb):=by
 intro pins s σ H Q I h
 exact Subscript_ (zsQ ha hb I h fun v u s2 x y H2 I2 rx ry q=>hr a b pins s2 σ H2 x y v u Q I2 rx ry q (hs _ _))
def zus (K : PySem.W.Frag) : R2:=fun x y H Q=>∃ p xs i v,x = .ref p /\ y = .int i /\ SqL K H p xs /\ atI xs i = some v /\ Q v H
def zuj (K : PySem.W.Frag) : R2:=fun x y H Q=>∃ p xs i v,x = .ref p /\ y = .int i /\ SqT K H p xs /\ atI xs i = some v /\ Q v H
def zuo : R2:=fun x y H Q=>∃ z i c,x = .str z /\ y = .int i /\ z.length <= sizeLine /\ atI z.cps.toList i = some c /\ Q (.str ⟨#[c]⟩) H
theorem zqV : IxR X (zus X.K):=by
 intro value slice pins s σ H x y v u Q I rx ry h hs
 obtain ⟨p,xs,i,z,rfl,rfl,hq,he,q⟩:=h
 cases rx
 obtain ⟨t,rfl⟩:=ry
 obtain ⟨its,r,pl,hz⟩:=I.list hq
 obtain ⟨j,h1,h2,h3,h4,h5⟩:=zjW he
 obtain ⟨w,ew,rw'⟩:=r.get h2
 have hl:=r.length
 have hn:=zfu
 have fin : EP X pins σ Q w s:=⟨z,H,I,rw',q⟩
 by_cases h0 : 0 <= i
 . have hj : i.toNat = j:=by
     rw [seqIndex_of h0 h5] at h1
     exact Option.some.inj h1
   exact item_listR pl.isList h0 (by lia) (by rw [hj]; simpa using ew) fin hs
 . have hj : (i + (its.toArray.size : Int)).toNat = j:=by
     rw [seqIndex_neg (by lia) h4] at h1
     rw [List.size_toArray,<- hl]
     exact Option.some.inj h1
   exact subscriptTail_builtinR (x:=w) pl.isList.typeIs slot_list_getitem.lookup
     (wpAny_getItem_list_neg (Q:=fun r s'=>r = w /\ EP X pins σ Q r s') pl.isList (by lia) (by rw [List.size_toArray] <;> lia) (by lia) (by rw [hj]; simpa using ew) ⟨rfl,fin⟩) hs
theorem zti : IxR X (zuj X.K):=by
 intro value slice pins s σ H x y v u Q I rx ry h hs
 obtain ⟨p,xs,i,z,rfl,rfl,hq,he,q⟩:=h
 cases rx
 obtain ⟨t,rfl⟩:=ry
 obtain ⟨its,r,pl,hz⟩:=I.tuple hq
 obtain ⟨j,h1,h2,h3,h4,h5⟩:=zjW he
 obtain ⟨w,ew,rw'⟩:=r.get h2
 have hl:=r.length
 have hn:=zfu
 have fin : EP X pins σ Q w s:=⟨z,H,I,rw',q⟩
 exact subscriptTail_builtinR (x:=w) pl.typeIs slot_tuple_getitem.lookup
   (getItem_tuple (j:=j) (Q:=fun r s'=>r = w /\ EP X pins σ Q r s') pl (by lia) (by lia) (by rw [List.size_toArray,<- hl]; exact h1) (by simpa using ew) ⟨rfl,fin⟩) hs
theorem ztg : IxR X zuo:=by
 intro value slice pins s σ H x y v u Q I rx ry h hs
 obtain ⟨z,i,c,rfl,rfl,hz,he,q⟩:=h
 obtain ⟨t,rfl⟩:=rx
 obtain ⟨t',rfl⟩:=ry
 obtain ⟨j,h1,h2,h3,h4,h5⟩:=zjW he
 have hl : z.cps.toList.length = z.length:=by simp [Str.length]
 rw [hl] at h1 h4 h5
 have hn:=zfu
 exact tail_any (typeIs_str s z t) slot_str_getitem.lookup (getItem_str (c:=c) (by
   have e1 : decide (i < -(2 ^ 63 : Int)) = false:=decide_eq_false (by lia)
   have e2 : decide (i ≥ 2 ^ 63) = false:=decide_eq_false (by lia)
   rw [e1,e2,Bool.or_false]) (by rw [h1]; simpa using h2) ⟨.str ⟨#[c]⟩,H,I.tok _,⟨_,rfl⟩,q⟩) hs
def rIx (K : PySem.W.Frag) : R2:=fun x y H Q=>zus K x y H Q \/ zuj K x y H Q \/ zuo x y H Q
theorem zcl : IxR X (rIx X.K):=zqV.or (zti.or ztg)
theorem zmq (its : List Value) (n j : Nat) (u : Value) : Obj.mapSeq (·.setIfInBounds j u) { cls:=.type "list",data:=.seq its.toArray n } = { cls:=.type "list",data:=.seq (its.set j u).toArray n }:=by
 simp [Obj.mapSeq]
theorem Inv.lst {pins : List (Addr × Obj)} {σ : St} {H : Hp} {s : Shared} {p : Addr} {xs : List V} (I : Inv X pins σ H s) (h : H p = some (.lst xs)) :
   ∃ (its : List Value) (n : Nat),zav xs its /\ s.heap.get? p = some { cls:=.type "list",data:=.seq its.toArray n } /\ xs.length <= sizeLine:=by
 obtain ⟨z,its,n,r,e⟩:=I.hok p _ h
 exact ⟨its,n,r,e,z⟩
theorem Inv.lstUpd {pins : List (Addr × Obj)} {σ : St} {H : Hp} {s : Shared} {p : Addr} {xs ys : List V} {its its' : List Value} {n n' : Nat} {f : Obj -> Obj} (I : Inv X pins σ H s) (h : H p = some (.lst xs))
   (ho : s.heap.get? p = some { cls:=.type "list",data:=.seq its.toArray n }) (hf : f { cls:=.type "list",data:=.seq its.toArray n } = { cls:=.type "list",data:=.seq its'.toArray n' }) (r : zav ys its') (hz : ys.length <= sizeLine) (t : Nat) :
   Inv X pins σ (upd H p (.lst ys)) { s with heap:=s.heap.update p f,toks:=t }:=by
 have e : (s.heap.update p f).get? p = some { cls:=.type "list",data:=.seq its'.toArray n' }:=by
   rw [Heap.get?_update_self f ho (by rw [hf] <;> rfl),hf]
 refine I.write (x:=p) (e:=p) (by rw [h]; trivial) (.inl rfl) (fun b u hb q=>(Heap.get?_update_other _ _ (Ne.symm hb)).trans q) ⟨_,e⟩ ?_
 exact ⟨hz,its',n',r,e⟩
def zrP : V -> V -> V -> Hp -> (Hp -> Prop) -> Prop:=fun o i v H Q=>∃ p xs k j,o = .ref p /\ i = .int k /\ H p = some (.lst xs) /\ ixN xs.length k = some j /\ Q (upd H p (.lst (xs.set j v)))
theorem zfY : zt4 X zrP:=by
 intro pins s σ H o i v ov iv u Q I ro ri rv h
 obtain ⟨p,xs,k,j,rfl,rfl,hp,hj,q⟩:=h
 cases ro
 obtain ⟨t,rfl⟩:=ri
 obtain ⟨its,n,r,ho,hz⟩:=I.lst hp
 obtain ⟨h1,h2,h3,h4⟩:=znn hj
 have hl:=r.length
 have hn:=zfu
 have I' : Inv X pins σ (upd H p (.lst (xs.set j v))) { s with heap:=s.heap.update p (Obj.mapSeq (·.setIfInBounds j u)) } :=
   I.lstUpd hp ho (zmq its n j u) (r.set rv j) (by rw [List.length_set]; exact hz) s.toks
 by_cases h0 : 0 <= k
 . have hk : k.toNat = j:=by
     rw [seqIndex_of h0 h4] at h1
     exact Option.some.inj h1
   exact PySem.W.ki_setAt ho h0 (by lia) (by rw [List.size_toArray,<- hl]; exact h4) (by rw [hk]; exact ⟨_,I',q⟩)
 . have hk : (k + (its.toArray.size : Int)).toNat = j:=by
     rw [seqIndex_neg (by lia) h3] at h1
     rw [List.size_toArray,<- hl]
     exact Option.some.inj h1
   exact PySem.W.ki_setBack ho (by lia) (by rw [List.size_toArray,<- hl]; exact h3) (by lia) (by rw [hk]; exact ⟨_,I',q⟩)
theorem zkd (lo hi : Option Int) (n : Nat) : (sliceBounds lo hi none n).1 = ((HT.sIx n 0 lo : Nat) : Int) /\ (sliceBounds lo hi none n).2.1 = ((HT.sIx n n hi : Nat) : Int) /\ (sliceBounds lo hi none n).2.2 = 1:=by
 refine ⟨?_,?_,rfl⟩
 . cases lo with
   | none=>simp [sliceBounds,HT.sIx]
   | some i =>
     simp only [sliceBounds,HT.sIx,Option.getD_none,show (1 : Int) > 0 by decide,if_true]
     by_cases h : i < 0
     . simp only [h,if_true] <;> lia
     . simp only [h,if_false] <;> lia
 . cases hi with
   | none=>simp [sliceBounds,HT.sIx]
   | some i =>
     simp only [sliceBounds,HT.sIx,Option.getD_none,show (1 : Int) > 0 by decide,if_true]
     by_cases h : i < 0
     . simp only [h,if_true] <;> lia
     . simp only [h,if_false] <;> lia
theorem ziM (its : List Value) (lo hi : Option Int) : slicePick its.toArray lo hi none = ((its.drop (HT.sIx its.length 0 lo)).take (HT.sIx its.length its.length hi - HT.sIx its.length 0 lo)).toArray:=by
 obtain ⟨h1,h2,h3⟩:=zkd lo hi its.toArray.size
 unfold slicePick
 rw [h1,h2,h3]
 simp only [sliceRange_one,pick_run,List.size_toArray] <;> rfl
def zt0 (K : PySem.W.Frag) : V -> Option Int -> Option Int -> Hp -> VK -> Prop:=fun x lo hi H Q=>∃ a xs,x = .ref a /\ SqL K H a xs /\ ∀ p,H p = none -> Q (.ref p) (upd H p (.lst (zj4 xs lo hi)))
theorem zrn : SlR X (zt0 X.K):=by
 intro pins s σ H x v vl vu lo hi sl Q I rx hs pl pu h
 obtain ⟨a,xs,rfl,hx,q⟩:=h
 cases rx
 obtain ⟨its,r,ht,hz⟩:=I.list hx
 have hlen:=r.length
 refine ⟨"list",_,slot_list_getitem.lookup,ht.isList.typeIs,?_⟩
 refine wpAny_getItem_list_slice ht.isList hs pl pu .none (by simp) ?_ (by rw [List.size_toArray] <;> lia)
 rw [ziM,<- hlen]
 refine ⟨.ref s.heap.objs.size,_,I.laid (t':=s.toks) (o:=.lst (zj4 xs lo hi)) (fun b ob q=>Heap.get?_push_of_some _ q) (Nat.le_refl _) ?_,rfl,q _ (I.hok.fresh (Nat.le_refl _))⟩
 exact ⟨Nat.le_trans (zgS xs lo hi) hz,_,0,(r.drop (HT.sIx xs.length 0 lo)).take (HT.sIx xs.length xs.length hi - HT.sIx xs.length 0 lo),Heap.get?_push_size _ rfl⟩
def zgd : V -> Bool
 | .non=>true
 | .bl _=>true
 | .int _=>true
 | .str _=>true
 | _=>false
def eqV : V -> V -> Bool
 | .non,.non=>true
 | .bl a,.bl b=>a == b
 | .bl a,.int b=>(if a then 1 else 0) == b
 | .int a,.bl b=>a == (if b then 1 else 0)
 | .int a,.int b=>a == b
 | .str a,.str b=>a == b
 | _,_=>false
theorem zsN {A : Around} {s : Shared} {y x : V} {u v : Value} (ry : zaJ y u) (rx : zaJ x v) (fy : zgd y = true) (fx : zgd x = true) : SeqAt.EqAt A s u v (eqV y x):=by
 cases y with
 | non =>
   cases ry
   cases x with
   | non=>cases rx; exact SeqAt.EqAt.same _
   | bl b=>cases rx; exact SeqAt.EqAt.none_bool b
   | int b=>obtain ⟨t,rfl⟩:=rx; exact SeqAt.EqAt.none_int b t
   | str b=>obtain ⟨t,rfl⟩:=rx; exact SeqAt.EqAt.none_str b t
   | _=>exact absurd (show false = true from fx) Bool.false_ne_true
 | bl a =>
   cases ry
   cases x with
   | non=>cases rx; exact SeqAt.EqAt.bool_none a
   | bl b=>cases rx; exact SeqAt.EqAt.bool_bool a b
   | int b=>obtain ⟨t,rfl⟩:=rx; exact SeqAt.EqAt.bool_int a b t
   | str b=>obtain ⟨t,rfl⟩:=rx; exact SeqAt.EqAt.bool_str a b t
   | _=>exact absurd (show false = true from fx) Bool.false_ne_true
 | int a =>
   obtain ⟨t',rfl⟩:=ry
   cases x with
   | non=>cases rx; exact SeqAt.EqAt.int_none a t'
   | bl b=>cases rx; exact SeqAt.EqAt.int_bool a t' b
   | int b=>obtain ⟨t,rfl⟩:=rx; exact SeqAt.EqAt.int_int a t' b t
   | str b=>obtain ⟨t,rfl⟩:=rx; exact SeqAt.EqAt.int_str a t' b t
   | _=>exact absurd (show false = true from fx) Bool.false_ne_true
 | str a =>
   obtain ⟨t',rfl⟩:=ry
   cases x with
   | non=>cases rx; exact SeqAt.EqAt.str_none a t'
   | bl b=>cases rx; exact SeqAt.EqAt.str_bool a t' b
   | int b=>obtain ⟨t,rfl⟩:=rx; exact SeqAt.EqAt.str_int a t' b t
   | str b=>obtain ⟨t,rfl⟩:=rx; exact SeqAt.EqAt.str_str a t' b t
   | _=>exact absurd (show false = true from fx) Bool.false_ne_true
 | _=>exact absurd (show false = true from fy) Bool.false_ne_true
def eqU (x : V) (u : Value) : Bool:=match u with
 | .none=>eqV .non x
 | .bool b=>eqV (.bl b) x
 | .int i _=>eqV (.int i) x
 | .str z _=>eqV (.str z) x
 | _=>false
theorem zo1 {x y : V} {u : Value} (r : zaJ y u) (f : zgd y = true) : eqU x u = eqV y x:=by
 cases y with
 | non=>cases r; rfl
 | bl b=>cases r; rfl
 | int i=>obtain ⟨t,rfl⟩:=r; rfl
 | str z=>obtain ⟨t,rfl⟩:=r; rfl
 | _=>exact absurd (show false = true from f) Bool.false_ne_true
theorem zfU {x : V} : ∀ {xs : List V} {us : List Value},zav xs us -> xs.all zgd = true -> us.any (eqU x) = xs.any fun y=>eqV y x
 | _,_,.nil,_=>rfl
 | y :: xs,u :: us,.cons r t,f=>by
   rw [List.all_cons,Bool.and_eq_true] at f
   rw [List.any_cons,List.any_cons,zo1 r f.1,zfU t f.2]
theorem zey {A : Around} {s : Shared} {x : V} {v : Value} (rx : zaJ x v) (fx : zgd x = true) : ∀ {xs : List V} {us : List Value},zav xs us -> xs.all zgd = true -> ∀ u ∈ us,SeqAt.EqAt A s u v (eqU x u)
 | _,_,.nil,_=>fun u hu=>by cases hu
 | y :: xs,u :: us,.cons r t,f=>fun u' hu=>by
   rw [List.all_cons,Bool.and_eq_true] at f
   rcases List.mem_cons.mp hu with rfl | hu
   . rw [zo1 r f.1]; exact zsN r rx f.1 fx
   . exact zey rx fx t f.2 u' hu
def inV (x : V) (xs : List V) : Bool:=xs.any fun y=>eqV y x
def rIn (K : PySem.W.Frag) (neg : Bool) : R2:=fun x y H Q=>∃ p xs,y = .ref p /\ (SqL K H p xs \/ SqT K H p xs) /\ zgd x = true /\ xs.all zgd = true /\ Q (.bl (if neg then !inV x xs else inV x xs)) H
theorem znU : OpR X (compareOp .In) (rIn X.K false):=by
 intro pins s σ H x y v u Q I rx ry h
 obtain ⟨p,xs,rfl,hq,fx,fs,q⟩:=h
 cases ry
 rcases hq with hq | hq
 . obtain ⟨its,r,pl,hz⟩:=I.list hq
   refine SeqAt.in_listAt (eqU x) pl.isList (fun w hw=>zey rx fx r fs w (by simpa using hw)) ⟨.bl _,H,I,rfl,?_⟩
   rw [show its.toArray.any (eqU x) = its.any (eqU x) by simp,zfU r fs]
   exact q
 . obtain ⟨its,r,pl,hz⟩:=I.tuple hq
   refine SeqAt.in_tupleAt (eqU x) pl (fun w hw=>zey rx fx r fs w (by simpa using hw)) ⟨.bl _,H,I,rfl,?_⟩
   rw [show its.toArray.any (eqU x) = its.any (eqU x) by simp,zfU r fs]
   exact q
theorem zjH : OpR X (compareOp .NotIn) (rIn X.K true):=by
 intro pins s σ H x y v u Q I rx ry h
 obtain ⟨p,xs,rfl,hq,fx,fs,q⟩:=h
 cases ry
 rcases hq with hq | hq
 . obtain ⟨its,r,pl,hz⟩:=I.list hq
   refine SeqAt.notIn_listAt (eqU x) pl.isList (fun w hw=>zey rx fx r fs w (by simpa using hw)) ⟨.bl _,H,I,rfl,?_⟩
   rw [show its.toArray.any (eqU x) = its.any (eqU x) by simp,zfU r fs]
   exact q
 . obtain ⟨its,r,pl,hz⟩:=I.tuple hq
   refine SeqAt.notIn_tupleAt (eqU x) pl (fun w hw=>zey rx fx r fs w (by simpa using hw)) ⟨.bl _,H,I,rfl,?_⟩
   rw [show its.toArray.any (eqU x) = its.any (eqU x) by simp,zfU r fs]
   exact q
theorem zjO : zaq X (.builtin "len") (fun xs H Q=>∃ p ys,xs = [.ref p] /\ (SqL X.K H p ys \/ SqT X.K H p ys) /\ Q (.int ys.length) H):=by
 intro pins s σ H xs us Q I r h
 obtain ⟨p,ys,rfl,hq,q⟩:=h
 obtain ⟨u,rfl,rx⟩:=zes r
 cases rx
 have hn:=zfu
 rcases hq with hq | hq
 . obtain ⟨its,r',pl,hz⟩:=I.list hq
   have hlen:=r'.length
   exact Calls.call_len_list pl.isList (by simp only [List.size_toArray] <;> lia) ⟨.int ys.length,H,I.tok _,⟨s.toks + 1,by rw [List.size_toArray,hlen]⟩,q⟩
 . obtain ⟨its,r',pl,hz⟩:=I.tuple hq
   have hlen:=r'.length
   exact len_tuple pl (by simp only [List.size_toArray] <;> lia) ⟨.int ys.length,H,I.tok _,⟨s.toks + 1,by rw [List.size_toArray,hlen]⟩,q⟩
theorem zjF : zaq X (.builtin "len") (fun xs H Q=>∃ z,xs = [.str z] /\ z.length <= sizeLine /\ Q (.int z.length) H):=by
 intro pins s σ H xs us Q I r h
 obtain ⟨z,rfl,hz,q⟩:=h
 obtain ⟨u,rfl,t,rfl⟩:=zes r
 have hn:=zfu
 exact len_str (by lia) ⟨.int z.length,H,I.tok _,⟨_,rfl⟩,q⟩
theorem ziC : zaq X (.type "tuple") (fun xs H Q=>∃ p ys,xs = [.ref p] /\ ((SqL X.K H p ys /\ ∀ l,H l = none -> Q (.ref l) (upd H l (.tup ys))) \/ (SqT X.K H p ys /\ Q (.ref p) H))):=by
 intro pins s σ H xs us Q I r h
 obtain ⟨p,ys,rfl,h⟩:=h
 obtain ⟨u,rfl,rx⟩:=zes r
 cases rx
 rcases h with ⟨hq,q⟩ | ⟨hq,q⟩
 . obtain ⟨its,r',pl,hz⟩:=I.list hq
   have hlen:=r'.length
   refine call_tuple_list pl.isList (fun h' kp=>?_) (by simp only [List.size_toArray] <;> lia)
   have I1 : Inv X pins σ H { s with heap:=h' }:=I.kept (t':=s.toks) kp
   have I2 : Inv X pins σ (upd H h'.objs.size (.tup ys)) { s with heap:=h'.push { cls:=.type "tuple",data:=.seq its.toArray } } :=
     I1.laid (t':=s.toks) (fun b o e=>Heap.get?_push_of_some _ e) (Nat.le_refl _) (show zbM X.prog X.w _ _ _ (.tup ys) from ⟨hz,its,r',IsTup.new _ _⟩)
   exact ⟨.ref h'.objs.size,_,I2,rfl,q _ (I1.hok.fresh (Nat.le_refl _))⟩
 . obtain ⟨its,r',pl,hz⟩:=I.tuple hq
   exact call_tuple_same pl ⟨.ref p,H,I,rfl,q⟩
def tyV (K : PySem.W.Frag) (T : String) (x : V) (H : Hp) : Prop:=match x with
 | .str _=>T = "str"
 | .int _=>T = "int"
 | .ref p=>(T = "list" /\ ∃ xs,SqL K H p xs) \/ (T = "tuple" /\ ∃ o,K.lookup p = some o /\ o.cls = .type "tuple" /\ o.dict = none) \/
     (T = "dict" /\ ((∃ kvs,H p = some (.dK kvs)) \/ ∃ kvs,H p = some (.dT kvs))) \/ (T = "set" /\ ∃ S n,H p = some (.set S n))
 | _=>False
theorem zto {pins : List (Addr × Obj)} {σ : St} {H : Hp} {s : Shared} {T : String} {x : V} {v : Value} (I : Inv X pins σ H s) (r : zaJ x v) (ty : tyV X.K T x H) :
   s.TypeIs v T /\ ∀ a,v = .ref a -> ∃ ob,s.heap.get? a = some ob /\ ob.dict = none:=by
 cases x with
 | str z =>
   obtain ⟨t,rfl⟩:=r
   cases (show T = "str" from ty)
   exact ⟨typeIs_str s z t,fun _ e=>nomatch e⟩
 | int i =>
   obtain ⟨t,rfl⟩:=r
   cases (show T = "int" from ty)
   exact ⟨typeIs_int s i t,fun _ e=>nomatch e⟩
 | ref p =>
   cases r
   rcases ty with ⟨rfl,xs,hq⟩ | ⟨rfl,o,hk,hc,hd⟩ | ⟨rfl,hk⟩ | ⟨rfl,S,n,hk⟩
   . obtain ⟨its,_,pl,_⟩:=I.list hq
     refine ⟨pl.isList.typeIs,fun a e=>?_⟩
     cases e
     obtain ⟨o,n,e,c,hd,_⟩:=pl
     exact ⟨o,e,hd⟩
   . refine ⟨⟨o,I.kIn p o hk,hc⟩,fun a e=>?_⟩
     cases e
     exact ⟨o,I.kIn _ o hk,hd⟩
   . have z : ∃ o,s.heap.get? p = some o /\ o.ExactDict:=by
       rcases hk with ⟨kvs,hk⟩ | ⟨kvs,hk⟩
       . obtain ⟨_,_,_,_,o,_,_,e,ex,_⟩:=I.hok p _ hk
         exact ⟨o,e,ex⟩
       . obtain ⟨_,_,_,_,o,_,_,e,ex,_⟩:=I.hok p _ hk
         exact ⟨o,e,ex⟩
     obtain ⟨o,e,ex⟩:=z
     refine ⟨⟨o,e,ex.1⟩,fun a e2=>?_⟩
     cases e2
     exact ⟨o,e,ex.2.1⟩
   . obtain ⟨o,_,_,_,e,ex,_⟩:=I.hok p _ hk
     refine ⟨⟨o,e,ex.1⟩,fun a e2=>?_⟩
     cases e2
     exact ⟨o,e,ex.2.1⟩
 | _=>exact False.elim ty
def tBM (K : PySem.W.Frag) (T : String) (r : V -> List V -> Hp -> VK -> Prop) (to : TE) (t : TA) : TE:=fun σ H Q=>to σ H fun x H1=>tyV K T x H1 /\ t σ H1 fun xs H2=>r x xs H2 Q
variable {o e : Expr} {es : List Expr} {to : TE} {t : TA} {name : Str} {apos cpos : Pos} {T id : String} {r : V -> List V -> Hp -> VK -> Prop}
theorem zeZ (pa : PlainAttrs T) (slot : Slot T name id) (hty : typeOf (.builtin id) = pure (.type "method_descriptor")) (hm : MtR X id r) (ho : PE X o to) (ha : PA X (e :: es) t)
   (hbase : attributeBase o name X.env (eval o X.env) = eval o X.env:=by rfl)
   (hfew : ((backTo cpos (starEach (e :: es) X.env)).all (fun x=>!x.1) && (backToKw cpos (keywordEach [] X.env)).all (fun x=>x.1.isSome)
     && decide ((e :: es).length + ([] : List Keyword).length + (if ([] : List Keyword).isEmpty then 0 else 1) < 30)) = true:=by rfl)
   (hline : (apos.endLine == cpos.line) = true:=by rfl) (hs : starEach (e :: es) X.env = (false,eval e X.env) :: starEach es X.env:=by rfl) (hplain : (backTo cpos (starEach es X.env)).any (·.1) = false:=by rfl) :
   PE X (.Call (.Attribute o name apos) (e :: es) [] cpos) (tBM X.K T r to t):=by
 intro pins s σ H Q I h
 refine wpAny_Call_method_late hbase hfew hline rfl (thn (ho pins s σ H _ I h) fun v s1 ⟨x,H1,I1,r1,ty,q1⟩=>?_)
 obtain ⟨h1,h2⟩:=zto I1 r1 ty
 refine ⟨T,id,pa,slot,hty,h1,h2,?_⟩
 have hA:=ha cpos pins s1 σ H1 _ I1 q1
 rw [hs] at hA ⊢
 refine Calls.callWith_builtin (by show (false || (backTo cpos (starEach es X.env)).any (·.1)) = false; rw [hplain] <;> rfl) (Calls.evalArgs_plain ?_)
 exact thn hA fun us s2 ⟨vs,H2,I2,r2,q2⟩=>hm pins s2 σ H2 x vs v us Q I2 r1 r2 q2
/- xs.append(e),list.index on a module's tuple .. are MtR facts of 06m -/
end
end L2
namespace L2
open PySem PySem.Spec PyProof.Rows
def MtM (X : Cx) (id : String) (r : V -> List V -> Hp -> VK -> Prop) : Prop :=
 ∀ (pins : List (Addr × Obj)) (s : Shared) (σ : St) (H : Hp) (x : V) (xs : List V) (v : Value) (us : List Value) (Q : VK),Inv X pins σ H s -> zaJ x v -> zav xs us -> r x xs H Q ->
   wpAny (model X.prog X.w) X.A (call (.builtin id) (v :: us)) (EP X pins σ Q) X.xe s
theorem zav.one : ∀ {x : V} {us : List Value},zav [x] us -> ∃ u,us = [u] /\ zaJ x u
 | _,_,.cons r .nil=>⟨_,rfl,r⟩
section
variable {X : Cx} {pins : List (Addr × Obj)} {σ : St} {H : Hp} {s : Shared} {l b : Addr} {xs ys zs : List V}
theorem Inv.lset {its its' : List Value} {n : Nat} {f : Array Value -> Array Value} {t' : Nat} (I : Inv X pins σ H s) (hH : H l = some (.lst xs))
   (e : s.heap.get? l = some { cls:=.type "list",data:=.seq its.toArray n }) (hf : f its.toArray = its'.toArray) (hv : zav ys its') (hz : ys.length <= sizeLine) :
   Inv X pins σ (upd H l (.lst ys)) { s with heap:=s.heap.update l (Obj.mapSeq f),toks:=t' }:=by
 have q:=PySem.IsL.update e f
 rw [hf] at q
 refine I.write (x:=l) (e:=l) (by rw [hH]; exact trivial) (.inl rfl) (fun b' u hb hu=>(Heap.get?_update_other s.heap (Obj.mapSeq f) (Ne.symm hb)).trans hu) ⟨_,q⟩ ?_
 exact ⟨hz,its',_,hv,q⟩
theorem Inv.lnew {its : List Value} {t' : Nat} (I : Inv X pins σ H s) (hv : zav ys its) (hz : ys.length <= sizeLine) :
   Inv X pins σ (upd H s.heap.objs.size (.lst ys)) { s with heap:=s.heap.push { cls:=.type "list",data:=.seq its.toArray },toks:=t' } :=
 I.laid (fun _ _ q=>Heap.get?_push_of_some _ q) (Nat.le_refl _) ⟨hz,its,0,hv,Heap.get?_push_size _ rfl⟩
theorem Inv.fresh (I : Inv X pins σ H s) : H s.heap.objs.size = none:=I.hok.fresh (Nat.le_refl _)
theorem Inv.lstM (I : Inv X pins σ H s) (hH : H l = some (.lst xs)) : xs.length <= sizeLine /\ ∃ (its : List Value) (n : Nat),zav xs its /\ xs.length = its.length /\ s.heap.get? l = some { cls:=.type "list",data:=.seq its.toArray n }:=by
 obtain ⟨z,its,n,r,e⟩:=I.hok l _ hH
 exact ⟨z,its,n,r,r.length,e⟩
end
section
variable {X : Cx}
def znk : V -> List V -> Hp -> VK -> Prop:=fun x vs H Q=>∃ l xs y,x = .ref l /\ vs = [y] /\ H l = some (.lst xs) /\ xs.length < sizeLine /\ Q .non (upd H l (.lst (xs ++ [y])))
theorem zeG : MtM X "list.append" znk:=by
 intro pins s σ H x vs v us Q I rx rv h
 obtain ⟨l,xs,y,rfl,rfl,hH,hz,q⟩:=h
 cases rx
 obtain ⟨u,rfl,ru⟩:=rv.one
 obtain ⟨z,its,n,r,hl,e⟩:=I.lstM hH
 refine call_meets F.slot_list_append ⟨_,e,rfl⟩ F.entry_list_append (F.args_list_append_2 _ _) (PySem.list_append l its.toArray n u (by rw [List.size_toArray]; lia)) ⟨e,?_⟩
 refine ⟨.non,_,I.lset (its':=its ++ [u]) hH e (by simp) (r.append (.cons ru .nil)) ?_,rfl,q⟩
 rw [List.length_append,List.length_singleton]
 lia
def ztz : R2:=fun x y H Q=>∃ l b xs zs,x = .ref l /\ y = .ref b /\ H l = some (.lst xs) /\ H b = some (.lst zs) /\ xs.length + zs.length <= sizeLine /\ ∀ p,H p = none -> Q (.ref p) (upd H p (.lst (xs ++ zs)))
theorem zsL : OpR X (binaryOp .Add) ztz:=by
 intro pins s σ H x y v u Q I rx ry h
 obtain ⟨l,b,xs,zs,rfl,rfl,hH,hB,hz,q⟩:=h
 cases rx
 cases ry
 obtain ⟨z,its,n,r,hl,e⟩:=I.lstM hH
 obtain ⟨z2,its2,n2,r2,hl2,e2⟩:=I.lstM hB
 refine PySem.P.add_list e e2 ?_ (by rw [List.size_toArray,List.size_toArray]; lia)
 have ea : its.toArray ++ its2.toArray = (its ++ its2).toArray:=by simp
 rw [ea]
 exact ⟨.ref _,_,I.lnew (t':=s.toks) (r.append r2) (by rw [List.length_append]; lia),rfl,q _ I.fresh⟩
end
section
variable {prog : Program} {w : World} {A : Around} {E : Value -> Shared -> Prop} {s : Shared}
end
section
variable {X : Cx}
end
end L2
namespace Att
open PySem PySem.W PySem.Calls PyProof.Rows
theorem zhd {P : Params} {h : Heap} : ∀ (ns : List Int) (vs : List Value),WellAll P h vs (ns.map WData.int) -> IntsAre vs ns:=by
 intro ns
 induction ns with
 | nil =>
   intro vs w
   rw [List.map_nil] at w
   cases w
   exact .nil
 | cons n ns ih =>
   intro vs w
   rw [List.map_cons] at w
   cases w with
   | cons a b =>
     cases a
     exact .cons _ _ (ih _ b)
theorem znI {l : OpenLaw} {n : Nat} (hn : l.most = some n) {P : Params} {h : Heap} {args : List WData} {vals : List Value}
   (hpre : l.row.toRowW.claim.pre args = true) (hwl : WellAll P h vals args) :
   ∃ a vs ns,vals = [Value.ref a] /\ args = [WData.list (ns.map WData.int)] /\ h.get? a = some { cls:=.type "list",data:=.seq vs.toArray } /\ IntsAre vs ns /\ ns.length <= n:=by
 have hsh : WShape.hasAll [] args [.list .int] = true:=(pre_splitW hpre).1
 have hc : l.pre.holds [] { args:=args } = true:=(pre_splitW hpre).2
 obtain ⟨d,r,rfl,h1,h2⟩:=hasAllW_cons hsh
 obtain rfl:=hasAllW_nil h2
 obtain ⟨xs,rfl,h3⟩:=hasW_list h1
 obtain ⟨ns,rfl⟩:=items_int h3
 have hlen : ns.length <= n:=by
   unfold OpenLaw.pre at hc
   have h4 : (WTm.not (.lt (.lit (.int (n : Int))) (.len (.arg 0)))).holds [] { args:=[.list (ns.map .int)] } = true:=by
     have h4:=(holds_andW hc).1
     rw [hn] at h4
     exact h4
   have h5:=condW_of h4 (w_not (w_lt w_lit (w_len_list (w_arg rfl))))
   rw [List.length_map] at h5
   refine Nat.le_of_not_lt fun q=>?_
   have q' : (n : Int) < ((ns.length : Nat) : Int):=by lia
   first
     | (rw [decide_eq_true q'] at h5; exact absurd h5 (by decide))
     | (simp at h5; lia)
 cases hwl with
 | cons w1 w2 =>
   cases w2
   cases w1 with
   | list ho hall=>exact ⟨_,_,ns,rfl,rfl,ho,zhd ns _ hall,hlen⟩
theorem znW (l : OpenLaw) (args : List WData) : l.row.toRowW.claim.post args (.bool true) args = true :=
 postW_of (r:=l.row.toRowW) (X:=(true == true))
   (show WShape.has [] (.bool true) .bool = true by first | rfl | decide | simp [WShape.has,WShape.arms,WShape.armsAll])
   (show (WTm.eq .res (.lit (.bool true))).value [] { args:=args,res:=some (.bool true),after:=args } = some (.bool (true == true)) from w_eq_bool (w_res rfl) w_lit) rfl
theorem attach_call {l : OpenLaw} {n : Nat} {q : Program} {loose : List Str} {XP : (Str -> Option Value) -> Heap -> Prop} {YP : World -> Heap -> Prop} {d : DefRec}
   (hn : l.most = some n) (hdf : d.params.defaults = [])
   (call : ∀ (w : World) (s₀ s₁ : Shared) (mg mb : Str -> Option Value) (fa : Addr) (o : Obj) (pm cd doc : Value) (a : Addr) (vs : List Value) (ns : List Int),
     Ground q loose [] XP w s₀ mg mb s₁.heap -> YP w s₁.heap ->
     s₁.heap.get? fa = some o -> o.data = .func (docDef d.name d.params d.body d.scope pm cd doc) -> s₁.heap.CodeRec cd d.name -> mg d.name = some (.ref fa) ->
     s₁.heap.get? a = some { cls:=.type "list",data:=.seq vs.toArray } -> IntsAre vs ns -> ns.length <= n -> s₁.gens = #[] ->
     codeAny (model l.prog w) callerA (.call (.ref fa) ⟨[.ref a],[]⟩) (fun r s'=>r = .ok (.ret (.bool true)) /\ OldK s₁.heap s'.heap /\ s'.os = s₁.os /\ AllBare s'.gens) s₁) :
   WalkO q loose XP YP l.row.toRowW d [] (fun f vs=>PySem.call f vs):=by
 intro w s₀ s₁ mg mb G Y fa o pm cd doc dV kV ho hd hcd hD hmg hg args vals as hpre hlay hrd hwl hlo
 obtain rfl : dV = .none:=Dflts.none hD hdf
 obtain rfl : kV = .none:=Dflts.noKw hD
 obtain ⟨a,vs,ns,rfl,rfl,hobj,hints,hlen⟩:=znI hn hpre hwl
 refine enter_call (codeAny_mono (call w s₀ s₁ mg mb fa o pm cd doc a vs ns G Y ho (fd_plain hd) hcd hmg hobj hints hlen hg) fun r s' hq=>?_)
 obtain ⟨rfl,h2,h3,h4⟩:=hq
 exact ⟨.inl ⟨.bool true,.bool true,[],rfl,fun _=>rfl,.bool true,znW l _,fun _=>⟨List.Pairwise.nil,fun _ hm=>(nomatch hm)⟩⟩,h2,h3,h4⟩
section
variable {prog : Program} {w : World} {A : Around} {E : Value -> Shared -> Prop} {s : Shared} {K : Frag}
def zuG (h : Heap) (L d : Addr) : List (Addr × Obj):=(List.range h.objs.size).filterMap fun a=>if a = L \/ a = d then none else (h.get? a).map fun o=>(a,o)
end
end Att
namespace L2
open PySem PySem.Spec PyProof.Rows
theorem zjs : ∀ {vs : List Value} {ns : List Int},IntsAre vs ns -> zav (ns.map V.int) vs
 | _,_,.nil=>.nil
 | _,_,.cons n t h=>.cons ⟨t,rfl⟩ (zjs h)
def zqv (H : Hp) : Prop:=∀ b,H b = none \/ ∃ o xs,H b = some (.frz o (.lst xs))
theorem zpK {P : Program} {w : World} {K : PySem.W.Frag} {mg mb : Str -> Option Value} {CX : CXT} {k : Nat} {fa a : Addr} {fd : FuncData} {x : Str} {sp : Sp} {s₁ : Shared} {vs : List Value} {ns : List Int}
   (KX : K.In s₁.heap) (hns : s₁.heap.Ns mainGlobals mg) (hb : s₁.heap.Ns builtinsNs mb) (hbb : ∀ x : Str,x ≠ "__name__" -> mb x = bootBuiltins x) (hlim : s₁.heap.NoLimit) (hg : s₁.gens = #[])
   (ha : s₁.heap.get? a = some { cls:=.type "list",data:=.seq vs.toArray }) (hi : IntsAre vs ns) (hl : ns.length <= sizeLine) (hr : zdb k callerA)
   (F : ∀ base : Heap,K.In base -> base.Ns mainGlobals mg -> zaM P w K mg base CX k fa fd [x] sp) (hbind : ∀ (s : Shared) (u : Value),BindsTo s fd ⟨[u],[]⟩ [(x,u)])
   (hsp : ∀ H : Hp,zqv H -> SqL K H a (ns.map V.int) -> sp [.ref a] H (fun v _=>v = .bl true) fun _ _ _=>False)
   (hCX : ∀ H e s',CX [] H s₁ (fun _ _ _=>False) e s' -> False) :
   codeAny (model P w) callerA (.call (.ref fa) ⟨[.ref a],[]⟩) (fun r s'=>r = .ok (.ret (.bool true)) /\ OldK s₁.heap s'.heap /\ s'.os = s₁.os /\ AllBare s'.gens) s₁:=by
 have rv:=zjs hi
 have lenV:=hi.length
 -- from an abstract heap in which nothing but the script may be tracked
 have core : ∀ H : Hp,zqv H -> SqL K H a (ns.map V.int) -> HOk P w H s₁.heap -> (∀ b,H b ≠ none -> b = a) -> (H a ≠ none -> K.lookup a = none) ->
     codeAny (model P w) callerA (.call (.ref fa) ⟨[.ref a],[]⟩) (fun r s'=>r = .ok (.ret (.bool true)) /\ OldK s₁.heap s'.heap /\ s'.os = s₁.os /\ AllBare s'.gens) s₁:=by
   intro H hO hS hok hA hK
   have base_of : ∀ {b : Addr} {o : Obj},s₁.heap.get? b = some o -> H b = none -> (zjG s₁.heap H).get? b = some o:=fun e n=>zqb e n
   have noA : ∀ {b : Addr} {o : Obj} {es : Array DictEntry} {ep : Nat},s₁.heap.get? b = some o -> o.data = .dict es ep -> H b = none:=fun {b o es ep} e d=>by
     cases q : H b with
     | none=>rfl
     | some u =>
       have e' : b = a:=hA b (by rw [q]; simp)
       subst e'
       rw [ha] at e; cases e
       have d' : Data.seq vs.toArray _ = Data.dict es ep:=d
       cases d'
   have nsK : ∀ {b : Addr} {m : Str -> Option Value},s₁.heap.Ns b m -> (zjG s₁.heap H).Ns b m:=fun {b m} ⟨o,es,ep,e,d,r⟩=>⟨o,es,ep,base_of e (noA e d),d,r⟩
   have hKb : K.In (zjG s₁.heap H):=fun b o e=>base_of (KX b o e) (by
     cases q : H b with
     | none=>rfl
     | some u =>
       have e' : b = a:=hA b (by rw [q]; simp)
       subst e'
       rw [hK (by rw [q]; simp)] at e; cases e)
   have hM : Mod K mg (zjG s₁.heap H):=⟨hKb,nsK hns,⟨mb,nsK hb,hbb⟩,let ⟨mc,h1,h2⟩:=hlim; ⟨mc,nsK h1,h2⟩⟩
   have e0 : zpO P w K mg (zjG s₁.heap H) callerA [] s₁ H:=⟨rfl,hM,fun b o e=>zqH e,Nat.le_of_eq (zn4 _ _),trivial,fun b hb=>absurd (show b ∈ ([] : List Addr) from hb) (by simp),hok,.of_eq hg⟩
   refine codeAny_mono ((F _ hKb (nsK hns)).run callerA [] s₁ H ⟨[.ref a],[]⟩ [.ref a] [.ref a] _ _ hr e0 (hbind s₁ (.ref a)) (.cons rfl .nil) (hsp H hO hS)) fun r s' h=>?_
   cases r with
   | error e=>exact (hCX H e s' h).elim
   | ok fl =>
     cases fl with
     | next=>exact False.elim h
     | brk=>exact False.elim h
     | cont=>exact False.elim h
     | ret u =>
       obtain ⟨v,H',os,bare,un,hok',r',q⟩:=h
       have q' : v = .bl true:=q
       subst q'
       obtain rfl : u = Value.bool true:=r'
       refine ⟨rfl,OldK.of_keep fun b o e=>?_,os,bare⟩
       cases q : H b with
       | none=>exact un.keep b o e q (by intro z; exact absurd (show b ∈ ([] : List Addr) from z) (by simp)) (by simp)
       | some u =>
         rcases hO b with z | ⟨ob,xs,z⟩
         . rw [q] at z; cases z
         . have z2:=un.frzs b ob _ z
           obtain ⟨e1,_⟩:=hok b _ z
           obtain ⟨e2,_⟩:=hok' b _ z2
           rw [e] at e1; cases e1
           exact e2
 cases hk : K.lookup a with
 | some o =>
   -- the script is one of the module's own objects
   have e:=KX a o hk
   rw [ha] at e
   cases e
   refine core (fun _=>none) (fun _=>.inl rfl) (.inr ⟨_,vs.toArray,_,hk,rfl,rfl,rfl,by rw [List.size_toArray,lenV]; exact hl,by simpa using rv⟩) (fun b u z=>by have z' : (none : Option HO) = some u:=z; cases z') (fun b z=>absurd rfl z) fun z=>absurd rfl z
 | none =>
   refine core (fun b=>if b = a then some (.frz { cls:=.type "list",data:=.seq vs.toArray } (.lst (ns.map V.int))) else none) (fun b=>?_) (.inl (.inr ⟨{ cls:=.type "list",data:=.seq vs.toArray },if_pos rfl⟩)) (fun b u z=>?_) (fun b z=>?_) fun _=>hk
   . by_cases hb : b = a
     . exact .inr ⟨_,_,if_pos hb⟩
     . exact .inl (if_neg hb)
   . by_cases hb : b = a
     . have z':=(if_pos hb).symm.trans z
       cases z'
       subst hb
       exact ⟨ha,by rw [List.length_map]; exact hl,vs,_,rv,ha⟩
     . have z':=(if_neg hb).symm.trans z
       cases z'
   . by_cases hb : b = a
     . exact hb
     . exact absurd (if_neg hb) z
end L2
namespace L2
open PySem PySem.Spec PyProof.Rows
abbrev KOf {K : PySem.W.Frag} {h : Heap} (_ : K.In h) : PySem.W.Frag:=K
theorem walk_of {l : PySem.W.OpenLaw} {n k : Nat} {q : Program} {loose : List Str} {XP : (Str -> Option Value) -> Heap -> Prop} {YP : World -> Heap -> Prop} {d : DefRec} {K : Params -> PySem.W.Frag} {CX : World -> CXT} {sp : World -> Sp} {x : Str}
   (hn : l.most = some n) (hn2 : n <= sizeLine) (hdf : d.params.defaults = []) (hr : zdb k callerA)
   (hY : ∀ (w : World) (h : Heap),YP w h -> (K w.params).In h)
   (F : ∀ (w : World) (mg : Str -> Option Value) (fa : Addr) (h : Heap),(K w.params).In h -> h.Ns mainGlobals mg -> mg d.name = some (.ref fa) ->
     ∃ fd : FuncData,(∀ (s : Shared) (u : Value),BindsTo s fd ⟨[u],[]⟩ [(x,u)]) /\
       ∀ base : Heap,(K w.params).In base -> base.Ns mainGlobals mg -> zaM l.prog w (K w.params) mg base (CX w) k fa fd [x] (sp w))
   (hsp : ∀ (w : World) (H : Hp) (a : Addr) (ns : List Int),ns.length <= n -> zqv H -> SqL (K w.params) H a (ns.map V.int) -> sp w [.ref a] H (fun v _=>v = .bl true) fun _ _ _=>False)
   (hCX : ∀ (w : World) (H : Hp) (s : Shared) (e : Value) (s' : Shared),CX w [] H s (fun _ _ _=>False) e s' -> False) :
   PySem.W.WalkO q loose XP YP l.row.toRowW d [] (fun f vs=>PySem.call f vs):=by
 refine Att.attach_call hn hdf fun w s₀ s₁ mg mb fa o pm cd doc a vs ns G Y ho hd hcd hmg hobj hints hlen hg=>?_
 have KX:=hY w _ Y
 obtain ⟨fd,hb,hF⟩:=F w mg fa _ KX G.T.g hmg
 exact zpK KX G.T.g G.T.b G.T.builtins G.T.nolimit hg hobj hints (Nat.le_trans hlen hn2) hr hF hb (fun H hO hS=>hsp w H a ns hlen hO hS) fun H e s'=>hCX w H s₁ e s'
end L2
namespace L2
open PySem PySem.Spec PyProof.Rows
def zeJ (s : Stmt) : Arguments:=match s with
 | .FunctionDef _ a _ _ _ _ _ _ _ _=>a
 | _=>{ posonlyargs:=[],args:=[],vararg:=none,kwonlyargs:=[],kw_defaults:=[],kwarg:=none,defaults:=[] }
def zc8 (s : Stmt) : List Stmt:=match s with
 | .FunctionDef _ _ b _ _ _ _ _ _ _=>b
 | _=>[]
def zae (s : Stmt) : Scope:=match s with
 | .FunctionDef _ _ _ _ _ _ sc _ _ _=>sc
 | _=>{ kind:=.function,names:=[],isGenerator:=false,isCoroutine:=false }
abbrev CX0 : CXT:=fun _ _ _ _ _ _=>False
abbrev E0 : XK:=fun _ _ _=>False
theorem zuB {X : Cx} : zgL CX0 X E0:=fun _ _ _ _ _ _ _ h=>h.elim
structure Fun (K : PySem.W.Frag) (x qual : Str) (st : Stmt) (f : Addr) (fd : FuncData) : Prop where
 ex : ∃ (oc : Value) (od : Option Addr) (kV doc pm : Value) (an : Option Addr) (cdv ct : Value) (osl : Array (Option Value)),
   fd = PySem.W.fnOf x qual (zeJ st) (zc8 st) (zae st) .none kV doc pm an cdv ct /\ K.lookup f = some ⟨oc,od,.func fd,osl⟩ /\ PySem.W.codeIn K cdv qual = true
 kp : PySem.W.keepIn K (.ref f) = true
section
variable {P : Program} {w : World} {K : PySem.W.Frag} {mg : Str -> Option Value} {base : Heap}
theorem Fun.ok {x qual : Str} {st : Stmt} {f : Addr} {fd : FuncData} {N ps : List Str} {k : Nat} {sp : Sp} (F : Fun K x qual st f fd) (S : zal N ps (zae st)) (len : ∀ vs H Q E,sp vs H Q E -> vs.length = ps.length)
   (hbody : ∀ (cdv : Value) (A : Around) (outer : List Env) (s : Shared) (H : Hp) (vs : List V) (Q : VK) (E : XK),zdb k (A.deeper (envOfC qual (zae st) s.heap.objs.size f cdv)) -> sp vs H Q E ->
     ∃ t,PSs (zhI CX0 P w K mg base N qual (zae st) f cdv A outer s H E).nox (zc8 st) t /\ t { nx:=fun _ H'=>Q .non H',rt:=Q } (start N vs) H) : zaM P w K mg base CX0 (k + 1) f fd ps sp:=by
 obtain ⟨oc,od,kV,doc,pm,an,cdv,ct,osl,rfl,lk,hcd⟩:=F.ex
 refine zrZ lk hcd S len fun A outer s H vs Q E hr hsp=>?_
 obtain ⟨t,h,q⟩:=hbody cdv A outer s H vs Q E hr hsp
 exact ⟨t,h.nox,q⟩
theorem Fun.binds {x qual : Str} {st : Stmt} {f : Addr} {fd : FuncData} {ps : List Str} (F : Fun K x qual st f fd)
   (h : ∀ (kV doc pm : Value) (an : Option Addr) (cdv ct : Value) (us : List Value),us.length = ps.length -> bindArgs (PySem.W.fnOf x qual (zeJ st) (zc8 st) (zae st) .none kV doc pm an cdv ct) ⟨us,[]⟩ = pure (ps.zip us)) : zib K fd ps []:=by
 obtain ⟨oc,od,kV,doc,pm,an,cdv,ct,osl,rfl,lk,hcd⟩:=F.ex
 exact .all (h kV doc pm an cdv ct)
theorem zp7 {x qual : Str} {st : Stmt} {f : Addr} {oc : Value} {od an : Option Addr} {osl : Array (Option Value)} {kV doc pm cdv ct : Value} (l : K.lookup f = some ⟨oc,od,.func (PySem.W.fnOf x qual (zeJ st) (zc8 st) (zae st) .none kV doc pm an cdv ct),osl⟩)
   (c : PySem.W.codeIn K cdv qual = true) (k : PySem.W.keepIn K (.ref f) = true) : Fun K x qual st f (PySem.W.fnOf x qual (zeJ st) (zc8 st) (zae st) .none kV doc pm an cdv ct):=⟨⟨oc,od,kV,doc,pm,an,cdv,ct,osl,rfl,l,c⟩,k⟩
end
theorem zgv {n : Nat} (h : n <= 1000) : n < sizeLine:=Nat.lt_of_le_of_lt h (by decide)
section
variable {X : Cx}
theorem pv (i : Nat) {x : Str} {pos : Pos} (hN : X.N[i]? = some x:=by rfl) (hv : Vis X.env.scope x:=by first | exact Or.inl rfl | exact Or.inr (Or.inl rfl) | exact Or.inr (Or.inr rfl)) (hd : (x == ("__debug__" : Str)) = false:=by decide)
   (hcd : (x == ("__classdict__" : Str)) = false:=by decide) : PE X (.Name x pos) (zoN i):=zst hN hv hd hcd
end
theorem zoK {A B : Prop} (h : B) : if false = true then A else B:=by
 rw [if_neg Bool.false_ne_true]
 exact h
theorem zoX {A B : Prop} (h : A) : if true = true then A else B:=by
 rw [if_pos rfl]
 exact h
def zag (H H' : Hp) : Prop:=∀ b o,H b = some o -> H' b = some o
theorem zag.refl (H : Hp) : zag H H:=fun _ _ h=>h
theorem zag.trans {H H1 H2 : Hp} (a : zag H H1) (b : zag H1 H2) : zag H H2:=fun c o h=>b c o (a c o h)
theorem zag.seq {K : PySem.W.Frag} {H H' : Hp} {a : Addr} {xs : List V} (e : zag H H') (h : SqL K H a xs) : SqL K H' a xs:=by
 rcases h with (h | ⟨o,h⟩) | h
 . exact .inl (.inl (e _ _ h))
 . exact .inl (.inr ⟨o,e _ _ h⟩)
 . exact .inr h
end L2
namespace GM
def dv (t b : Int) : Int:=if b < 0 then -((Int.gcd t b : Nat) : Int) else ((Int.gcd t b : Nat) : Int)
theorem zjV {t b : Int} (hb : b ≠ 0) : 0 < Int.gcd t b:=Int.gcd_pos_of_ne_zero_right t hb
theorem zsc {t b : Int} (hb : b ≠ 0) : dv t b ≠ 0:=by
 have:=zjV (t:=t) hb
 unfold dv
 split <;> lia
theorem zas {a d : Int} (h : d ∣ a) (hd : d ≠ 0) : a.fdiv d = a / d:=by
 obtain ⟨k,rfl⟩:=h
 rw [Int.mul_fdiv_cancel_left _ hd,Int.mul_ediv_cancel_left _ hd]
theorem zpu {t b : Int} (hb : b ≠ 0) : t.fdiv (dv t b) = (Rat.divInt t b).num:=by
 have hg:=zjV (t:=t) hb
 have h1 : ((Int.gcd t b : Nat) : Int) ∣ t:=Int.gcd_dvd_left ..
 rw [Rat.num_divInt,Int.gcd_comm b t]
 unfold dv
 by_cases h : b < 0
 . rw [if_pos h,Int.sign_eq_neg_one_of_neg h,zas (Int.neg_dvd.mpr h1) (by lia),Int.ediv_neg]
   obtain ⟨k,hk⟩:=h1
   have : (-1 : Int) * t = ((Int.gcd t b : Nat) : Int) * (-k):=by rw [Int.neg_one_mul,Int.mul_neg,<- hk]
   rw [this,Int.mul_ediv_cancel_left _ (by lia)]
   have e : t / ((Int.gcd t b : Nat) : Int) = k:=Int.ediv_eq_of_eq_mul_right (by lia) hk
   rw [e]
 . rw [if_neg h,Int.sign_eq_one_of_pos (by lia),Int.one_mul,zas h1 (by lia)]
theorem ztm {t b : Int} (hb : b ≠ 0) : b.fdiv (dv t b) = ((Rat.divInt t b).den : Int):=by
 have hg:=zjV (t:=t) hb
 have h1 : ((Int.gcd t b : Nat) : Int) ∣ b:=Int.gcd_dvd_right ..
 rw [Rat.den_divInt,if_neg hb,Int.gcd_comm b t]
 unfold dv
 by_cases h : b < 0
 . rw [if_pos h,zas (Int.neg_dvd.mpr h1) (by lia),Int.ediv_neg,Int.natCast_ediv]
   obtain ⟨k,hk⟩:=h1
   have : (b.natAbs : Int) = ((Int.gcd t b : Nat) : Int) * (-k):=by rw [Int.mul_neg,<- hk]; lia
   rw [this,Int.mul_ediv_cancel_left _ (by lia)]
   have e : b / ((Int.gcd t b : Nat) : Int) = k:=Int.ediv_eq_of_eq_mul_right (by lia) hk
   rw [e]
 . rw [if_neg h,zas h1 (by lia),Int.natCast_ediv]
   have : (b.natAbs : Int) = b:=by lia
   rw [this]
def zdp (p q : Int) : Bool:=decide (1 <= q) && decide (Int.gcd p q = 1)
theorem zi9 (r : Rat) : zdp r.num r.den = true:=by
 have h:=r.reduced
 have hd:=r.den_pos
 simp only [zdp,Bool.and_eq_true,decide_eq_true_eq]
 refine ⟨by lia,?_⟩
 have : Nat.gcd r.num.natAbs r.den = 1:=h
 simpa [Int.gcd] using this
theorem zks {p q : Int} (h : zdp p q = true) : ∃ r : Rat,p = r.num /\ q = (r.den : Int):=by
 simp only [zdp,Bool.and_eq_true,decide_eq_true_eq] at h
 obtain ⟨h1,h2⟩:=h
 refine ⟨⟨p,q.toNat,by lia,?_⟩,rfl,by show q = ((q.toNat : Nat) : Int); lia⟩
 have e : q.toNat = q.natAbs:=by lia
 rw [e]
 exact h2
theorem zlM {a b : Int} (hb : 0 < b) (ha : 0 <= a) : Int.gcd b (a % b) = Int.gcd a b:=by
 rw [Int.gcd_comm a b]
 have e : a = a % b + b * (a / b):=(Int.emod_add_mul_ediv a b).symm
 conv=>rhs; rw [e]
 rw [Int.gcd_add_mul_left_right]
structure Bd (n : Nat) (x : Int) : Prop where
 lt : x.natAbs < 2 ^ n
theorem Bd.mono {m n : Nat} {x : Int} (h : Bd m x) (e : m <= n) : Bd n x:=⟨Nat.lt_of_lt_of_le h.lt (Nat.pow_le_pow_right (by decide) e)⟩
theorem Bd.mul {m n : Nat} {x y : Int} (h : Bd m x) (k : Bd n y) : Bd (m + n) (x * y):=by
 refine ⟨?_⟩
 rw [Int.natAbs_mul,Nat.pow_add]
 exact Nat.mul_lt_mul'' h.lt k.lt
theorem Bd.add {m n : Nat} {x y : Int} (h : Bd m x) (k : Bd n y) : Bd (max m n + 1) (x + y):=by
 have h1:=(h.mono (Nat.le_max_left m n)).lt
 have h2:=(k.mono (Nat.le_max_right m n)).lt
 refine ⟨?_⟩
 rw [Nat.pow_succ]
 lia
theorem Bd.sub {m n : Nat} {x y : Int} (h : Bd m x) (k : Bd n y) : Bd (max m n + 1) (x - y):=by
 have h1:=(h.mono (Nat.le_max_left m n)).lt
 have h2:=(k.mono (Nat.le_max_right m n)).lt
 refine ⟨?_⟩
 rw [Nat.pow_succ]
 lia
theorem Bd.neg {n : Nat} {x : Int} (h : Bd n x) : Bd n (-x):=⟨by rw [Int.natAbs_neg]; exact h.lt⟩
theorem Bd.le {n : Nat} {x y : Int} (h : Bd n x) (e : y.natAbs <= x.natAbs) : Bd n y:=⟨Nat.lt_of_le_of_lt e h.lt⟩
theorem Bd.log {n : Nat} {x : Int} (h : Bd n x) (hn : 0 < n) : x.natAbs.log2 < n:=by
 by_cases e : x.natAbs = 0
 . rw [e]; exact hn
 . exact (Nat.log2_lt e).mpr h.lt
theorem zo2 (t b : Int) (hb : b ≠ 0) : (Rat.divInt t b).num.natAbs <= t.natAbs:=by
 rw [<- zpu hb]
 have h1 : dv t b ∣ t:=by
   have : ((Int.gcd t b : Nat) : Int) ∣ t:=Int.gcd_dvd_left ..
   unfold dv; split
   . exact Int.neg_dvd.mpr this
   . exact this
 rw [zas h1 (zsc hb)]
 exact Int.natAbs_ediv_le_natAbs t _
theorem zjC (t b : Int) (hb : b ≠ 0) : (Rat.divInt t b).den <= b.natAbs:=by
 rw [Rat.den_divInt,if_neg hb]
 exact Nat.div_le_self _ _
structure Bdr (n : Nat) (x : Rat) : Prop where
 t : Bd n x.num
 b : Bd n (x.den : Int)
theorem Bdr.mono {m n : Nat} {x : Rat} (h : Bdr m x) (e : m <= n) : Bdr n x:=⟨h.t.mono e,h.b.mono e⟩
theorem Bdr.divInt {n : Nat} {t b : Int} (hb : b ≠ 0) (h1 : Bd n t) (h2 : Bd n b) : Bdr n (Rat.divInt t b) :=
 ⟨h1.le (zo2 t b hb),h2.le (by have:=zjC t b hb; simpa using this)⟩
theorem Bd.of128 {m : Int} (h1 : -100000000000000000000000000000000000000 <= m) (h2 : m <= 100000000000000000000000000000000000000) : Bd 128 m:=⟨by
 have e : (2 : Nat) ^ 128 = 340282366920938463463374607431768211456:=by decide
 rw [e]
 lia⟩
theorem zfl (x : Rat) : (x.den : Int) ≠ 0:=by have:=x.den_pos; lia
theorem den_pos (x : Rat) : (0 : Int) < (x.den : Int):=by have:=x.den_pos; lia
theorem zj7 (x y : Rat) : (x.den : Int) * (y.den : Int) ≠ 0:=Int.mul_ne_zero (zfl x) (zfl y)
theorem zsK (x y : Rat) : Rat.divInt (x.num * (y.den : Int) + y.num * (x.den : Int)) ((x.den : Int) * (y.den : Int)) = x + y:=by
 rw [<- Int.natCast_mul,Rat.divInt_ofNat,Rat.add_def']
theorem zs9 (x y : Rat) : Rat.divInt (x.num * (y.den : Int) - y.num * (x.den : Int)) ((x.den : Int) * (y.den : Int)) = x - y:=by
 rw [<- Int.natCast_mul,Rat.divInt_ofNat,Rat.sub_def']
theorem ztH (x y : Rat) : Rat.divInt (x.num * y.num) ((x.den : Int) * (y.den : Int)) = x * y:=by
 rw [<- Int.natCast_mul,Rat.divInt_ofNat,Rat.mul_def']
theorem zuq (x y : Rat) : decide (x.num * (y.den : Int) < y.num * (x.den : Int)) = decide (x < y):=by
 rw [Bool.eq_iff_iff,decide_eq_true_eq,decide_eq_true_eq,Rat.lt_iff]
theorem Bdr.add {m n : Nat} {x y : Rat} (h : Bdr m x) (k : Bdr n y) : Bdr (m + n + 1) (x + y):=by
 rw [<- zsK]
 refine Bdr.divInt (zj7 x y) ?_ ((h.b.mul k.b).mono (by lia))
 exact ((h.t.mul k.b).add (k.t.mul h.b)).mono (by lia)
theorem Bdr.sub {m n : Nat} {x y : Rat} (h : Bdr m x) (k : Bdr n y) : Bdr (m + n + 1) (x - y):=by
 rw [<- zs9]
 refine Bdr.divInt (zj7 x y) ?_ ((h.b.mul k.b).mono (by lia))
 exact ((h.t.mul k.b).sub (k.t.mul h.b)).mono (by lia)
theorem Bdr.mul {m n : Nat} {x y : Rat} (h : Bdr m x) (k : Bdr n y) : Bdr (m + n) (x * y):=by
 rw [<- ztH]
 exact Bdr.divInt (zj7 x y) (h.t.mul k.t) (h.b.mul k.b)
theorem Bdr.zero : Bdr 1 0:=⟨⟨by decide⟩,⟨by decide⟩⟩
theorem Bdr.one : Bdr 1 1:=⟨⟨by decide⟩,⟨by decide⟩⟩
def shf (a b : Rat) : Nat -> Rat
 | 0=>0
 | n + 1=>a * shf a b n + b
def push (a b : Rat) : Nat -> Rat -> Rat
 | 0,x=>x
 | n + 1,x=>a * push a b n x + b
theorem znu (a b : Rat) (n : Nat) (x : Rat) : push a b n x = a ^ n * x + shf a b n:=by
 induction n with
 | zero=>simp [push,shf,Rat.add_zero,Rat.pow_zero]
 | succ n ih=>rw [push,ih,shf,Rat.pow_succ]; grind
theorem Bdr.pow {k : Nat} {a : Rat} (h : Bdr k a) (n : Nat) : Bdr (k * n + 1) (a ^ n):=by
 induction n with
 | zero=>rw [Rat.pow_zero]; exact Bdr.one.mono (by lia)
 | succ n ih=>rw [Rat.pow_succ]; exact (ih.mul h).mono (by rw [Nat.mul_succ]; lia)
theorem Bdr.shf {k : Nat} {a b : Rat} (h : Bdr k a) (hb : Bdr k b) (n : Nat) : Bdr ((2 * k + 1) * n + 1) (shf a b n):=by
 induction n with
 | zero=>exact Bdr.zero.mono (by lia)
 | succ n ih=>exact ((h.mul ih).add hb).mono (by rw [Nat.mul_succ]; lia)
end GM
namespace GM
theorem zan (t : Int) {u : Int} (hu : u ≠ 0) : (Rat.divInt t u) * (u : Rat) = (t : Rat):=by
 rw [Rat.divInt_eq_div]
 exact Rat.div_mul_cancel fun z=>hu (Rat.intCast_eq_zero_iff.mp z)
theorem zfQ (x : Rat) : x * ((x.den : Int) : Rat) = (x.num : Rat):=by
 have:=zan x.num (zfl x)
 rwa [Rat.num_divInt_den] at this
theorem zb8 {t u : Int} {x : Rat} (hu : u ≠ 0) (h : x * (u : Rat) = (t : Rat)) : Rat.divInt t u = x:=by
 have h1:=zan t hu
 have h2 : (Rat.divInt t u - x) * (u : Rat) = 0:=by grind
 have h3 : (u : Rat) ≠ 0:=by
   intro z
   exact hu (Rat.intCast_eq_zero_iff.mp z)
 have:=Rat.mul_eq_zero.mp h2
 grind
theorem znS (a b : Rat) (t u : Int) (hu : u ≠ 0) : Rat.divInt (a.num * b.den * t + b.num * a.den * u) (u * a.den * b.den) = a * Rat.divInt t u + b:=by
 refine zb8 (Int.mul_ne_zero (Int.mul_ne_zero hu (zfl a)) (zfl b)) ?_
 have h1:=zan t hu
 have h2:=zfQ a
 have h3:=zfQ b
 simp only [Rat.intCast_mul,Rat.intCast_add]
 grind
theorem zhW {a : Rat} (h : 0 < a) (n : Nat) : 0 < a ^ n:=Rat.pow_pos h
theorem zeQ {u : Int} (h : 0 < u) : (0 : Rat) < (u : Rat):=Rat.intCast_pos.mpr h
theorem zlN {t u : Int} (hu : 0 < u) (ht : 0 < t) : 0 < Rat.divInt t u:=by
 have e:=zan t (show u ≠ 0 by lia)
 have:=zeQ ht
 rw [<- e] at this
 exact (Rat.mul_pos_iff_of_pos_right (zeQ hu)).mp this
theorem ziw {t u c : Int} (hu : 0 < u) (h : t <= c * u) : Rat.divInt t u <= (c : Rat):=by
 have e:=zan t (show u ≠ 0 by lia)
 refine Rat.le_of_mul_le_mul_right (c:=(u : Rat)) ?_ (zeQ hu)
 rw [e,<- Rat.intCast_mul]
 exact Rat.intCast_le_intCast.mpr h
theorem zmt {t u c : Int} (hu : 0 < u) (h : t < c * u) : Rat.divInt t u < (c : Rat):=by
 have e:=zan t (show u ≠ 0 by lia)
 refine Rat.lt_of_mul_lt_mul_right (c:=(u : Rat)) ?_ (Rat.le_of_lt (zeQ hu))
 rw [e,<- Rat.intCast_mul]
 exact Rat.intCast_lt_intCast.mpr h
theorem zmX {t u : Int} (hu : 0 < u) : ((Rat.divInt t u).den : Int) <= u:=by
 have:=zjC t u (by lia)
 lia
theorem znK {x : Rat} {c : Int} (h : x <= (c : Rat)) : x.num <= c * x.den:=by
 have:=(Rat.le_iff x c).mp h
 simpa using this
theorem zsV {x : Rat} (h : 0 <= x) : 0 <= x.num:=Rat.num_nonneg.mpr h
theorem Bdr.small {x : Rat} {c d : Nat} (h0 : 0 <= x) (hc : x <= ((c : Int) : Rat)) (hd : x.den <= d) (z : c * d < 1024) (hd2 : d < 1024) : Bdr 10 x:=by
 have h1:=znK hc
 have h2:=zsV h0
 have h3 : (c : Int) * (x.den : Int) <= (c : Int) * (d : Int):=Int.mul_le_mul_of_nonneg_left (by lia) (by lia)
 have h4 : (c : Int) * (d : Int) < 1024:=by rw [<- Int.natCast_mul]; lia
 refine ⟨⟨?_⟩,⟨?_⟩⟩
 . show _ < 1024
   lia
 . show _ < 1024
   lia
theorem ztN {x : Rat} {z u : Int} (e : x = Rat.divInt z u) (h1 : 1 <= u) (h2 : u <= 8) (h3 : 1 <= z) (h4 : z <= 4 * u) : 0 < x /\ x <= 4 /\ x.den <= 8:=by
 subst e
 refine ⟨zlN (by lia) (by lia),ziw (c:=4) (by lia) h4,?_⟩
 have:=zmX (t:=z) (show 0 < u by lia)
 lia
theorem zuA {y : Rat} {r u : Int} (e : y = Rat.divInt r u) (h1 : 1 <= u) (h2 : u <= 12) (h3 : 0 <= r) (h4 : r <= u) : 0 <= y /\ y <= 1 /\ y.den <= 12:=by
 subst e
 refine ⟨Rat.divInt_nonneg h3 (by lia),ziw (c:=1) (by lia) (by lia),?_⟩
 have:=zmX (t:=r) (show 0 < u by lia)
 lia
theorem Bdr.four : Bdr 3 4:=⟨⟨by decide +kernel⟩,⟨by decide +kernel⟩⟩
end GM
namespace GM
def zrD (a b : Rat) (n : Nat) (xs : List Rat) (i : Nat) : List Rat:=(xs.map fun x=>push a b n (x + (1 - xs.getD i 0))).set i 0
def zmm (a b : Rat) (ns : List Int) (xs : List Rat) : Nat -> List Rat
 | 0=>xs
 | k + 1=>zrD a b (ns.getD k 0).toNat (zmm a b ns xs k) k
def Cm (m : Nat) (xs : List Rat) : Prop:=∃ B : Int,0 < B /\ Bd m B /\ ∀ x ∈ xs,∃ t : Int,x = Rat.divInt t B /\ Bd m t
theorem Cm.mono {m n : Nat} {xs : List Rat} (h : Cm m xs) (e : m <= n) : Cm n xs:=by
 obtain ⟨B,h0,h1,h2⟩:=h
 exact ⟨B,h0,h1.mono e,fun x hx=>let ⟨t,e1,e2⟩:=h2 x hx; ⟨t,e1,e2.mono e⟩⟩
theorem Cm.bdr {m : Nat} {xs : List Rat} {x : Rat} (h : Cm m xs) (hx : x ∈ xs) : Bdr m x:=by
 obtain ⟨B,h0,h1,h2⟩:=h
 obtain ⟨t,rfl,ht⟩:=h2 x hx
 exact Bdr.divInt (by lia) ht h1
theorem Cm.pos {m : Nat} {xs : List Rat} (h : Cm m xs) : 1 <= m:=by
 obtain ⟨B,h0,h1,_⟩:=h
 cases m with
 | zero=>have:=h1.lt; simp at this; lia
 | succ m=>lia
theorem Cm.get {m : Nat} {xs : List Rat} (h : Cm m xs) (i : Nat) : Bdr m (xs.getD i 0):=by
 rcases Nat.lt_or_ge i xs.length with z | z
 . rw [List.getD_eq_getElem?_getD,List.getElem?_eq_getElem z]
   exact h.bdr (List.getElem_mem z)
 . rw [List.getD_eq_getElem?_getD,List.getElem?_eq_none z]
   exact Bdr.zero.mono h.pos
theorem zgG {a b : Rat} (ba : Bdr 10 a) (bb : Bdr 10 b) {m : Nat} {t u : Int} (hu : 0 < u) (bt : Bd m t) (bu : Bd m u) : ∀ n : Nat,0 < u * ((a.den : Int) * (b.den : Int)) ^ n /\ Bd (m + 21 * n) (u * ((a.den : Int) * (b.den : Int)) ^ n) /\
   ∃ T : Int,push a b n (Rat.divInt t u) = Rat.divInt T (u * ((a.den : Int) * (b.den : Int)) ^ n) /\ Bd (m + 21 * n) T
 | 0=>⟨by simpa using hu,by simpa using bu,t,by simp [push],by simpa using bt⟩
 | n + 1=>by
   obtain ⟨h1,h2,T,e,hT⟩:=zgG ba bb hu bt bu n
   have eb : u * ((a.den : Int) * (b.den : Int)) ^ (n + 1) = u * ((a.den : Int) * (b.den : Int)) ^ n * (a.den : Int) * (b.den : Int):=by rw [Int.pow_succ,<- Int.mul_assoc,Int.mul_assoc (u * _)]
   rw [eb]
   refine ⟨Int.mul_pos (Int.mul_pos h1 (den_pos a)) (den_pos b),((h2.mul ba.b).mul bb.b).mono (by lia),a.num * (b.den : Int) * T + b.num * (a.den : Int) * (u * ((a.den : Int) * (b.den : Int)) ^ n),?_,(((ba.t.mul bb.b).mul hT).add ((bb.t.mul ba.b).mul h2)).mono (by lia)⟩
   rw [push,e]
   exact (znS a b T _ (by lia)).symm
def zui (a b : Rat) (n : Nat) (xs : List Rat) : List Rat:=(xs.tail.map fun y=>push a b n (y + (1 - xs.headD 0))) ++ [0]
def turned (a b : Rat) (ns : List Int) (xs : List Rat) : Nat -> List Rat
 | 0=>xs
 | k + 1=>zui a b (ns.getD k 0).toNat (turned a b ns xs k)
def ziR (xs : List Rat) : Nat -> Int
 | 0=>1
 | k + 1=>ziR xs k * ((xs.getD k 0).den : Int)
theorem zjw (xs : List Rat) : ∀ k,0 < ziR xs k
 | 0=>by show (0 : Int) < 1; decide
 | k + 1=>Int.mul_pos (zjw xs k) (den_pos _)
theorem zjr (xs : List Rat) : ∀ k j,j < k -> ((xs.getD j 0).den : Int) ∣ ziR xs k
 | 0,j,h=>by lia
 | k + 1,j,h=>by
   rcases Nat.lt_or_ge j k with z | z
   . exact Int.dvd_trans (zjr xs k j z) (Int.dvd_mul_right ..)
   . have : j = k:=by lia
     subst this
     exact Int.dvd_mul_left ..
theorem zlh {xs : List Rat} {m : Nat} (h : ∀ i,Bdr m (xs.getD i 0)) : ∀ k,Bd (m * k + 1) (ziR xs k)
 | 0=>⟨by show (1 : Int).natAbs < _; simp⟩
 | k + 1=>by
   rw [ziR]
   refine ((zlh h k).mul (h k).b).mono ?_
   rw [Nat.mul_add]; lia
theorem zms {x : Rat} {B : Int} (hB : 0 < B) (h : (x.den : Int) ∣ B) : Rat.divInt (x.num * B.fdiv x.den) B = x:=by
 obtain ⟨c,rfl⟩:=h
 rw [zas (Int.dvd_mul_right ..) (zfl x),Int.mul_ediv_cancel_left _ (zfl x)]
 refine zb8 (by lia) ?_
 have:=zfQ x
 rw [Rat.intCast_mul,Rat.intCast_mul,<- this]
 grind
theorem zrg {B d : Int} {m : Nat} (hd : 0 < d) (hB : 0 < B) (h : Bd m B) : Bd m (B.fdiv d):=by
 refine h.le ?_
 rw [Int.fdiv_eq_ediv_of_nonneg _ (by lia)]
 have h1 : 0 <= B / d:=Int.ediv_nonneg (by lia) (by lia)
 have h2 : B / d <= B:=Int.ediv_le_self _ (by lia)
 lia
end GM
namespace GM
theorem zpd (x y : Rat) : ((x * y).num = x.num / (x.num.natAbs.gcd y.den : Nat) * (y.num / (y.num.natAbs.gcd x.den : Nat))) /\ ((x * y).den = x.den / (y.num.natAbs.gcd x.den) * (y.den / (x.num.natAbs.gcd y.den))):=by
 show (Rat.mul x y).num = _ /\ (Rat.mul x y).den = _
 unfold Rat.mul
 simp only [Int.divExact_eq_ediv,Nat.divExact_eq_div]
 constructor <;> trivial
theorem zpm (x y : Rat) : ((x + y).num = (x.num * ((y.den / x.den.gcd y.den : Nat) : Int) + y.num * ((x.den / x.den.gcd y.den : Nat) : Int)) / (((x.num * ((y.den / x.den.gcd y.den : Nat) : Int) + y.num * ((x.den / x.den.gcd y.den : Nat) : Int)).natAbs.gcd (x.den.gcd y.den) : Nat) : Int)) /\ ((x + y).den = x.den / (x.den.gcd y.den) * (y.den / ((x.num * ((y.den / x.den.gcd y.den : Nat) : Int) + y.num * ((x.den / x.den.gcd y.den : Nat) : Int)).natAbs.gcd (x.den.gcd y.den)))):=by
 show (Rat.add x y).num = _ /\ (Rat.add x y).den = _
 unfold Rat.add
 by_cases hg : x.den.gcd y.den = 1
 . simp [hg]
 . simp only [hg,dite_false,Rat.maybeNormalize_eq]
   refine ⟨by simp,?_⟩
   simp
   have : (x.num * ((y.den / x.den.gcd y.den : Nat) : Int) + y.num * ((x.den / x.den.gcd y.den : Nat) : Int)).natAbs.gcd (x.den.gcd y.den) ∣ y.den:=Nat.dvd_trans (Nat.gcd_dvd_right _ _) (Nat.gcd_dvd_right _ _)
   simp at this
   rw [Nat.mul_div_assoc _ this]
def shd (x y : Rat) : Int:=((Int.gcd (x.den : Int) (y.den : Int) : Nat) : Int)
def stp (x y : Rat) : Int:=x.num * (y.den : Int).fdiv (shd x y) + y.num * (x.den : Int).fdiv (shd x y)
def sdv (x y : Rat) : Int:=((Int.gcd (stp x y) (shd x y) : Nat) : Int)
theorem zht (x y : Rat) : 0 < shd x y:=by
 have : 0 < Int.gcd (x.den : Int) (y.den : Int):=Int.gcd_pos_of_ne_zero_left _ (by have:=x.den_pos; lia)
 unfold shd; lia
theorem zjM (x y : Rat) : 0 < sdv x y:=by
 have : 0 < Int.gcd (stp x y) (shd x y):=Int.gcd_pos_of_ne_zero_right _ (by have:=zht x y; lia)
 unfold sdv; lia
theorem zmK (x y : Rat) : shd x y = ((x.den.gcd y.den : Nat) : Int):=by simp [shd,Int.gcd]
theorem zil (x y : Rat) : shd x y ∣ (x.den : Int):=Int.gcd_dvd_left ..
theorem zko (x y : Rat) : shd x y ∣ (y.den : Int):=Int.gcd_dvd_right ..
theorem ztJ (x y : Rat) : sdv x y ∣ stp x y:=Int.gcd_dvd_left ..
theorem zmr (x y : Rat) : sdv x y ∣ shd x y:=Int.gcd_dvd_right ..
theorem zo6 (x y : Rat) : stp x y = x.num * ((y.den / x.den.gcd y.den : Nat) : Int) + y.num * ((x.den / x.den.gcd y.den : Nat) : Int):=by
 have h:=zht x y
 rw [stp,zas (zko x y) (by lia),zas (zil x y) (by lia),zmK,Int.natCast_ediv,Int.natCast_ediv]
theorem zpj (x y : Rat) : sdv x y = (((x.num * ((y.den / x.den.gcd y.den : Nat) : Int) + y.num * ((x.den / x.den.gcd y.den : Nat) : Int)).natAbs.gcd (x.den.gcd y.den) : Nat) : Int):=by
 rw [sdv,zo6,zmK]; simp [Int.gcd]
theorem zqX (x y : Rat) : (stp x y).fdiv (sdv x y) = (x + y).num:=by
 have h:=zjM x y
 rw [zas (ztJ x y) (by lia),(zpm x y).1,zpj,zo6]
theorem zq3 (x y : Rat) : (x.den : Int).fdiv (shd x y) * (y.den : Int).fdiv (sdv x y) = ((x + y).den : Int):=by
 have h:=zjM x y
 have h2:=zht x y
 rw [zas (Int.dvd_trans (zmr x y) (zko x y)) (by lia),zas (zil x y) (by lia),(zpm x y).2,zpj,zmK]
 simp only [Int.natCast_mul,Int.natCast_ediv]
def crs (x y : Rat) : Int:=((Int.gcd x.num (y.den : Int) : Nat) : Int)
theorem zeS (x y : Rat) : 0 < crs x y:=by
 have : 0 < Int.gcd x.num (y.den : Int):=Int.gcd_pos_of_ne_zero_right _ (by have:=y.den_pos; lia)
 unfold crs; lia
theorem zkb (x y : Rat) : crs x y ∣ x.num:=Int.gcd_dvd_left ..
theorem zgt (x y : Rat) : crs x y ∣ (y.den : Int):=Int.gcd_dvd_right ..
theorem zj6 (x y : Rat) : crs x y = ((x.num.natAbs.gcd y.den : Nat) : Int):=by simp [crs,Int.gcd]
theorem zqz (x y : Rat) : x.num.fdiv (crs x y) * y.num.fdiv (crs y x) = (x * y).num:=by
 have h:=zeS x y
 have h2:=zeS y x
 rw [zas (zkb x y) (by lia),zas (zkb y x) (by lia),(zpd x y).1,zj6,zj6]
theorem zrq (x y : Rat) : (x.den : Int).fdiv (crs y x) * (y.den : Int).fdiv (crs x y) = ((x * y).den : Int):=by
 have h:=zeS x y
 have h2:=zeS y x
 rw [zas (zgt x y) (by lia),zas (zgt y x) (by lia),(zpd x y).2,zj6,zj6]
 simp only [Int.natCast_mul,Int.natCast_ediv]
theorem zdK {n : Nat} {a d : Int} (h : Bd n a) (hd : d ∣ a) (hp : 0 < d) : Bd n (a.fdiv d):=by
 rw [zas hd (by lia)]
 exact h.le (Int.natAbs_ediv_le_natAbs a d)
theorem zhL {n : Nat} {a d : Int} (h : Bd n a) (hd : d ∣ a) (ha : 0 < a) : Bd n d :=
 h.le (Nat.le_of_dvd (by lia) (Int.natAbs_dvd_natAbs.mpr hd))
theorem zhn (t b : Int) : Int.gcd (if t < 0 then -t else t) b = Int.gcd t b:=by split <;> simp
theorem zrF {n : Nat} {y : Rat} (h : Bdr n y) : Bdr n (-y):=⟨by simpa using h.t.neg,by simpa using h.b⟩
theorem zl4 (x y : Rat) : x + -y = x - y:=(Rat.sub_eq_add_neg x y).symm
end GM
namespace GM
theorem getD_mem {α : Type} {xs : List α} {d : α} {i : Nat} (h : i < xs.length) : xs.getD i d ∈ xs:=by
 rw [List.getD_eq_getElem?_getD,List.getElem?_eq_getElem h]
 exact List.getElem_mem h
def ziA (x : Rat) : Bool:=(!decide (x < 0)) && (decide (x < 1) && decide ((x.den : Int) <= 60))
structure zaV (x : Rat) : Prop where
 nn : 0 <= x
 lt : x < 1
 den : x.den <= 60
theorem zaV.is {x : Rat} (h : zaV x) : ziA x = true:=by
 have h1:=h.nn
 have h2:=h.lt
 have h3:=h.den
 have h4 : ¬ x < 0:=Rat.not_lt.mpr h1
 have h5 : (x.den : Int) <= 60:=by lia
 simp [ziA,h4,h2,h5]
theorem zaV.bdr {x : Rat} (h : zaV x) : Bdr 6 x:=by
 have h1:=h.nn
 have h2:=h.lt
 have h3:=h.den
 have n0 : 0 <= x.num:=Rat.num_nonneg.mpr h1
 have n1 : x.num < x.den:=by
   have:=Rat.lt_iff x 1 |>.mp h2
   simpa using this
 exact ⟨⟨by have : (2 : Nat) ^ 6 = 64 := by decide
            omega⟩, ⟨by have : (2 : Nat) ^ 6 = 64 := by decide
                        omega⟩⟩
def mx (m : Rat) (l : List Rat) : Rat:=l.foldl (fun m x=>if m < x then x else m) m
theorem zrS : ∀ (l : List Rat) (m : Rat),m <= mx m l /\ ∀ y ∈ l,y <= mx m l
 | [],m=>⟨Rat.le_refl,fun y h=>by cases h⟩
 | x :: l,m=>by
   have h:=zrS l (if m < x then x else m)
   have e : mx m (x :: l) = mx (if m < x then x else m) l:=rfl
   rw [e]
   have h1 : m <= (if m < x then x else m) /\ x <= (if m < x then x else m):=by
     split
     . rename_i z; exact ⟨Rat.le_of_lt z,Rat.le_refl⟩
     . rename_i z; exact ⟨Rat.le_refl,Rat.not_lt.mp z⟩
   refine ⟨Rat.le_trans h1.1 h.1,fun y hy=>?_⟩
   rcases List.mem_cons.mp hy with rfl | hy
   . exact Rat.le_trans h1.2 h.1
   . exact h.2 y hy
theorem zmg : ∀ (l : List Rat) (m : Rat),mx m l = m \/ mx m l ∈ l
 | [],m=>.inl rfl
 | x :: l,m=>by
   have e : mx m (x :: l) = mx (if m < x then x else m) l:=rfl
   rw [e]
   rcases zmg l (if m < x then x else m) with h | h
   . rw [h]
     split
     . exact .inr (List.mem_cons_self ..)
     . exact .inl rfl
   . exact .inr (List.mem_cons_of_mem _ h)
theorem zhw (m x : Rat) (l : List Rat) : mx m (l ++ [x]) = if mx m l < x then x else mx m l:=by
 unfold mx; rw [List.foldl_append]; rfl
def zbv (xs : List Rat) : Rat:=mx (xs.getD 0 0) xs
theorem zm2 {xs : List Rat} : ∀ y ∈ xs,y <= zbv xs:=(zrS xs _).2
theorem zbh {xs : List Rat} (h : 1 <= xs.length) : zbv xs ∈ xs:=by
 rcases zmg xs (xs.getD 0 0) with e | e
 . unfold zbv
   rw [e,List.getD_eq_getElem?_getD,List.getElem?_eq_getElem (by lia)]
   exact List.getElem_mem _
 . exact e
theorem zeN {xs : List Rat} {i : Nat} (h : i < xs.length) : xs.take (i + 1) = xs.take i ++ [xs.getD i 0]:=by
 rw [List.take_add_one,List.getD_eq_getElem?_getD,List.getElem?_eq_getElem h]; rfl
theorem zpU {n : Nat} {xs : List Rat} (b : ∀ i,Bdr n (xs.getD i 0)) (h1 : 1 <= xs.length) (i : Nat) : Bdr n (mx (xs.getD 0 0) (xs.take i)):=by
 rcases zmg (xs.take i) (xs.getD 0 0) with e | e
 . rw [e]; exact b 0
 . have e:=List.take_subset _ _ e
   obtain ⟨j,hj,ej⟩:=List.getElem_of_mem e
   rw [<- ej]
   have:=b j
   rw [List.getD_eq_getElem?_getD,List.getElem?_eq_getElem hj] at this
   exact this
theorem zoZ {r u : Int} (h0 : 0 <= r) (h1 : r < u) (h2 : u <= 60) : zaV (Rat.divInt r u):=by
 refine ⟨Rat.divInt_nonneg h0 (by lia),zmt (c:=1) (by lia) (by lia),?_⟩
 have:=zjC r u (by lia)
 lia
end GM
namespace GM
def zah (ps : List Rat) (left : List Nat) : List Nat:=left.filter fun w=>!decide (ps.getD w 0 < 1)
def zat (left wave : List Nat) : List Nat:=left.filter fun w=>!decide (w ∈ wave)
def zaN (f g : Rat) (ps : List Rat) (l : List Nat) : List Rat:=l.foldl (fun ps w=>ps.set w (f * ps.getD w 0 + g)) ps
def zau (a b : Rat) : Nat -> List Rat -> List Nat -> List (List Nat) × (List Nat × List Rat)
 | 0,ps,left=>([],left,ps)
 | n + 1,ps,left=>match zah ps left with
   | []=>([],left,ps)
   | w :: ws=>((w :: ws) :: (zau a b n (zaN (a ^ (w :: ws).length) (shf a b (w :: ws).length) ps (zat left (w :: ws))) (zat left (w :: ws))).1,(zau a b n (zaN (a ^ (w :: ws).length) (shf a b (w :: ws).length) ps (zat left (w :: ws))) (zat left (w :: ws))).2)
def zdc (left : List Nat) (ps : List Rat) : List Rat:=(List.range ps.length).map fun i=>if i ∈ left then ps.getD i 0 else 0
def za5 (xs : List Rat) : List Rat:=xs.map (· + (1 - zbv xs))
def zdo (a b : Rat) (xs : List Rat) : List (List Nat) × (List Nat × List Rat):=zau a b xs.length (za5 xs) (List.range xs.length)
def zbj (a b : Rat) (xs : List Rat) : List (List Nat):=(zdo a b xs).1
def zbf (a b : Rat) (xs : List Rat) : List Rat:=zdc (zdo a b xs).2.1 (zdo a b xs).2.2
theorem zbN {a b : Rat} {n : Nat} {ps : List Rat} {left : List Nat} (h : zah ps left = []) : zau a b n ps left = ([],left,ps):=by
 cases n with
 | zero=>rfl
 | succ n=>rw [zau,h]
theorem zbd {a b : Rat} {n : Nat} {ps : List Rat} {left : List Nat} (h : zah ps left ≠ []) : zau a b (n + 1) ps left = (zah ps left :: (zau a b n (zaN (a ^ (zah ps left).length) (shf a b (zah ps left).length) ps (zat left (zah ps left))) (zat left (zah ps left))).1,(zau a b n (zaN (a ^ (zah ps left).length) (shf a b (zah ps left).length) ps (zat left (zah ps left))) (zat left (zah ps left))).2):=by
 rw [zau]
 cases e : zah ps left with
 | nil=>exact absurd e h
 | cons w ws=>rfl
theorem zkE (f g : Rat) (ps : List Rat) (l : List Nat) (w : Nat) : zaN f g ps (l ++ [w]) = (zaN f g ps l).set w (f * (zaN f g ps l).getD w 0 + g):=by
 unfold zaN; rw [List.foldl_append]; rfl
theorem za6 (f g : Rat) : ∀ (l : List Nat) (ps : List Rat),(zaN f g ps l).length = ps.length
 | [],ps=>rfl
 | w :: l,ps=>by
   show (zaN f g (ps.set w _) l).length = _
   rw [za6 f g l,List.length_set]
theorem zgO {ps : List Rat} {w j : Nat} {y : Rat} (h : w ≠ j) : (ps.set w y).getD j 0 = ps.getD j 0:=by
 rw [List.getD_eq_getElem?_getD,List.getElem?_set,if_neg h,List.getD_eq_getElem?_getD]
theorem zg8 {ps : List Rat} {w : Nat} {y : Rat} (h : w < ps.length) : (ps.set w y).getD w 0 = y:=by
 rw [List.getD_eq_getElem?_getD,List.getElem?_set,if_pos rfl,if_pos h]; rfl
theorem zbK (f g : Rat) : ∀ (l : List Nat) (ps : List Rat),l.Nodup -> (∀ w ∈ l,w < ps.length) -> ∀ j,(zaN f g ps l).getD j 0 = if j ∈ l then f * ps.getD j 0 + g else ps.getD j 0
 | [],ps,_,_,j=>by simp [zaN]
 | w :: l,ps,nd,hl,j=>by
   have nd':=List.nodup_cons.mp nd
   show (zaN f g (ps.set w _) l).getD j 0 = _
   rw [zbK f g l _ nd'.2 (fun v hv=>by rw [List.length_set]; exact hl v (List.mem_cons_of_mem _ hv)) j]
   by_cases hj : j = w
   . subst hj
     rw [if_neg nd'.1,if_pos (List.mem_cons_self ..),zg8 (hl j (List.mem_cons_self ..))]
   . rw [zgO (Ne.symm hj)]
     by_cases hm : j ∈ l
     . rw [if_pos hm,if_pos (List.mem_cons_of_mem _ hm)]
     . rw [if_neg hm,if_neg (fun z=>by rcases List.mem_cons.mp z with z | z; (exact hj z); exact hm z)]
theorem zl6 (ps : List Rat) (left : List Nat) : zat left (zah ps left) = left.filter fun w=>decide (ps.getD w 0 < 1):=by
 unfold zat
 refine List.filter_congr fun w hw=>?_
 have e : (w ∈ zah ps left) = (¬ ps.getD w 0 < 1):=by
   unfold zah; rw [List.mem_filter]; simp [hw]
 simp only [e]
 simp
theorem ziu (ps : List Rat) (left : List Nat) : (zah ps left).length + (zat left (zah ps left)).length = left.length:=by
 rw [zl6]
 unfold zah
 induction left with
 | nil=>rfl
 | cons w l ih=>by_cases h : ps.getD w 0 < 1 <;> simp only [List.filter_cons,h,decide_true,decide_false,Bool.not_true,Bool.not_false,if_true,if_false,Bool.false_eq_true,List.length_cons] <;> lia
theorem zb2 {left wave : List Nat} (h : left.Nodup) : (zat left wave).Nodup:=h.filter _
theorem zcD {left wave : List Nat} {n : Nat} (h : ∀ w ∈ left,w < n) : ∀ w ∈ zat left wave,w < n:=fun w hw=>h w (List.mem_filter.mp hw).1
theorem zlk (left : List Nat) (ps : List Rat) : (zdc left ps).length = ps.length:=by simp [zdc]
theorem zfI {left : List Nat} {ps : List Rat} {j : Nat} (h : j < ps.length) : (zdc left ps).getD j 0 = if j ∈ left then ps.getD j 0 else 0:=by
 unfold zdc
 rw [List.getD_eq_getElem?_getD,List.getElem?_map,List.getElem?_range h]
 rfl
theorem za1 (xs : List Rat) : (za5 xs).length = xs.length:=by simp [za5]
theorem zc2 {a b : Rat} : ∀ (n : Nat) (ps : List Rat) (left : List Nat),(zau a b n ps left).2.2.length = ps.length
 | 0,ps,left=>rfl
 | n + 1,ps,left=>by
   by_cases h : zah ps left = []
   . rw [zbN h]
   . rw [zbd h]
     show (zau a b n _ _).2.2.length = _
     rw [zc2 n,za6]
theorem zbI (a b : Rat) (xs : List Rat) : (zbf a b xs).length = xs.length:=by
 unfold zbf zdo
 rw [zlk,zc2,za1]
theorem Cm.get_of {m : Nat} {ps : List Rat} {B : Int} (h0 : 0 < B) (h1 : Bd m B) (h : ∀ j,j < ps.length -> ∃ t : Int,ps.getD j 0 = Rat.divInt t B /\ Bd m t) : ∀ x ∈ ps,∃ t : Int,x = Rat.divInt t B /\ Bd m t:=fun x hx=>by
 obtain ⟨j,hj,e⟩:=List.getElem_of_mem hx
 have:=h j hj
 rw [List.getD_eq_getElem?_getD,List.getElem?_eq_getElem hj] at this
 rw [<- e]; exact this
theorem zmF {a b : Rat} (ba : Bdr 10 a) (bb : Bdr 10 b) {m : Nat} {t : Int} (h : Bd m t) : ∀ n : Nat,Bd (m + 21 * n) (t * ((a.den : Int) * (b.den : Int)) ^ n)
 | 0=>by simpa using h
 | n + 1=>by
   rw [Int.pow_succ,<- Int.mul_assoc]
   exact ((zmF ba bb h n).mul (ba.b.mul bb.b)).mono (by lia)
theorem zc0 {t B d : Int} (h0 : 0 < B) (hd : 0 < d) : Rat.divInt t B = Rat.divInt (t * d) (B * d):=by
 symm
 refine zb8 (by have:=Int.mul_pos h0 hd; lia) ?_
 have q1:=zan t (show B ≠ 0 by lia)
 rw [Rat.intCast_mul,Rat.intCast_mul,<- Rat.mul_assoc,q1]
theorem Cm.wave {m : Nat} {h : Rat} {ps : List Rat} {a b : Rat} (c : Cm m (h :: ps)) (ba : Bdr 10 a) (bb : Bdr 10 b) (n : Nat) {l : List Nat} (nd : l.Nodup) (hl : ∀ w ∈ l,w < ps.length) : Cm (m + 21 * n) (h :: zaN (a ^ n) (shf a b n) ps l):=by
 obtain ⟨B,h0,h1,h2⟩:=c
 have hz : Bd m (0 : Int):=⟨by simp; exact Nat.two_pow_pos m⟩
 obtain ⟨p1,p2,_⟩:=zgG ba bb h0 hz h1 n
 have hd : 0 < ((a.den : Int) * (b.den : Int)) ^ n:=Int.pow_pos (Int.mul_pos (den_pos a) (den_pos b))
 refine ⟨_,p1,p2,fun x hx=>?_⟩
 rcases List.mem_cons.mp hx with rfl | hx
 . obtain ⟨t,rfl,ht⟩:=h2 x (List.mem_cons_self ..)
   exact ⟨_,zc0 h0 hd,zmF ba bb ht n⟩
 . refine Cm.get_of p1 p2 (fun j hj=>?_) x hx
   rw [za6] at hj
   obtain ⟨t,e,ht⟩:=h2 (ps.getD j 0) (List.mem_cons_of_mem _ (getD_mem hj))
   rw [zbK _ _ _ _ nd hl]
   split
   . obtain ⟨_,_,T,e2,hT⟩:=zgG ba bb h0 ht h1 n
     exact ⟨T,by rw [<- znu,e,e2],hT⟩
   . exact ⟨_,by rw [e]; exact zc0 h0 hd,zmF ba bb ht n⟩
theorem Cm.rise {m : Nat} {h M : Rat} {xs : List Rat} (c : Cm m (h :: xs)) (hM : M ∈ xs) : Cm (m + 2) ((h + (1 - M)) :: xs.map (· + (1 - M))):=by
 obtain ⟨B,h0,h1,h2⟩:=c
 obtain ⟨z,ez,hz⟩:=h2 M (List.mem_cons_of_mem _ hM)
 have key : ∀ t : Int,Bd m t -> Rat.divInt t B + (1 - M) = Rat.divInt (t + B - z) B /\ Bd (m + 2) (t + B - z):=fun t ht=>by
   refine ⟨?_,((ht.add h1).sub hz).mono (by lia)⟩
   rw [ez]
   symm
   refine zb8 (by lia) ?_
   have q1:=zan t (show B ≠ 0 by lia)
   have q2:=zan z (show B ≠ 0 by lia)
   have q3 : ((t + B - z : Int) : Rat) = (t : Rat) + (B : Rat) - (z : Rat):=by push_cast; rfl
   rw [q3,<- q1,<- q2]
   grind
 refine ⟨B,h0,h1.mono (by lia),fun x hx=>?_⟩
 rcases List.mem_cons.mp hx with rfl | hx
 . obtain ⟨t,e,ht⟩:=h2 h (List.mem_cons_self ..)
   rw [e]
   exact ⟨_,(key t ht).1,(key t ht).2⟩
 . obtain ⟨y,hy,rfl⟩:=List.mem_map.mp hx
   obtain ⟨t,e,ht⟩:=h2 y (List.mem_cons_of_mem _ hy)
   show ∃ t : Int,y + (1 - M) = _ /\ _
   rw [e]
   exact ⟨_,(key t ht).1,(key t ht).2⟩
theorem Cm.zero_mem {m : Nat} {xs : List Rat} {ys : List Rat} (c : Cm m xs) (h : ∀ y ∈ ys,y ∈ xs \/ y = 0) : Cm m ys:=by
 obtain ⟨B,h0,h1,h2⟩:=c
 refine ⟨B,h0,h1,fun y hy=>?_⟩
 rcases h y hy with z | rfl
 . exact h2 y z
 . exact ⟨0,by simp,⟨by simp; exact Nat.two_pow_pos m⟩⟩
theorem zlI {left : List Nat} {ps : List Rat} : ∀ y ∈ zdc left ps,y ∈ ps \/ y = 0:=fun y hy=>by
 unfold zdc at hy
 obtain ⟨i,hi,e⟩:=List.mem_map.mp hy
 rw [<- e]
 split
 . exact .inl (getD_mem (List.mem_range.mp hi))
 . exact .inr rfl
theorem Cm.waves {a b : Rat} (ba : Bdr 10 a) (bb : Bdr 10 b) {h : Rat} : ∀ (n m : Nat) (ps : List Rat) (left : List Nat),Cm m (h :: ps) -> left.Nodup -> (∀ w ∈ left,w < ps.length) -> Cm (m + 21 * left.length) (h :: (zau a b n ps left).2.2)
 | 0,m,ps,left,c,_,_=>c.mono (by lia)
 | n + 1,m,ps,left,c,nd,hl=>by
   by_cases he : zah ps left = []
   . rw [zbN he]; exact c.mono (by lia)
   . rw [zbd he]
     have hn:=ziu ps left
     have c1:=c.wave ba bb (zah ps left).length (zb2 (wave:=zah ps left) nd) (zcD (wave:=zah ps left) hl)
     have:=Cm.waves ba bb n _ _ (zat left (zah ps left)) c1 (zb2 nd) (by rw [za6]; exact zcD hl)
     exact this.mono (by lia)
theorem Cm.glowed {a b : Rat} (ba : Bdr 10 a) (bb : Bdr 10 b) {m : Nat} {h : Rat} {xs : List Rat} (c : Cm m (h :: xs)) (h1 : 1 <= xs.length) : Cm (m + 2 + 21 * xs.length) ((h + (1 - zbv xs)) :: zbf a b xs):=by
 have c1:=c.rise (zbh h1)
 have c2:=Cm.waves ba bb xs.length _ (za5 xs) (List.range xs.length) c1 List.nodup_range (fun w hw=>by rw [za1]; exact List.mem_range.mp hw)
 rw [List.length_range] at c2
 refine c2.zero_mem fun y hy=>?_
 rcases List.mem_cons.mp hy with rfl | hy
 . exact .inl (List.mem_cons_self ..)
 . rcases zlI y hy with z | z
   . exact .inl (List.mem_cons_of_mem _ z)
   . exact .inr z
theorem Cm.of_bdr {k : Nat} {xs : List Rat} (h : ∀ i,Bdr k (xs.getD i 0)) : Cm (k * xs.length + 1 + k) xs:=by
 have h0:=zjw xs xs.length
 have h1:=zlh h xs.length
 refine ⟨ziR xs xs.length,h0,h1.mono (by lia),Cm.get_of h0 (h1.mono (by lia)) fun j hj=>?_⟩
 exact ⟨_,(zms h0 (zjr xs _ j hj)).symm,((h j).t.mul (zrg (den_pos _) h0 h1)).mono (by lia)⟩
def zaP (a b : Rat) (xs : List Rat) : Nat -> List Rat
 | 0=>xs
 | k + 1=>zbf a b (zaP a b xs k)
def zaF (a b : Rat) (xs : List Rat) : Nat -> Rat
 | 0=>0
 | k + 1=>zaF a b xs k + (1 - zbv (zaP a b xs k))
theorem zbC (a b : Rat) (xs : List Rat) : ∀ k,(zaP a b xs k).length = xs.length
 | 0=>rfl
 | k + 1=>by rw [zaP,zbI,zbC a b xs k]
theorem Cm.hist {a b : Rat} (ba : Bdr 10 a) (bb : Bdr 10 b) {m : Nat} {xs : List Rat} (c : Cm m xs) (h1 : 1 <= xs.length) : ∀ k,Cm (m + (2 + 21 * xs.length) * k) (zaF a b xs k :: zaP a b xs k)
 | 0=>(c.mono (by lia)).zero_mem fun y hy=>by
   rcases List.mem_cons.mp hy with rfl | hy
   . exact .inr rfl
   . exact .inl hy
 | k + 1=>by
   have:=(Cm.hist ba bb c h1 k).glowed ba bb (by rw [zbC]; exact h1)
   rw [zbC] at this
   exact this.mono (by rw [Nat.mul_add]; lia)
theorem zgC {f : Rat -> Rat} {xs : List Rat} {w : Nat} (h : w < xs.length) : (xs.map f).getD w 0 = f (xs.getD w 0):=by
 rw [List.getD_eq_getElem?_getD,List.getElem?_map,List.getElem?_eq_getElem h,List.getD_eq_getElem?_getD,List.getElem?_eq_getElem h]; rfl
def CmD (d : Int) (m : Nat) (xs : List Rat) : Prop:=∃ B : Int,0 < B /\ d ∣ B /\ Bd m B /\ ∀ x ∈ xs,∃ t : Int,x = Rat.divInt t B /\ Bd m t
theorem CmD.of {d : Int} {m : Nat} {xs : List Rat} (h : Cm m xs) (hd : 0 < d) (b : Bd 4 d) : CmD d (m + 4) xs:=by
 obtain ⟨B,h0,h1,h2⟩:=h
 refine ⟨B * d,Int.mul_pos h0 hd,Int.dvd_mul_left ..,(h1.mul b),fun x hx=>?_⟩
 obtain ⟨t,e,ht⟩:=h2 x hx
 exact ⟨t * d,by rw [e]; exact zc0 h0 hd,ht.mul b⟩
theorem zh3 {a b : Rat} (ta : Bd 6 a.num) (da : Bd 4 (a.den : Int)) (tb : Bd 4 b.num) {m : Nat} {t u : Int} (hu : 0 < u) (hd : (b.den : Int) ∣ u) (bt : Bd m t) (bu : Bd m u) : ∀ n : Nat,0 < u * (a.den : Int) ^ n /\ (b.den : Int) ∣ u * (a.den : Int) ^ n /\ Bd (m + 9 * n) (u * (a.den : Int) ^ n) /\
   ∃ T : Int,push a b n (Rat.divInt t u) = Rat.divInt T (u * (a.den : Int) ^ n) /\ Bd (m + 9 * n) T
 | 0=>⟨by simpa using hu,by simpa using hd,by simpa using bu,t,by simp [push],by simpa using bt⟩
 | n + 1=>by
   obtain ⟨h1,hdv,h2,T,e,hT⟩:=zh3 ta da tb hu hd bt bu n
   have eb : u * (a.den : Int) ^ (n + 1) = u * (a.den : Int) ^ n * (a.den : Int):=by rw [Int.pow_succ,<- Int.mul_assoc]
   rw [eb]
   generalize u * (a.den : Int) ^ n = U at *
   obtain ⟨c,rfl⟩:=hdv
   have hc : 0 < c:=by
     have hb:=den_pos b
     rcases Int.lt_or_le 0 c with z | z
     . exact z
     . have:=Int.mul_nonpos_of_nonneg_of_nonpos (Int.le_of_lt hb) z
       lia
   have bc : Bd (m + 9 * n) c:=h2.le (by
     rw [Int.natAbs_mul]
     exact Nat.le_mul_of_pos_left _ (by have:=den_pos b; lia))
   refine ⟨Int.mul_pos h1 (den_pos a),Int.dvd_trans (Int.dvd_mul_right ..) (Int.dvd_mul_right ..),(h2.mul da).mono (by lia),a.num * T + b.num * (a.den : Int) * c,?_,((ta.mul hT).add ((tb.mul da).mul bc)).mono (by lia)⟩
   rw [push,e]
   symm
   have hU : ((b.den : Int) * c) * (a.den : Int) ≠ 0:=by have:=Int.mul_pos h1 (den_pos a); lia
   refine zb8 hU ?_
   have q1:=zan T (show (b.den : Int) * c ≠ 0 by lia)
   have q2:=zfQ a
   have q3:=zfQ b
   have q4 : ((a.num * T + b.num * (a.den : Int) * c : Int) : Rat) = (a.num : Rat) * (T : Rat) + (b.num : Rat) * ((a.den : Int) : Rat) * (c : Rat):=by push_cast; rfl
   have q5 : (((b.den : Int) * c * (a.den : Int) : Int) : Rat) = ((b.den : Int) : Rat) * (c : Rat) * ((a.den : Int) : Rat):=by push_cast; rfl
   have q6 : (((b.den : Int) * c : Int) : Rat) = ((b.den : Int) : Rat) * (c : Rat):=by push_cast; rfl
   rw [q6] at q1
   rw [q4,q5,<- q1,<- q2,<- q3]
   grind
theorem zeC (a b : Rat) (xs : List Rat) (m : Nat) : ∀ k,zaP a b (zaP a b xs m) k = zaP a b xs (m + k)
 | 0=>rfl
 | k + 1=>by rw [zaP,zeC a b xs m k]; rfl
theorem zjf (a b : Rat) (xs : List Rat) (m : Nat) : ∀ k,zaF a b xs m + zaF a b (zaP a b xs m) k = zaF a b xs (m + k)
 | 0=>by show zaF a b xs m + 0 = zaF a b xs m; grind
 | k + 1=>by
   have:=zjf a b xs m k
   show zaF a b xs m + (zaF a b (zaP a b xs m) k + (1 - zbv (zaP a b (zaP a b xs m) k))) = zaF a b xs (m + k) + (1 - zbv (zaP a b xs (m + k)))
   rw [zeC,<- this]
   grind
end GM
namespace GM
structure zuP (l : List Rat) : Prop where
 pw : l.Pairwise (· > ·)
 nn : ∀ y ∈ l,0 <= y
structure zfy (xs row : List Rat) (fl : Nat -> Nat) : Prop where
 at' : ∀ w,w < xs.length -> xs.getD w 0 = row.getD (fl w) 0
 lt : ∀ w,w < xs.length -> fl w < row.length
def zoJ (n : Nat) (fl : Nat -> Nat) (c : Nat) : List Nat:=(List.range n).filter fun w=>decide (fl w = c)
theorem zhB {xs row : List Rat} {fl : Nat -> Nat} {c : Nat} (h : zfy xs row fl) (some : ∃ w,w < xs.length /\ fl w = c) (top : ∀ j,j < row.length -> j ≠ c -> row.getD j 0 < row.getD c 0) : zbv xs = row.getD c 0:=by
 obtain ⟨w,hw,rfl⟩:=some
 have h1 : 1 <= xs.length:=by lia
 refine Rat.le_antisymm ?_ ?_
 . obtain ⟨j,hj,e⟩:=List.getElem_of_mem (zbh h1)
   have ea:=h.at' j hj
   rw [List.getD_eq_getElem?_getD,List.getElem?_eq_getElem hj] at ea
   have ea : xs[j] = row.getD (fl j) 0:=ea
   rw [<- e,ea]
   by_cases z : fl j = fl w
   . rw [z]; exact Rat.le_refl
   . exact Rat.le_of_lt (top _ (h.lt j hj) z)
 . rw [<- h.at' w hw]
   exact zm2 _ (getD_mem hw)
theorem zmI {xs row : List Rat} {fl : Nat -> Nat} {c : Nat} (h : zfy xs row fl) (some : ∃ w,w < xs.length /\ fl w = c) (top : ∀ j,j < row.length -> j ≠ c -> row.getD j 0 < row.getD c 0) : zah (za5 xs) (List.range xs.length) = zoJ xs.length fl c:=by
 unfold zah zoJ
 refine List.filter_congr fun w hw=>?_
 have hw:=List.mem_range.mp hw
 have hm:=zhB h some top
 have e : (za5 xs).getD w 0 = row.getD (fl w) 0 + (1 - row.getD c 0):=by
   unfold za5
   rw [List.getD_eq_getElem?_getD,List.getElem?_map,List.getElem?_eq_getElem hw,hm]
   have ea:=h.at' w hw
   rw [List.getD_eq_getElem?_getD,List.getElem?_eq_getElem hw] at ea
   have ea : xs[w] = row.getD (fl w) 0:=ea
   show xs[w] + (1 - row.getD c 0) = _
   rw [ea]
 rw [e]
 by_cases z : fl w = c
 . rw [z,decide_eq_true rfl,decide_eq_false (by grind)]; rfl
 . have:=top _ (h.lt w hw) z
   rw [decide_eq_false z,decide_eq_true (by grind)]; rfl
end GM
namespace GM
structure zuU (xs row : List Rat) (fl : Nat -> Nat) (ns : List Int) : Prop where
 pl : zfy xs row fl
 fall : zuP row
 one : row.getD 0 0 < 1
 len : ns.length = row.length
 some : ∀ c,c < row.length -> ∃ w,w < xs.length /\ fl w = c
 size : ∀ c,c < row.length -> (ns.getD c 0).toNat = (zoJ xs.length fl c).length
end GM
namespace GM
def znq (xs : List Rat) (v : Rat) : List Nat:=(List.range xs.length).filter fun w=>decide (xs.getD w 0 = v)
def zcI : Nat -> List Rat -> List Rat
 | 0,_=>[]
 | _ + 1,[]=>[]
 | n + 1,x :: l=>zbv (x :: l) :: zcI n ((x :: l).filter fun y=>!decide (y = zbv (x :: l)))
def zaj (xs : List Rat) : List Rat:=zcI xs.length xs
theorem zdn {n : Nat} {l : List Rat} (h : l ≠ []) : zcI (n + 1) l = zbv l :: zcI n (l.filter fun y=>!decide (y = zbv l)):=by
 cases l with
 | nil=>exact absurd rfl h
 | cons x l=>rfl
theorem zlO {l : List Rat} (h : l ≠ []) : (l.filter fun y=>!decide (y = zbv l)).length < l.length:=by
 have hm : zbv l ∈ l:=zbh (List.length_pos_iff.mpr h)
 rcases Nat.lt_or_ge (l.filter fun y=>!decide (y = zbv l)).length l.length with z | z
 . exact z
 . have:=List.length_filter_eq_length_iff.mp (Nat.le_antisymm (List.length_filter_le _ _) z) (zbv l) hm
   simp at this
end GM
namespace GM
theorem zdY : ∀ (n : Nat) (l : List Rat),∀ y ∈ zcI n l,y ∈ l
 | 0,l,y,h=>by cases h
 | n + 1,[],y,h=>by cases h
 | n + 1,x :: l,y,h=>by
   rw [zdn (by simp)] at h
   rcases List.mem_cons.mp h with rfl | h
   . exact zbh (by simp)
   . exact (List.mem_filter.mp (zdY n _ y h)).1
theorem zbB : ∀ (n : Nat) (l : List Rat),(zcI n l).Pairwise (· > ·)
 | 0,l=>List.Pairwise.nil
 | n + 1,[]=>List.Pairwise.nil
 | n + 1,x :: l=>by
   rw [zdn (by simp)]
   refine List.pairwise_cons.mpr ⟨fun y hy=>?_,zbB n _⟩
   have hf:=List.mem_filter.mp (zdY n _ y hy)
   have h1:=zm2 y hf.1
   have h2 : ¬ y = zbv (x :: l):=by simpa using hf.2
   show y < zbv (x :: l)
   exact Rat.lt_of_le_of_ne h1 h2
theorem zfC : ∀ (n : Nat) (l : List Rat),l.length <= n -> ∀ y ∈ l,y ∈ zcI n l
 | 0,l,h,y,hy=>by
   have : l = []:=List.length_eq_zero_iff.mp (by lia)
   rw [this] at hy; cases hy
 | n + 1,[],h,y,hy=>by cases hy
 | n + 1,x :: l,h,y,hy=>by
   rw [zdn (by simp)]
   by_cases z : y = zbv (x :: l)
   . rw [z]; exact List.mem_cons_self ..
   . have hl:=zlO (l:=x :: l) (by simp)
     refine List.mem_cons_of_mem _ (zfC n _ (by lia) y (List.mem_filter.mpr ⟨hy,by simp [z]⟩))
def zaH (xs : List Rat) (w : Nat) : Nat:=(zaj xs).idxOf (xs.getD w 0)
theorem zhD {xs : List Rat} {y : Rat} (h : y ∈ xs) : y ∈ zaj xs:=zfC _ _ (Nat.le_refl _) y h
theorem znv {xs : List Rat} {y : Rat} (h : y ∈ zaj xs) : y ∈ xs:=zdY _ _ y h
theorem zgU (xs : List Rat) : zfy xs (zaj xs) (zaH xs):=by
 have key : ∀ w,w < xs.length -> zaH xs w < (zaj xs).length:=fun w hw=>List.idxOf_lt_length_of_mem (zhD (getD_mem hw))
 refine ⟨fun w hw=>?_,key⟩
 rw [List.getD_eq_getElem?_getD (l:=zaj xs),List.getElem?_eq_getElem (key w hw)]
 exact (List.getElem_idxOf (key w hw)).symm
theorem ztd {xs : List Rat} {w c : Nat} (hw : w < xs.length) (hc : c < (zaj xs).length) : zaH xs w = c ↔ xs.getD w 0 = (zaj xs).getD c 0:=by
 have P:=zgU xs
 have e:=P.at' w hw
 have hl:=P.lt w hw
 constructor
 . rintro rfl; exact e
 . intro h
   rw [e] at h
   rcases Nat.lt_trichotomy (zaH xs w) c with z | z | z
   . have:=(List.pairwise_iff_getElem.mp (zbB xs.length xs)) (zaH xs w) c hl hc z
     rw [List.getD_eq_getElem?_getD,List.getElem?_eq_getElem hl,List.getD_eq_getElem?_getD,List.getElem?_eq_getElem hc] at h
     have h : (zaj xs)[zaH xs w] = (zaj xs)[c]:=h
     have this : (zaj xs)[c] < (zaj xs)[zaH xs w]:=this
     rw [h] at this
     exact absurd this (by grind)
   . exact z
   . have:=(List.pairwise_iff_getElem.mp (zbB xs.length xs)) c (zaH xs w) hc hl z
     rw [List.getD_eq_getElem?_getD,List.getElem?_eq_getElem hl,List.getD_eq_getElem?_getD,List.getElem?_eq_getElem hc] at h
     have h : (zaj xs)[zaH xs w] = (zaj xs)[c]:=h
     have this : (zaj xs)[zaH xs w] < (zaj xs)[c]:=this
     rw [h] at this
     exact absurd this (by grind)
def zhx (xs : List Rat) : List Int:=(zaj xs).map fun v=>((znq xs v).length : Int)
end GM
namespace GM
theorem zlK : ∀ {l m : List Rat},l.Pairwise (· > ·) -> m.Pairwise (· > ·) -> (∀ y,y ∈ l ↔ y ∈ m) -> l = m
 | [],[],_,_,_=>rfl
 | [],y :: m,_,_,h=>by have:=(h y).mpr (List.mem_cons_self ..); cases this
 | x :: l,[],_,_,h=>by have:=(h x).mp (List.mem_cons_self ..); cases this
 | x :: l,y :: m,hl,hm,h=>by
   have pl:=List.pairwise_cons.mp hl
   have pm:=List.pairwise_cons.mp hm
   have e : x = y:=by
     rcases List.mem_cons.mp ((h x).mp (List.mem_cons_self ..)) with z | z
     . exact z
     . rcases List.mem_cons.mp ((h y).mpr (List.mem_cons_self ..)) with z2 | z2
       . exact z2.symm
       . have a1 : x < y:=pm.1 x z
         have a2 : y < x:=pl.1 y z2
         grind
   subst e
   rw [zlK pl.2 pm.2 fun z=>⟨fun hz=>?_,fun hz=>?_⟩]
   . rcases List.mem_cons.mp ((h z).mp (List.mem_cons_of_mem _ hz)) with e | e
     . have : z < x:=pl.1 z hz
       rw [e] at this
       exact absurd this (by grind)
     . exact e
   . rcases List.mem_cons.mp ((h z).mpr (List.mem_cons_of_mem _ hz)) with e | e
     . have : z < x:=pm.1 z hz
       rw [e] at this
       exact absurd this (by grind)
     . exact e
theorem zle {ys row : List Rat} {fl : Nat -> Nat} (P : zfy ys row fl) (F : row.Pairwise (· > ·)) (some : ∀ c,c < row.length -> ∃ w,w < ys.length /\ fl w = c) : zaj ys = row:=by
 refine zlK (zbB _ _) F fun y=>⟨fun h=>?_,fun h=>?_⟩
 . obtain ⟨w,hw,e⟩:=List.getElem_of_mem (znv h)
   have ea:=P.at' w hw
   rw [List.getD_eq_getElem?_getD,List.getElem?_eq_getElem hw] at ea
   have ea : ys[w] = row.getD (fl w) 0:=ea
   rw [<- e,ea]
   exact getD_mem (P.lt w hw)
 . obtain ⟨c,hc,e⟩:=List.getElem_of_mem h
   obtain ⟨w,hw,hf⟩:=some c hc
   have ea:=P.at' w hw
   rw [hf,List.getD_eq_getElem?_getD (l:=row),List.getElem?_eq_getElem hc] at ea
   have ea : ys.getD w 0 = row[c]:=ea
   rw [<- e,<- ea]
   exact zhD (getD_mem hw)
def zrV (a b : Rat) (ns : List Int) (row : List Rat) : Nat -> Rat
 | 0=>0
 | k + 1=>zrV a b ns row k + (1 - (zmm a b ns row k).getD k 0)
end GM
namespace GM
theorem zjL {a b : Rat} (a0 : 0 < a) (b0 : 0 <= b) : ∀ n : Nat,0 <= shf a b n
 | 0=>Rat.le_refl
 | n + 1=>by
   have h1:=zjL a0 b0 n
   have h2:=Rat.mul_nonneg (Rat.le_of_lt a0) h1
   show 0 <= a * shf a b n + b
   grind
theorem ziQ {a b : Rat} (a0 : 0 < a) (b0 : 0 <= b) : ∀ (n : Nat) (ps : List Rat) (left : List Nat),left.length <= n -> left.Nodup -> (∀ w ∈ left,w < ps.length) -> (∀ w ∈ left,0 <= ps.getD w 0) ->
   ∀ w ∈ (zau a b n ps left).2.1,w ∈ left /\ 0 <= (zau a b n ps left).2.2.getD w 0 /\ (zau a b n ps left).2.2.getD w 0 < 1
 | 0,ps,left,hn,_,_,_=>by
   have : left = []:=List.length_eq_zero_iff.mp (by lia)
   subst this
   intro w hw
   cases (show w ∈ ([] : List Nat) from hw)
 | n + 1,ps,left,hn,nd,hlt,nn=>by
   by_cases e : zah ps left = []
   . rw [zbN e]
     intro w hw
     have hw : w ∈ left:=hw
     refine ⟨hw,nn w hw,?_⟩
     have : ¬ w ∈ zah ps left:=by rw [e]; simp
     unfold zah at this
     rw [List.mem_filter] at this
     show ps.getD w 0 < 1
     by_cases z : ps.getD w 0 < 1
     . exact z
     . exact absurd ⟨hw,by simp only [z,decide_false,Bool.not_false]⟩ this
   . rw [zbd e]
     have hl:=ziu ps left
     have hp:=List.length_pos_iff.mpr e
     have nd' : (zat left (zah ps left)).Nodup:=zb2 nd
     have lt' : ∀ w ∈ zat left (zah ps left),w < (zaN (a ^ (zah ps left).length) (shf a b (zah ps left).length) ps (zat left (zah ps left))).length:=fun w hw=>by rw [za6]; exact zcD hlt w hw
     have ih:=ziQ a0 b0 n (zaN (a ^ (zah ps left).length) (shf a b (zah ps left).length) ps (zat left (zah ps left))) (zat left (zah ps left)) (by lia) nd' lt' (fun w hw=>by
       rw [zbK _ _ _ _ nd' (zcD hlt),if_pos hw]
       have h1:=nn w (List.mem_filter.mp hw).1
       have h2:=Rat.mul_nonneg (Rat.le_of_lt (zhW a0 (zah ps left).length)) h1
       have h3:=zjL a0 b0 (zah ps left).length
       grind)
     intro w hw
     have:=ih w hw
     exact ⟨(List.mem_filter.mp this.1).1,this.2⟩
theorem zpp {xs : List Rat} (nn : ∀ x ∈ xs,0 <= x) (lt : ∀ x ∈ xs,x < 1) {w : Nat} (hw : w < xs.length) : 0 <= (za5 xs).getD w 0:=by
 have h1:=zbh (xs:=xs) (by lia)
 have h2:=lt _ h1
 have h3:=nn _ (getD_mem (d:=0) hw)
 unfold za5
 rw [zgC hw]
 grind
theorem zjo {a b : Rat} (a0 : 0 < a) (b0 : 0 <= b) {xs : List Rat} (nn : ∀ x ∈ xs,0 <= x) (lt : ∀ x ∈ xs,x < 1) : ∀ y ∈ zbf a b xs,0 <= y /\ y < 1:=fun y hy=>by
 obtain ⟨j,hj,e⟩:=List.getElem_of_mem hy
 have hlen:=zbI a b xs
 have hjx : j < xs.length:=by lia
 have hpl : (zdo a b xs).2.2.length = xs.length:=by
   unfold zdo; rw [zc2,za1]
 have e2 : (zbf a b xs).getD j 0 = y:=by rw [List.getD_eq_getElem?_getD,List.getElem?_eq_getElem hj]; exact e
 unfold zbf at e2
 rw [zfI (by lia)] at e2
 split at e2
 . rename_i hm
   have:=ziQ a0 b0 xs.length (za5 xs) (List.range xs.length) (by simp) List.nodup_range (fun w hw=>by rw [za1]; exact List.mem_range.mp hw) (fun w hw=>zpp nn lt (List.mem_range.mp hw)) j hm
   rw [<- e2]
   exact this.2
 . rw [<- e2]; exact ⟨Rat.le_refl,by decide⟩
structure zcW (xs : List Rat) : Prop where
 nn : ∀ x ∈ xs,0 <= x
 lt : ∀ x ∈ xs,x < 1
theorem zcW.glow {a b : Rat} (a0 : 0 < a) (b0 : 0 <= b) {xs : List Rat} (h : zcW xs) : zcW (zbf a b xs):=⟨fun y hy=>(zjo a0 b0 h.nn h.lt y hy).1,fun y hy=>(zjo a0 b0 h.nn h.lt y hy).2⟩
theorem zcW.at {a b : Rat} (a0 : 0 < a) (b0 : 0 <= b) {xs : List Rat} (h : zcW xs) : ∀ k,zcW (zaP a b xs k)
 | 0=>h
 | k + 1=>(zcW.at a0 b0 h k).glow a0 b0
theorem zoE {xs : List Rat} (h1 : 1 <= xs.length) : 1 <= (zaj xs).length:=by
 have:=zhD (getD_mem (d:=0) (show 0 < xs.length by lia))
 exact List.length_pos_of_mem this
structure zuT (a b : Rat) (xs : List Rat) : Prop where
 waves : ∀ t,t < (zaj xs).length -> zbj a b (zaP a b xs t) = [znq xs ((zaj xs).getD t 0)]
 vals : zaj (zaP a b xs (zaj xs).length) = zmm a b (zhx xs) (zaj xs) (zaj xs).length
 sizes : zhx (zaP a b xs (zaj xs).length) = zhx xs
 hour : zaF a b xs (zaj xs).length = zrV a b (zhx xs) (zaj xs) (zaj xs).length
end GM
namespace GM
def zkI : List Int -> List Rat -> List Rat
 | n :: ns,x :: xs=>List.replicate n.toNat x ++ zkI ns xs
 | _,_=>[]
structure zuR (zs : List Rat) (ns : List Int) (row : List Rat) : Prop where
 perm : zs.Perm (zkI ns row)
 len : ns.length = row.length
 pos : ∀ n ∈ ns,1 <= n
 fall : row.Pairwise (· > ·)
end GM
set_option linter.all false
namespace GM
def seg (n : Nat) (fl : Nat -> Nat) (s t : Nat) : List Nat:=(List.range n).filter fun w=>decide (s <= fl w) && decide (fl w < t)
theorem zbH {n : Nat} {fl : Nat -> Nat} {s t w : Nat} : w ∈ seg n fl s t ↔ w < n /\ s <= fl w /\ fl w < t:=by
 unfold seg
 rw [List.mem_filter,List.mem_range,Bool.and_eq_true,decide_eq_true_eq,decide_eq_true_eq]
theorem zjk (n : Nat) (fl : Nat -> Nat) (s t : Nat) : (seg n fl s t).Nodup:=List.nodup_range.filter _
theorem zop {n : Nat} {fl : Nat -> Nat} {s t u : Nat} (h1 : s <= t) (h2 : t <= u) : (seg n fl s t ++ seg n fl t u).Perm (seg n fl s u):=by
 have e1 : (seg n fl s u).filter (fun w=>decide (fl w < t)) = seg n fl s t:=by
   unfold seg
   rw [List.filter_filter]
   refine List.filter_congr fun w _=>?_
   rw [Bool.eq_iff_iff]
   simp only [Bool.and_eq_true,decide_eq_true_eq]
   lia
 have e2 : (seg n fl s u).filter (fun w=>!decide (fl w < t)) = seg n fl t u:=by
   unfold seg
   rw [List.filter_filter]
   refine List.filter_congr fun w _=>?_
   rw [Bool.eq_iff_iff]
   simp only [Bool.and_eq_true,Bool.not_eq_true',decide_eq_true_eq,decide_eq_false_iff_not]
   lia
 have:=List.filter_append_perm (fun w=>decide (fl w < t)) (seg n fl s u)
 rw [e1,e2] at this
 exact this
theorem znd (n : Nat) (fl : Nat -> Nat) (s : Nat) : seg n fl s s = []:=by
 unfold seg
 rw [List.filter_eq_nil_iff]
 intro w _
 simp only [Bool.and_eq_true,decide_eq_true_eq]
 lia
inductive ziH (n : Nat) (fl : Nat -> Nat) : Nat -> List (List Nat) -> Nat -> Prop
 | nil (t : Nat) : ziH n fl t [] t
 | cons {t u v : Nat} {ws : List (List Nat)} : t < u -> ziH n fl u ws v -> ziH n fl t (seg n fl t u :: ws) v
theorem ziH.le {n : Nat} {fl : Nat -> Nat} {t v : Nat} {ws : List (List Nat)} (h : ziH n fl t ws v) : t <= v:=by
 induction h with
 | nil t=>exact Nat.le_refl t
 | cons h _ ih=>lia
theorem ziH.perm {n : Nat} {fl : Nat -> Nat} {t v : Nat} {ws : List (List Nat)} (h : ziH n fl t ws v) : ws.flatten.Perm (seg n fl t v):=by
 induction h with
 | nil t=>rw [znd]; exact List.Perm.refl _
 | cons h k ih =>
   rw [List.flatten_cons]
   exact (List.Perm.append_left _ ih).trans (zop (by lia) k.le)
theorem zh2 (p : Nat -> Prop) [DecidablePred p] (t : Nat) : ∀ m : Nat,t <= m -> (∀ c d,t <= c -> c <= d -> d < m -> p d -> p c) -> ∃ u,t <= u /\ u <= m /\ ∀ c,t <= c -> c < m -> (p c ↔ c < u)
 | 0,h,_=>⟨0,h,Nat.le_refl 0,fun c _ hc=>absurd hc (by lia)⟩
 | m + 1,h,mono=>by
   rcases Nat.lt_or_ge m t with z | z
   . exact ⟨m + 1,h,Nat.le_refl _,fun c h1 h2=>absurd h2 (by lia)⟩
   . by_cases q : p m
     . exact ⟨m + 1,h,Nat.le_refl _,fun c h1 h2=>⟨fun _=>h2,fun _=>mono c m h1 (by lia) (by lia) q⟩⟩
     . obtain ⟨u,u1,u2,hu⟩:=zh2 p t m z (fun c d h1 h2 h3=>mono c d h1 h2 (by lia))
       refine ⟨u,u1,by lia,fun c h1 h2=>?_⟩
       rcases Nat.lt_or_ge c m with y | y
       . exact hu c h1 y
       . have : c = m:=by lia
         subst this
         exact ⟨fun k=>absurd k q,fun k=>absurd k (by lia)⟩
theorem znz {row : List Rat} (F : row.Pairwise (· > ·)) {c d : Nat} (h : c < d) (hd : d < row.length) : row.getD d 0 < row.getD c 0:=by
 have:=List.pairwise_iff_getElem.mp F c d (by lia) hd h
 rw [List.getD_eq_getElem?_getD,List.getElem?_eq_getElem hd,List.getD_eq_getElem?_getD,List.getElem?_eq_getElem (by lia)]
 exact this
theorem zrh {row : List Rat} (F : row.Pairwise (· > ·)) {c d : Nat} (h : c <= d) (hd : d < row.length) : row.getD d 0 <= row.getD c 0:=by
 rcases Nat.lt_or_ge c d with z | z
 . exact Rat.le_of_lt (znz F z hd)
 . rw [show c = d by lia]; exact Rat.le_refl
theorem zjn {a b : Rat} (a0 : 0 < a) (b0 : 0 <= b) {row : List Rat} {fl : Nat -> Nat} {N : Nat} (F : row.Pairwise (· > ·)) : ∀ (n : Nat) (ps : List Rat) (t : Nat) (A B : Rat),t <= row.length -> ps.length = N -> 0 < A -> (∀ w ∈ seg N fl t row.length,ps.getD w 0 = A * row.getD (fl w) 0 + B /\ 0 < ps.getD w 0) ->
   ∃ (v : Nat) (A' B' : Rat),v <= row.length /\ 0 < A' /\ ziH N fl t (zau a b n ps (seg N fl t row.length)).1 v /\ (zau a b n ps (seg N fl t row.length)).2.1 = seg N fl v row.length /\
     ∀ w ∈ seg N fl v row.length,(zau a b n ps (seg N fl t row.length)).2.2.getD w 0 = A' * row.getD (fl w) 0 + B' /\ 0 < A' * row.getD (fl w) 0 + B'
 | 0,ps,t,A,B,ht,hl,hA,hw=>⟨t,A,B,ht,hA,.nil t,rfl,fun w h=>⟨(hw w h).1,by rw [<- (hw w h).1]; exact (hw w h).2⟩⟩
 | n + 1,ps,t,A,B,ht,hl,hA,hw=>by
   by_cases e : zah ps (seg N fl t row.length) = []
   . rw [zbN e]
     exact ⟨t,A,B,ht,hA,.nil t,rfl,fun w h=>⟨(hw w h).1,by rw [<- (hw w h).1]; exact (hw w h).2⟩⟩
   . obtain ⟨u,u1,u2,hu⟩:=zh2 (fun c=>¬ A * row.getD c 0 + B < 1) t row.length ht (fun c d h1 h2 h3 hp=>by
       have:=Rat.mul_le_mul_of_nonneg_left (zrh F h2 h3) (Rat.le_of_lt hA)
       have hp : ¬ A * row.getD d 0 + B < 1:=hp
       show ¬ A * row.getD c 0 + B < 1
       grind)
     have eE : zah ps (seg N fl t row.length) = seg N fl t u:=by
       unfold zah
       have : (seg N fl t row.length).filter (fun w=>!decide (ps.getD w 0 < 1)) = (seg N fl t row.length).filter (fun w=>decide (fl w < u)):=by
         refine List.filter_congr fun w h=>?_
         have h1:=hw w h
         have h2:=zbH.mp h
         rw [Bool.eq_iff_iff,Bool.not_eq_true',decide_eq_false_iff_not,decide_eq_true_eq,h1.1]
         exact hu (fl w) h2.2.1 h2.2.2
       rw [this]
       unfold seg
       rw [List.filter_filter]
       refine List.filter_congr fun w _=>?_
       rw [Bool.eq_iff_iff]
       simp only [Bool.and_eq_true,decide_eq_true_eq]
       lia
     have eL : zat (seg N fl t row.length) (seg N fl t u) = seg N fl u row.length:=by
       unfold zat
       have : (seg N fl t row.length).filter (fun w=>!decide (w ∈ seg N fl t u)) = (seg N fl t row.length).filter (fun w=>!decide (fl w < u)):=by
         refine List.filter_congr fun w h=>?_
         have h2:=zbH.mp h
         rw [Bool.eq_iff_iff,Bool.not_eq_true',Bool.not_eq_true',decide_eq_false_iff_not,decide_eq_false_iff_not,zbH]
         constructor
         . intro k y; exact k ⟨h2.1,h2.2.1,y⟩
         . intro k y; exact k y.2.2
       rw [this]
       unfold seg
       rw [List.filter_filter]
       refine List.filter_congr fun w _=>?_
       rw [Bool.eq_iff_iff]
       simp only [Bool.and_eq_true,Bool.not_eq_true',decide_eq_true_eq,decide_eq_false_iff_not]
       lia
     have htu : t < u:=by
       rcases Nat.lt_or_ge t u with z | z
       . exact z
       . have : u = t:=by lia
         rw [eE,this,znd] at e
         exact absurd rfl e
     rw [zbd e,eE,eL]
     have hf:=zhW a0 (seg N fl t u).length
     have hg:=zjL a0 b0 (seg N fl t u).length
     generalize a ^ (seg N fl t u).length = f at *
     generalize shf a b (seg N fl t u).length = g at *
     have hA' : 0 < f * A:=Rat.mul_pos hf hA
     obtain ⟨v,A',B',hv,hA2,hs,hl2,hw2⟩:=zjn (fl:=fl) (N:=N) a0 b0 F n (zaN f g ps (seg N fl u row.length)) u (f * A) (f * B + g) u2 (by rw [za6]; exact hl) hA' (fun w h=>by
       have hm:=zbH.mp h
       have h1:=hw w (zbH.mpr ⟨hm.1,by lia,hm.2.2⟩)
       have h3:=Rat.mul_pos hf h1.2
       rw [zbK _ _ _ _ (zjk ..) (fun w h=>by rw [hl]; exact (zbH.mp h).1),if_pos h]
       refine ⟨by rw [h1.1]; grind,by grind⟩)
     exact ⟨v,A',B',hv,hA2,.cons htu hs,hl2,hw2⟩
structure zmd (xs ys : List Rat) (waves : List (List Nat)) (v : Nat) : Prop where
 v1 : 1 <= v
 vm : v <= (zaj xs).length
 first : ∃ ws,waves = seg xs.length (zaH xs) 0 1 :: ws /\ ziH xs.length (zaH xs) 1 ws v
 vals : ∃ (A B : Rat),0 < A /\ zaj ys = ((zaj xs).drop v).map (fun x=>A * x + B) ++ [0] /\ (∀ x ∈ (zaj xs).drop v,0 < A * x + B)
 at' : zfy ys (zaj ys) (fun w=>if zaH xs w < v then (zaj xs).length - v else zaH xs w - v)
 len : ys.length = xs.length
theorem zk9 {l : List Rat} {v c : Nat} : (l.drop v).getD c 0 = l.getD (v + c) 0:=by
 rw [List.getD_eq_getElem?_getD,List.getElem?_drop,List.getD_eq_getElem?_getD]
theorem zcB {xs : List Rat} {c : Nat} (hc : c < (zaj xs).length) : ∃ w,w < xs.length /\ zaH xs w = c:=by
 have hm : (zaj xs).getD c 0 ∈ xs:=znv (getD_mem hc)
 obtain ⟨w,hw,e⟩:=List.getElem_of_mem hm
 refine ⟨w,hw,(ztd hw hc).mpr ?_⟩
 rw [List.getD_eq_getElem?_getD,List.getElem?_eq_getElem hw]
 exact e
theorem zsP {a b : Rat} (a0 : 0 < a) (b0 : 0 <= b) {xs : List Rat} (h1 : 1 <= xs.length) (nn : ∀ x ∈ xs,0 <= x) (lt : ∀ x ∈ xs,x < 1) : ∃ v,zmd xs (zbf a b xs) (zbj a b xs) v:=by
 have P:=zgU xs
 have F : (zaj xs).Pairwise (· > ·):=zbB xs.length xs
 have m1:=zoE h1
 have top : ∀ j,j < (zaj xs).length -> j ≠ 0 -> (zaj xs).getD j 0 < (zaj xs).getD 0 0:=fun j hj h0=>znz F (by lia) hj
 have he:=zmI P (zcB m1) top
 have hmax:=zhB P (zcB m1) top
 have hmx1 : zbv xs < 1:=lt _ (zbh h1)
 have e01 : zoJ xs.length (zaH xs) 0 = seg xs.length (zaH xs) 0 1:=by
   unfold zoJ seg
   refine List.filter_congr fun w _=>?_
   rw [Bool.eq_iff_iff]
   simp only [Bool.and_eq_true,decide_eq_true_eq]
   lia
 rw [e01] at he
 have hr : List.range xs.length = seg xs.length (zaH xs) 0 (zaj xs).length:=by
   unfold seg
   symm
   rw [List.filter_eq_self]
   intro w hw
   have:=P.lt w (List.mem_range.mp hw)
   simp only [Bool.and_eq_true,decide_eq_true_eq]
   lia
 have hne : zah (za5 xs) (List.range xs.length) ≠ []:=fun e=>by
   obtain ⟨w,hw,hf⟩:=zcB m1
   rw [he] at e
   have : w ∈ seg xs.length (zaH xs) 0 1:=zbH.mpr ⟨hw,by lia,by lia⟩
   rw [e] at this; cases this
 obtain ⟨n,hn⟩ : ∃ n,xs.length = n + 1:=⟨xs.length - 1,by lia⟩
 have eL : zat (List.range xs.length) (seg xs.length (zaH xs) 0 1) = seg xs.length (zaH xs) 1 (zaj xs).length:=by
   unfold zat seg
   refine List.filter_congr fun w hw=>?_
   have h2:=P.lt w (List.mem_range.mp hw)
   rw [Bool.eq_iff_iff,Bool.not_eq_true',decide_eq_false_iff_not]
   have : w ∈ (List.range xs.length).filter (fun w=>decide (0 <= zaH xs w) && decide (zaH xs w < 1)) ↔ zaH xs w < 1:=by
     rw [List.mem_filter,Bool.and_eq_true,decide_eq_true_eq,decide_eq_true_eq]
     exact ⟨fun h=>h.2.2,fun h=>⟨hw,by lia,h⟩⟩
   rw [this]
   simp only [Bool.and_eq_true,decide_eq_true_eq]
   lia
 have hf:=zhW a0 (seg xs.length (zaH xs) 0 1).length
 have hg:=zjL a0 b0 (seg xs.length (zaH xs) 0 1).length
 have eR : zdo a b xs = (seg xs.length (zaH xs) 0 1 :: (zau a b n (zaN (a ^ (seg xs.length (zaH xs) 0 1).length) (shf a b (seg xs.length (zaH xs) 0 1).length) (za5 xs) (seg xs.length (zaH xs) 1 (zaj xs).length)) (seg xs.length (zaH xs) 1 (zaj xs).length)).1,(zau a b n (zaN (a ^ (seg xs.length (zaH xs) 0 1).length) (shf a b (seg xs.length (zaH xs) 0 1).length) (za5 xs) (seg xs.length (zaH xs) 1 (zaj xs).length)) (seg xs.length (zaH xs) 1 (zaj xs).length)).2):=by
   unfold zdo
   have e : zau a b xs.length (za5 xs) (List.range xs.length) = zau a b (n + 1) (za5 xs) (List.range xs.length):=by rw [<- hn]
   rw [e,zbd hne,he,eL]
 generalize a ^ (seg xs.length (zaH xs) 0 1).length = f at *
 generalize shf a b (seg xs.length (zaH xs) 0 1).length = g at *
 obtain ⟨v,A,B,hv,hA,hs,hl2,hw2⟩:=zjn (fl:=zaH xs) (N:=xs.length) a0 b0 F n (zaN f g (za5 xs) (seg xs.length (zaH xs) 1 (zaj xs).length)) 1 f (f * (1 - zbv xs) + g) m1 (by rw [za6,za1]) hf (fun w h=>by
   have hm:=zbH.mp h
   rw [zbK _ _ _ _ (zjk ..) (fun w h=>by rw [za1]; exact (zbH.mp h).1),if_pos h]
   have e : (za5 xs).getD w 0 = (zaj xs).getD (zaH xs w) 0 + (1 - zbv xs):=by
     unfold za5
     rw [zgC hm.1,P.at' w hm.1]
   have hx:=nn _ (getD_mem (d:=0) hm.1)
   rw [P.at' w hm.1] at hx
   have h3:=Rat.mul_pos hf (show 0 < (zaj xs).getD (zaH xs w) 0 + (1 - zbv xs) by grind)
   rw [e]
   exact ⟨by grind,by grind⟩)
 have v1:=hs.le
 have ePh : ∀ w,w < xs.length -> (zbf a b xs).getD w 0 = if zaH xs w < v then 0 else A * (zaj xs).getD (zaH xs w) 0 + B:=fun w hw=>by
   have hpl : (zdo a b xs).2.2.length = xs.length:=by unfold zdo; rw [zc2,za1]
   unfold zbf
   rw [zfI (by lia),eR]
   show (if w ∈ (zau a b n _ _).2.1 then _ else _) = _
   rw [hl2]
   by_cases z : zaH xs w < v
   . rw [if_neg (fun h=>by have:=(zbH.mp h).2.1; lia),if_pos z]
   . have hmem : w ∈ seg xs.length (zaH xs) v (zaj xs).length:=zbH.mpr ⟨hw,by lia,P.lt w hw⟩
     rw [if_pos hmem,if_neg z]
     exact (hw2 w hmem).1
 have posd : ∀ x ∈ (zaj xs).drop v,0 < A * x + B:=fun x hx=>by
   obtain ⟨c,hc,e⟩:=List.getElem_of_mem hx
   rw [List.length_drop] at hc
   obtain ⟨w,hw,hfw⟩:=zcB (xs:=xs) (c:=v + c) (by lia)
   have:=(hw2 w (zbH.mpr ⟨hw,by lia,P.lt w hw⟩)).2
   rw [hfw,<- zk9,List.getD_eq_getElem?_getD,List.getElem?_eq_getElem (by rw [List.length_drop]; lia)] at this
   rw [<- e]; exact this
 have rlen : (((zaj xs).drop v).map (fun x=>A * x + B) ++ [0]).length = (zaj xs).length - v + 1:=by simp
 have rget : ∀ c,c < (zaj xs).length - v -> (((zaj xs).drop v).map (fun x=>A * x + B) ++ [0]).getD c 0 = A * (zaj xs).getD (v + c) 0 + B:=fun c hc=>by
   rw [List.getD_eq_getElem?_getD,List.getElem?_append_left (by simp; lia),<- List.getD_eq_getElem?_getD,zgC (by rw [List.length_drop]; lia),zk9]
 have rlast : (((zaj xs).drop v).map (fun x=>A * x + B) ++ [0]).getD ((zaj xs).length - v) 0 = 0:=by
   rw [List.getD_eq_getElem?_getD,List.getElem?_append_right (by simp)]
   simp
 have P2 : zfy (zbf a b xs) (((zaj xs).drop v).map (fun x=>A * x + B) ++ [0]) (fun w=>if zaH xs w < v then (zaj xs).length - v else zaH xs w - v):=by
   refine ⟨fun w hw=>?_,fun w hw=>?_⟩
   . rw [zbI] at hw
     rw [ePh w hw]
     have:=P.lt w hw
     by_cases z : zaH xs w < v
     . simp only [z,if_true]
       exact rlast.symm
     . simp only [z,if_false]
       rw [rget _ (by lia),show v + (zaH xs w - v) = zaH xs w by lia]
   . rw [zbI] at hw
     have:=P.lt w hw
     rw [rlen]
     show (if zaH xs w < v then _ else _) < _
     split <;> lia
 have F2 : (((zaj xs).drop v).map (fun x=>A * x + B) ++ [0]).Pairwise (· > ·):=by
   rw [List.pairwise_append]
   refine ⟨?_,List.pairwise_singleton _ _,fun x hx y hy=>?_⟩
   . rw [List.pairwise_map]
     refine (List.Pairwise.drop F).imp fun {x y} h=>?_
     have:=Rat.mul_lt_mul_of_pos_left (show y < x from h) hA
     show A * y + B < A * x + B
     grind
   . obtain ⟨z,hz,rfl⟩:=List.mem_map.mp hx
     rw [List.mem_singleton.mp hy]
     exact posd z hz
 have eV : zaj (zbf a b xs) = ((zaj xs).drop v).map (fun x=>A * x + B) ++ [0]:=zle P2 F2 fun c hc=>by
   rw [rlen] at hc
   rcases Nat.lt_or_ge c ((zaj xs).length - v) with z | z
   . obtain ⟨w,hw,hfw⟩:=zcB (xs:=xs) (c:=v + c) (by lia)
     refine ⟨w,by rw [zbI]; exact hw,?_⟩
     show (if zaH xs w < v then _ else _) = _
     rw [hfw,if_neg (by lia)]
     lia
   . obtain ⟨w,hw,hfw⟩:=zcB m1
     refine ⟨w,by rw [zbI]; exact hw,?_⟩
     show (if zaH xs w < v then _ else _) = _
     rw [hfw,if_pos (by lia)]
     lia
 refine ⟨v,v1,hv,⟨_,by unfold zbj; rw [eR],hs⟩,⟨A,B,hA,eV,posd⟩,by rw [eV]; exact P2,zbI ..⟩
theorem zmd.perm {xs ys : List Rat} {waves : List (List Nat)} {v : Nat} (J : zmd xs ys waves v) : waves.flatten.Perm (seg xs.length (zaH xs) 0 v):=by
 obtain ⟨ws,e,s⟩:=J.first
 rw [e]
 exact (ziH.cons (by decide) s).perm
end GM
set_option Elab.async false
set_option linter.all false
set_option maxRecDepth 100000
namespace L2
open PySem PySem.Spec PyProof.Rows GM
section
variable {K : PySem.W.Frag} {H H' H2 : Hp} {a p : Addr} {xs ys : List V} {o : HO}
theorem zag.upd (h : H p = none) : zag H (upd H p o):=fun b u e=>by
 rw [zaG (zaQ e h)]
 exact e
theorem zag.sqT (s : zag H H') (h : SqT K H a xs) : SqT K H' a xs:=by
 rcases h with (h | ⟨o,h⟩) | h
 . exact .inl (.inl (s _ _ h))
 . exact .inl (.inr ⟨o,s _ _ h⟩)
 . exact .inr h
structure zaO (H H' : Hp) : Prop where
 t : ∀ b xs,H b = some (.tup xs) -> H' b = some (.tup xs)
 f : ∀ b o u,H b = some (.frz o u) -> H' b = some (.frz o u)
theorem zag.keep (s : zag H H') : zaO H H':=⟨fun b xs h=>s _ _ h,fun b o u h=>s _ _ h⟩
theorem zaO.refl (H : Hp) : zaO H H:=(zag.refl H).keep
theorem zaO.trans (a : zaO H H') (b : zaO H' H2) : zaO H H2:=⟨fun c xs h=>b.t _ _ (a.t _ _ h),fun c o u h=>b.f _ _ _ (a.f _ _ _ h)⟩
theorem zaO.sqT (k : zaO H H') (h : SqT K H a xs) : SqT K H' a xs:=by
 rcases h with (h | ⟨o,h⟩) | h
 . exact .inl (.inl (k.t _ _ h))
 . exact .inl (.inr ⟨o,k.f _ _ _ h⟩)
 . exact .inr h
def SqF (K : PySem.W.Frag) (H : Hp) (a : Addr) (xs : List V) : Prop :=
 (∃ o,H a = some (.frz o (.lst xs))) \/
   ∃ (o : Obj) (its : Array Value) (n : Nat),K.lookup a = some o /\ o.cls = .type "list" /\ o.dict = none /\ o.data = .seq its n /\ its.size <= sizeLine /\ zav xs its.toList
theorem SqF.sq (h : SqF K H a xs) : SqL K H a xs:=by
 rcases h with ⟨o,h⟩ | h
 . exact .inl (.inr ⟨o,h⟩)
 . exact .inr h
theorem zaO.sqF (k : zaO H H') (h : SqF K H a xs) : SqF K H' a xs:=by
 rcases h with ⟨o,h⟩ | h
 . exact .inl ⟨o,k.f _ _ _ h⟩
 . exact .inr h
def Exc (p : Addr) (H H' : Hp) : Prop:=∀ b o,b ≠ p -> H b = some o -> H' b = some o
theorem Exc.keep (e : Exc p H H') (h : H p = some (.lst xs)) : zaO H H' :=
 ⟨fun b ys hb=>e b _ (zsb hb h (by intro z; cases z)) hb,fun b o u hb=>e b _ (zsb hb h (by intro z; cases z)) hb⟩
theorem zag.exc (s : zag H H') : Exc p H H':=fun b o _ h=>s b o h
theorem Exc.refl (p : Addr) (H : Hp) : Exc p H H:=fun _ _ _ h=>h
theorem Exc.trans (a : Exc p H H') (b : Exc p H' H2) : Exc p H H2:=fun c o n h=>b c o n (a c o n h)
theorem Exc.upd (p : Addr) (H : Hp) (o : HO) : Exc p H (upd H p o):=fun b u n h=>by
 rw [zaG n]
 exact h
theorem Exc.at (e : Exc p H H') {q : Addr} {u : HO} (n : q ≠ p) (h : H q = some u) : H' q = some u:=e q u n h
end
mutual
def Is (K : PySem.W.Frag) (H : Hp) : V -> PyData -> Prop
 | v,.none=>v = .non
 | v,.bool b=>v = .bl b
 | v,.int i=>v = .int i
 | v,.str x=>v = .str x
 | v,.tuple ds=>∃ a xs,v = .ref a /\ SqT K H a xs /\ IsAll K H xs ds
 | v,.list ds=>∃ a xs,v = .ref a /\ SqL K H a xs /\ IsAll K H xs ds
 | v,.dict _=>∃ a kvs,v = .ref a /\ H a = some (.dK kvs)
def IsAll (K : PySem.W.Frag) (H : Hp) : List V -> List PyData -> Prop
 | xs,[]=>xs = []
 | xs,d :: ds=>∃ x r,xs = x :: r /\ Is K H x d /\ IsAll K H r ds
end
section
variable {K : PySem.W.Frag} {H H' : Hp} {v : V} {xs : List V} {ds : List PyData} {d : PyData}
theorem zaR {i : Int} : Is K H v (.int i) ↔ v = .int i:=by rw [Is]
theorem zce {b : Bool} : Is K H v (.bool b) ↔ v = .bl b:=by rw [Is]
theorem zcQ {x : Str} : Is K H v (.str x) ↔ v = .str x:=by rw [Is]
theorem zeP : Is K H v .none ↔ v = .non:=by rw [Is]
theorem zaY : Is K H v (.tuple ds) ↔ ∃ a xs,v = .ref a /\ SqT K H a xs /\ IsAll K H xs ds:=by rw [Is]
theorem zbk : Is K H v (.list ds) ↔ ∃ a xs,v = .ref a /\ SqL K H a xs /\ IsAll K H xs ds:=by rw [Is]
theorem zkt {kv : List (PyData × PyData)} : Is K H v (.dict kv) ↔ ∃ a kvs,v = .ref a /\ H a = some (.dK kvs):=by rw [Is]
theorem zbw : IsAll K H xs [] ↔ xs = []:=by rw [IsAll]
theorem zaA : IsAll K H xs (d :: ds) ↔ ∃ x r,xs = x :: r /\ Is K H x d /\ IsAll K H r ds:=by rw [IsAll]
theorem IsAll.cons (h : Is K H v d) (t : IsAll K H xs ds) : IsAll K H (v :: xs) (d :: ds):=zaA.mpr ⟨v,xs,rfl,h,t⟩
theorem IsAll.nil : IsAll K H [] []:=zbw.mpr rfl
theorem IsAll.length : ∀ {ds : List PyData} {xs : List V},IsAll K H xs ds -> xs.length = ds.length
 | [],_,h=>by rw [zbw.mp h]; rfl
 | d :: ds,_,h=>by
   obtain ⟨x,r,rfl,_,t⟩:=zaA.mp h
   rw [List.length_cons,List.length_cons,IsAll.length t]
theorem IsAll.get : ∀ {ds : List PyData} {xs : List V} {i : Nat} {d : PyData},IsAll K H xs ds -> ds[i]? = some d -> ∃ x,xs[i]? = some x /\ Is K H x d
 | [],_,_,_,_,e=>by simp at e
 | d :: ds,_,0,_,h,e=>by
   obtain ⟨x,r,rfl,q,_⟩:=zaA.mp h
   simp at e; subst e
   exact ⟨x,rfl,q⟩
 | d :: ds,_,i + 1,d',h,e=>by
   obtain ⟨x,r,rfl,_,t⟩:=zaA.mp h
   obtain ⟨y,h1,h2⟩:=IsAll.get (i:=i) t (by simpa using e)
   exact ⟨y,by simpa using h1,h2⟩
theorem IsAll.append : ∀ {ds es : List PyData} {xs ys : List V},IsAll K H xs ds -> IsAll K H ys es -> IsAll K H (xs ++ ys) (ds ++ es)
 | [],_,_,_,h,t=>by rw [zbw.mp h]; exact t
 | d :: ds,_,_,_,h,t=>by
   obtain ⟨x,r,rfl,q,u⟩:=zaA.mp h
   exact .cons q (IsAll.append u t)
mutual
theorem Is.same (s : zag H H') : ∀ (d : PyData) (v : V),Is K H v d -> Is K H' v d
 | .none,v,h=>by rw [zeP] at h ⊢; exact h
 | .bool _,v,h=>by rw [zce] at h ⊢; exact h
 | .int _,v,h=>by rw [zaR] at h ⊢; exact h
 | .str _,v,h=>by rw [zcQ] at h ⊢; exact h
 | .tuple ds,v,h=>by
   obtain ⟨a,xs,e,q,t⟩:=zaY.mp h
   exact zaY.mpr ⟨a,xs,e,s.sqT q,IsAll.same s ds xs t⟩
 | .list ds,v,h=>by
   obtain ⟨a,xs,e,q,t⟩:=zbk.mp h
   exact zbk.mpr ⟨a,xs,e,s.seq q,IsAll.same s ds xs t⟩
 | .dict _,v,h=>by
   obtain ⟨a,kvs,e,q⟩:=zkt.mp h
   exact zkt.mpr ⟨a,kvs,e,s _ _ q⟩
theorem IsAll.same (s : zag H H') : ∀ (ds : List PyData) (xs : List V),IsAll K H xs ds -> IsAll K H' xs ds
 | [],xs,h=>by rw [zbw] at h ⊢; exact h
 | d :: ds,xs,h=>by
   obtain ⟨x,r,e,q,t⟩:=zaA.mp h
   exact zaA.mpr ⟨x,r,e,Is.same s d x q,IsAll.same s ds r t⟩
end
end
/- no list and no dict within -/
mutual
def Imm : PyData -> Bool
 | .none=>true
 | .bool _=>true
 | .int _=>true
 | .str _=>true
 | .tuple ds=>ImmAll ds
 | .list _=>false
 | .dict _=>false
def ImmAll : List PyData -> Bool
 | []=>true
 | d :: ds=>Imm d && ImmAll ds
end
section
variable {K : PySem.W.Frag} {H H' : Hp}
mutual
theorem Is.keep (k : zaO H H') : ∀ (d : PyData) (v : V),Imm d = true -> Is K H v d -> Is K H' v d
 | .none,v,_,h=>by rw [zeP] at h ⊢; exact h
 | .bool _,v,_,h=>by rw [zce] at h ⊢; exact h
 | .int _,v,_,h=>by rw [zaR] at h ⊢; exact h
 | .str _,v,_,h=>by rw [zcQ] at h ⊢; exact h
 | .tuple ds,v,i,h=>by
   obtain ⟨a,xs,e,q,t⟩:=zaY.mp h
   exact zaY.mpr ⟨a,xs,e,k.sqT q,IsAll.keep k ds xs (by rw [Imm] at i; exact i) t⟩
 | .list ds,v,i,h=>by rw [Imm] at i; cases i
 | .dict _,v,i,h=>by rw [Imm] at i; cases i
theorem IsAll.keep (k : zaO H H') : ∀ (ds : List PyData) (xs : List V),ImmAll ds = true -> IsAll K H xs ds -> IsAll K H' xs ds
 | [],xs,_,h=>by rw [zbw] at h ⊢; exact h
 | d :: ds,xs,i,h=>by
   obtain ⟨x,r,e,q,t⟩:=zaA.mp h
   rw [ImmAll,Bool.and_eq_true] at i
   exact zaA.mpr ⟨x,r,e,Is.keep k d x i.1 q,IsAll.keep k ds r i.2 t⟩
end
end
def N (r : Rat) : PyData:=.tuple [.int r.num,.int (r.den : Int)]
theorem zmZ (r : Rat) : Imm (N r) = true:=by simp [N,Imm,ImmAll]
section
variable {K : PySem.W.Frag} {H H' : Hp} {v : V} {r : Rat}
theorem zoH : Is K H v (N r) ↔ ∃ a,v = .ref a /\ SqT K H a [.int r.num,.int (r.den : Int)]:=by
 unfold N
 rw [zaY]
 constructor
 . rintro ⟨a,xs,e,q,t⟩
   obtain ⟨x,r1,rfl,q1,t⟩:=zaA.mp t
   obtain ⟨y,r2,rfl,q2,t⟩:=zaA.mp t
   rw [zbw.mp t,zaR.mp q1,zaR.mp q2] at q
   exact ⟨a,e,q⟩
 . rintro ⟨a,e,q⟩
   exact ⟨a,_,e,q,.cons (zaR.mpr rfl) (.cons (zaR.mpr rfl) .nil)⟩
end
section
variable {X : Cx} {pins : List (Addr × Obj)} {σ : St} {H : Hp} {s : Shared}
mutual
theorem Inv.reads (I : Inv X pins σ H s) : ∀ (d : PyData) (v : V) (u : Value),d.canLay0 = true -> Is X.K H v d -> zaJ v u -> ∃ as,Reads s.heap u d as
 | .none,v,u,_,h,r=>by
   cases zeP.mp h
   cases (show u = Value.none from r)
   exact ⟨_,.none⟩
 | .bool b,v,u,_,h,r=>by
   cases zce.mp h
   cases (show u = Value.bool b from r)
   exact ⟨_,.bool b⟩
 | .int i,v,u,_,h,r=>by
   cases zaR.mp h
   obtain ⟨t,e⟩:=(show ∃ t,u = Value.int i t from r)
   cases e
   exact ⟨_,.int i t⟩
 | .str x,v,u,_,h,r=>by
   cases zcQ.mp h
   obtain ⟨t,e⟩:=(show ∃ t,u = Value.str x t from r)
   cases e
   exact ⟨_,.str x t⟩
 | .tuple ds,v,u,c,h,r=>by
   obtain ⟨a,xs,e,q,t⟩:=zaY.mp h
   subst e
   cases (show u = Value.ref a from r)
   obtain ⟨its,rv,⟨o,e1,e2,n,e3⟩,_⟩:=I.tuple q
   obtain ⟨as,ra⟩:=Inv.readsAll I ds xs its (by rw [PyData.canLay0] at c; exact c) t rv
   exact ⟨_,.tuple e1 e2 e3 (by simpa using ra)⟩
 | .list ds,v,u,c,h,r=>by
   obtain ⟨a,xs,e,q,t⟩:=zbk.mp h
   subst e
   cases (show u = Value.ref a from r)
   obtain ⟨its,rv,⟨o,n,e1,e2,_,e3⟩,_⟩:=I.list q
   obtain ⟨as,ra⟩:=Inv.readsAll I ds xs its (by rw [PyData.canLay0] at c; exact c) t rv
   exact ⟨_,.list e1 e2 e3 (by simpa using ra)⟩
 | .dict _,v,u,c,h,r=>by rw [PyData.canLay0] at c; cases c
theorem Inv.readsAll (I : Inv X pins σ H s) : ∀ (ds : List PyData) (xs : List V) (us : List Value),PyData.canLayAll0 ds = true -> IsAll X.K H xs ds -> zav xs us -> ∃ as,ReadsAll s.heap us ds as
 | [],xs,us,_,h,r=>by
   rw [zbw.mp h] at r
   cases r
   exact ⟨_,.nil⟩
 | d :: ds,xs,us,c,h,r=>by
   obtain ⟨x,l,e,q,t⟩:=zaA.mp h
   subst e
   rw [PyData.canLayAll0,Bool.and_eq_true] at c
   cases r with
   | cons r1 r2 =>
     obtain ⟨as,h1⟩:=Inv.reads I d x _ c.1 q r1
     obtain ⟨bs,h2⟩:=Inv.readsAll I ds l _ c.2 t r2
     exact ⟨_,.cons h1 h2⟩
end
end
section
variable {X : Cx}
open PySem.SeqAt (shaped)
def zig (K : PySem.W.Frag) : R2:=fun x y H Q=>∃ d e,Is K H x d /\ Is K H y e /\ shaped d = true /\ shaped e = true /\ Q (.bl (PyData.eqv d e)) H
def zeU (K : PySem.W.Frag) : R2:=fun x y H Q=>∃ d e,Is K H x d /\ Is K H y e /\ shaped d = true /\ shaped e = true /\ Q (.bl (!PyData.eqv d e)) H
theorem zfe (hu : X.A.units + 64 < cLine) : OpR X (compareOp .Eq) (zig X.K):=by
 intro pins s σ H x y v u Q I rx ry h
 obtain ⟨d,e,hd,he,sd,se,q⟩:=h
 obtain ⟨as,h1⟩:=I.reads d x v (PySem.SeqAt.canLay_of_shaped sd) hd rx
 obtain ⟨bs,h2⟩:=I.reads e y u (PySem.SeqAt.canLay_of_shaped se) he ry
 exact eq_dataH h1 h2 sd se hu ⟨.bl _,H,I,rfl,q⟩
theorem zcL (hu : X.A.units + 64 < cLine) : OpR X (compareOp .NotEq) (zeU X.K):=by
 intro pins s σ H x y v u Q I rx ry h
 obtain ⟨d,e,hd,he,sd,se,q⟩:=h
 obtain ⟨as,h1⟩:=I.reads d x v (PySem.SeqAt.canLay_of_shaped sd) hd rx
 obtain ⟨bs,h2⟩:=I.reads e y u (PySem.SeqAt.canLay_of_shaped se) he ry
 exact ne_dataH h1 h2 sd se hu ⟨.bl _,H,I,rfl,q⟩
def kindOf : PyData -> String
 | .none=>"NoneType"
 | .bool _=>"bool"
 | .int _=>"int"
 | .str _=>"str"
 | .tuple _=>"tuple"
 | .list _=>"list"
 | .dict _=>"dict"
def zdw (K : PySem.W.Frag) : List V -> Hp -> VK -> Prop:=fun xs H Q=>∃ x T d b,xs = [x,.ty T] /\ Is K H x d /\ PySem.W.kitOne K (.type (kindOf d)) (.type T) = some b /\ Q (.bl b) H
theorem zcE : zaq X (.builtin "isinstance") (zdw X.K):=by
 intro pins s σ H xs us Q I r h
 obtain ⟨x,T,d,b,rfl,hd,e,q⟩:=h
 obtain ⟨u,w',rfl,rx,rt⟩:=zgh r
 cases (show w' = Value.type T from rt)
 have fin : ∀ tk,EP X pins σ Q (.bool b) { s with toks:=tk }:=fun tk=>⟨.bl b,H,I.tok _,rfl,q⟩
 cases d with
 | none =>
   cases zeP.mp hd
   cases (show u = Value.none from rx)
   exact PySem.W.kia_one PySem.W.kitx_none I.kIn True.intro e (fun z=>nomatch z) fin
 | bool y =>
   cases zce.mp hd
   cases (show u = Value.bool y from rx)
   exact PySem.W.kia_one PySem.W.kitx_bool I.kIn True.intro e (fun z=>nomatch z) fin
 | int i =>
   cases zaR.mp hd
   obtain ⟨t,q⟩:=(show ∃ t,u = Value.int i t from rx)
   cases q
   exact PySem.W.kia_one PySem.W.kitx_int I.kIn True.intro e (fun z=>nomatch z) fin
 | str y =>
   cases zcQ.mp hd
   obtain ⟨t,q⟩:=(show ∃ t,u = Value.str y t from rx)
   cases q
   exact PySem.W.kia_one PySem.W.kitx_str I.kIn True.intro e (fun z=>nomatch z) fin
 | tuple ds =>
   obtain ⟨a,xs,e1,hq,_⟩:=zaY.mp hd
   subst e1
   cases (show u = Value.ref a from rx)
   obtain ⟨its,_,⟨o,h1,h2,_⟩,_⟩:=I.tuple hq
   exact PySem.W.kia_one PySem.W.kitx_tuple I.kIn ⟨o,h1,h2⟩ e (fun z=>nomatch z) fin
 | list ds =>
   obtain ⟨a,xs,e1,hq,_⟩:=zbk.mp hd
   subst e1
   cases (show u = Value.ref a from rx)
   obtain ⟨its,_,⟨o,n,h1,h2,_⟩,_⟩:=I.list hq
   exact PySem.W.kia_one PySem.W.kitx_list I.kIn ⟨o,h1,h2⟩ e (fun z=>nomatch z) fin
 | dict kv =>
   obtain ⟨a,kvs,e1,hq⟩:=zkt.mp hd
   subst e1
   cases (show u = Value.ref a from rx)
   obtain ⟨_,_,vs,_,o,es,ep,h1,h2,_⟩:=(show zbM X.prog X.w H s.heap a (.dK kvs) from I.hok a _ hq)
   exact PySem.W.kia_one PySem.W.kitx_dict I.kIn ⟨o,h1,h2.1⟩ e (fun z=>nomatch z) fin
def isA (T : String) (d : PyData) : Bool:=(kindOf d == T) || (kindOf d == "bool" && T == "int")
theorem zq6 {K : PySem.W.Frag} (d : PyData) : PySem.W.kitOne K (.type (kindOf d)) (.type "int") = some (isA "int" d):=by cases d <;> rfl
theorem zp1 {K : PySem.W.Frag} (d : PyData) : PySem.W.kitOne K (.type (kindOf d)) (.type "bool") = some (isA "bool" d):=by cases d <;> rfl
theorem zof {K : PySem.W.Frag} (d : PyData) : PySem.W.kitOne K (.type (kindOf d)) (.type "tuple") = some (isA "tuple" d):=by cases d <;> rfl
theorem zro {K : PySem.W.Frag} (d : PyData) : PySem.W.kitOne K (.type (kindOf d)) (.type "str") = some (isA "str" d):=by cases d <;> rfl
theorem MulBd {m n : Nat} {i j : Int} (h : Bd m i) (k : Bd n j) (hm : m <= 1000000) (hn : n <= 1000000) : IntMulOk i j:=by
 have f : ∀ {m : Nat} {i : Int},Bd m i -> m <= 1000000 -> Builtin.Int.intBits i <= 2 ^ 20:=by
   intro m i h hm
   have e : (2 : Nat) ^ 20 = 1048576:=by decide
   have l:=(h.mono (Nat.le_succ m)).log (Nat.succ_pos m)
   unfold Builtin.Int.intBits
   split <;> lia
 exact .of_bits (f h hm) (f k hn)
theorem zaK : OpR X (binaryOp .Mult) (rI IntMulOk fun i j=>.int (i * j)):=opI fun _ _ _ _ _ _ _ hc q=>mul_int q hc
def zju (_ j : Int) : Prop:=j ≠ 0 /\ Bd 8999 j
theorem za0 : OpR X (binaryOp .FloorDiv) (rI zju fun i j=>.int (i.fdiv j)):=opI fun _ _ _ _ _ _ _ hc q =>
 floordiv_int hc.1 q (.inl (PyProof.noPylong_of_log2 (Nat.lt_succ_of_lt (hc.2.log (by decide)))))
theorem zqR : OpR X (binaryOp .Add) (fun x y H Q=>(rI0 fun i j=>.int (i + j)) x y H Q \/ (ztz x y H Q \/ ∃ i j,x = .str i /\ y = .str j /\ i.length + j.length <= sizeLine /\ Q (.str (i ++ j)) H)):=zs5.or (zsL.or zlY)
end
end L2
set_option Elab.async false
set_option linter.all false
set_option maxRecDepth 100000
namespace L2
open PySem PySem.Spec PyProof.Rows GM
theorem zb3 : bootBuiltins "len" = some (.builtin "len"):=by decide +kernel
theorem zis : bootBuiltins "abs" = some (.builtin "abs"):=by decide +kernel
theorem zaL : bootBuiltins "isinstance" = some (.builtin "isinstance"):=by decide +kernel
theorem zmM : bootBuiltins "int" = some (.type "int"):=by decide +kernel
theorem zq1 : bootBuiltins "bool" = some (.type "bool"):=by decide +kernel
theorem zgE : bootBuiltins "str" = some (.type "str"):=by decide +kernel
theorem zbP : bootBuiltins "tuple" = some (.type "tuple"):=by decide +kernel
theorem zm1 : bootBuiltins "list" = some (.type "list"):=by decide +kernel
def mkT (K : PySem.W.Frag) (xs : List V) (H : Hp) (Q : VK) : Prop:=xs.length <= sizeLine /\ ∀ p,H p = none -> Q (.ref p) (upd H p (.tup xs))
def mkL (K : PySem.W.Frag) (xs : List V) (H : Hp) (Q : VK) : Prop:=xs.length <= sizeLine /\ ∀ p,H p = none -> Q (.ref p) (upd H p (.lst xs))
def zse (K : PySem.W.Frag) (t : TA) : TE:=fun σ H Q=>t σ H fun xs H1=>mkT K xs H1 Q
def zrU (K : PySem.W.Frag) (t : TA) : TE:=fun σ H Q=>t σ H fun xs H1=>mkL K xs H1 Q
def zrQ : R2:=fun x y H Q=>(rI0 fun i j=>.int (i + j)) x y H Q \/ (ztz x y H Q \/ ∃ i j,x = .str i /\ y = .str j /\ i.length + j.length <= sizeLine /\ Q (.str (i ++ j)) H)
def ztY : List V -> Hp -> VK -> Prop:=fun xs H Q=>∃ i : Int,xs = [.int i] /\ Q (.int (if i < 0 then -i else i)) H
def zdd (K : PySem.W.Frag) : List V -> Hp -> VK -> Prop:=fun xs H Q=>∃ p ys,xs = [.ref p] /\ (SqL K H p ys \/ SqT K H p ys) /\ Q (.int ys.length) H
section
variable {X : Cx} {e : Expr} {es : List Expr} {te : TE} {t : TA} {pos : Pos}
theorem za8 {x1} (h : PA X es t) : PE X (.Tuple es x1 pos) (zse X.K t):=zs0 h
theorem zbo (h : PA X es t) : PE X (.List es pos) (zrU X.K t):=zsY h
theorem zaz : OpR X (binaryOp .Add) zrQ:=zqR
theorem zdv : zaq X (.builtin "abs") ztY:=zpi
theorem zaZ : zaq X (.builtin "len") (zdd X.K):=zjO
theorem zdy {x : Str} {i : Int} {pos : Pos} (hg : Gl X x) (hm : ∃ t,X.mg x = some (.int i t)) (hd : (x == ("__debug__" : Str)) = false:=by decide) : PE X (.Name x pos) (tC (.int i)):=by
 obtain ⟨t,hm⟩:=hm
 exact zaX hg hm ⟨t,rfl⟩ hd
theorem zpF {x : Str} {i : Str} {pos : Pos} (hg : Gl X x) (hm : ∃ t,X.mg x = some (.str i t)) (hd : (x == ("__debug__" : Str)) = false:=by decide) : PE X (.Name x pos) (tC (.str i)):=by
 obtain ⟨t,hm⟩:=hm
 exact zaX hg hm ⟨t,rfl⟩ hd
end
section
variable {K : PySem.W.Frag} {σ : St} {H H' : Hp} {Q : VK} {QA : List V -> Hp -> Prop} {QB : Bool -> Hp -> Prop} {QS : St -> Hp -> Prop} {QH : Hp -> Prop} {D : zb7} {ta tb te : TE} {tt tu : TT} {t tr : TA} {s1 s2 : TS} {g : TG} {gs : TGs} {r : R2} {v w : V} {xs ys : List V} {i : Nat} {m n : Int}
theorem ztI (h : σ[i]? = some (some v)) (q : Q v H) : zoN i σ H Q:=⟨v,h,q⟩
theorem zuH (q : Q v H) : tC v σ H Q:=q
theorem ztM (h : ta σ H fun x H1=>tb σ H1 fun y H2=>r x y H2 Q) : tOp r ta tb σ H Q:=h
theorem zuw {u : V -> Hp -> VK -> Prop} (h : ta σ H fun x H1=>u x H1 Q) : tUn u ta σ H Q:=h
theorem zsw (h : t σ H fun xs H1=>mkT K xs H1 Q) : zse K t σ H Q:=h
theorem ztk (h : t σ H fun xs H1=>mkL K xs H1 Q) : zrU K t σ H Q:=h
theorem ztj (q : QA [] H) : ztD σ H QA:=q
theorem zrE (h : te σ H fun x H1=>tr σ H1 fun xs H2=>QA (x :: xs) H2) : zoQ te tr σ H QA:=h
theorem zqF {sp : Sp} {E : XK} (h : t σ H fun vs H1=>sp vs H1 Q E) : zlt sp [] E t σ H Q:=by
 simpa only [zlt,List.append_nil] using h
theorem zt2 {u : List V -> Hp -> VK -> Prop} (h : t σ H fun vs H1=>u vs H1 Q) : tCB u t σ H Q:=h
theorem zqK (h : te σ H fun x H'=>∃ k,x = .bl k /\ QB k H') : zpL te σ H QB:=h
theorem ztT (h : te σ H fun x H'=>∃ k,x = .bl k /\ QB k H') : tB te σ H QB:=h
theorem zsX (h : tt σ H fun c H1=>if c = true then tu σ H1 QB else QB false H1) : ztR tt tu σ H QB:=h
theorem ztS (h : tt σ H fun c H1=>if c = true then QB true H1 else tu σ H1 QB) : tOr tt tu σ H QB:=h
theorem ztt (h : tt σ H fun c H1=>QB (!c) H1) : zt8 tt σ H QB:=h
theorem zra (h : ta σ H fun x H1=>∃ c,x = .bl c /\ if c = true then tb σ H1 Q else Q (.bl false) H1) : zsh ta tb σ H Q:=h
theorem zsu (h : ta σ H fun x H1=>∃ c,x = .bl c /\ if c = true then Q (.bl true) H1 else tb σ H1 Q) : ztU ta tb σ H Q:=h
theorem zri (h : ta σ H fun x H1=>∃ c,x = .bl c /\ Q (.bl (!c)) H1) : zsa ta σ H Q:=h
theorem ztF (h : tt σ H fun c H1=>if c = true then ta σ H1 Q else tb σ H1 Q) : tIf tt ta tb σ H Q:=h
-- statements
theorem zsy (h : s1 { D with nx:=s2 D } σ H) : zs8 s1 s2 D σ H:=h
theorem zqN (h : D.nx σ H) : zrW D σ H:=h
theorem zsG (h : te σ H D.rt) : zux te D σ H:=h
theorem zs4 (h : tt σ H fun b H1=>if b = true then s1 D σ H1 else s2 D σ H1) : zt6 tt s1 s2 D σ H:=h
theorem zth (h : te σ H fun x H1=>g x σ H1 D.nx) : zow te g D σ H:=h
theorem zry (h : te σ H fun _ H1=>D.nx σ H1) : zpg te D σ H:=h
theorem zsq {i j : Nat} (h : t σ H fun vs H1=>∃ v w,vs = [v,w] /\ D.nx ((σ.set i (some v)).set j (some w)) H1) : zun i j t D σ H:=h
theorem zrv {i j : Nat} (q : QS ((σ.set i (some v)).set j (some w)) H) : ∃ v' w',[v,w] = [v',w'] /\ QS ((σ.set i (some v')).set j (some w')) H:=⟨v,w,rfl,q⟩
-- targets
theorem zps (q : QS (σ.set i (some v)) H) : zif i v σ H QS:=q
theorem zrj (q : QS σ H) : ztW [] σ H QS:=⟨rfl,q⟩
theorem zqe (q : g v σ H fun σ' H'=>gs xs σ' H' QS) : zr4 g gs (v :: xs) σ H QS:=⟨v,xs,rfl,q⟩
theorem zre {a : Addr} {n : Nat} (h : SqT K H a xs) (e : xs.length = n) (q : gs xs σ H QS) : ztB K n gs (.ref a) σ H QS:=⟨a,xs,rfl,h,e,q⟩
theorem zqL {tset : zq0} (h : ta σ H fun o H1=>tb σ H1 fun i H2=>tset o i v H2 fun H3=>QS σ H3) : zt9 ta tb tset v σ H QS:=h
theorem zj5 {p : Addr} {k : Int} {j : Nat} (h : H p = some (.lst xs)) (e : ixN xs.length k = some j) (q : ∀ H',Exc p H H' -> H' p = some (.lst (xs.set j v)) -> QH H') : zrP (.ref p) (.int k) v H QH :=
 ⟨p,xs,k,j,rfl,rfl,h,e,q _ (Exc.upd p H _) zaB⟩
-- ints
theorem zsJ {f : Int -> Int -> V} (q : Q (f m n) H) : rI0 f (.int m) (.int n) H Q:=⟨m,n,rfl,rfl,q⟩
theorem zqi {C : Int -> Int -> Prop} {f : Int -> Int -> V} (c : C m n) (q : Q (f m n) H) : rI C f (.int m) (.int n) H Q:=⟨m,n,rfl,rfl,c,q⟩
theorem zul {f : Int -> V} (q : Q (f m) H) : rU f (.int m) H Q:=⟨m,rfl,q⟩
theorem zqM (q : Q (.int (m + n)) H) : zrQ (.int m) (.int n) H Q:=.inl ⟨m,n,rfl,rfl,q⟩
theorem ztA (q : Q (.int (if m < 0 then -m else m)) H) : ztY [.int m] H Q:=⟨m,rfl,q⟩
theorem zmR {p : Addr} (h : SqT K H p xs) (q : Q (.int xs.length) H) : zdd K [.ref p] H Q:=⟨p,xs,rfl,.inr h,q⟩
theorem zdZ {p : Addr} (h : SqL K H p xs) (q : Q (.int xs.length) H) : zdd K [.ref p] H Q:=⟨p,xs,rfl,.inl h,q⟩
theorem ztK (q : Q (.bl (decide (m = n))) H) : zig K (.int m) (.int n) H Q :=
 ⟨.int m,.int n,zaR.mpr rfl,zaR.mpr rfl,rfl,rfl,by
   have e : PyData.eqv (.int m) (.int n) = decide (m = n):=by
     rw [PyData.eqv,Bool.beq_eq_decide_eq]
   rw [e]; exact q⟩
theorem zsT (q : Q (.bl (!decide (m = n))) H) : zeU K (.int m) (.int n) H Q :=
 ⟨.int m,.int n,zaR.mpr rfl,zaR.mpr rfl,rfl,rfl,by
   have e : PyData.eqv (.int m) (.int n) = decide (m = n):=by
     rw [PyData.eqv,Bool.beq_eq_decide_eq]
   rw [e]; exact q⟩
theorem ztC {d e : PyData} (h : Is K H v d) (k : Is K H w e) (sd : PySem.SeqAt.shaped d = true) (se : PySem.SeqAt.shaped e = true) (q : Q (.bl (PyData.eqv d e)) H) : zig K v w H Q:=⟨d,e,h,k,sd,se,q⟩
theorem zoS {d e : PyData} (h : Is K H v d) (k : Is K H w e) (sd : PySem.SeqAt.shaped d = true) (se : PySem.SeqAt.shaped e = true) (q : Q (.bl (!PyData.eqv d e)) H) : zeU K v w H Q:=⟨d,e,h,k,sd,se,q⟩
theorem zho {T : String} {d : PyData} (h : Is K H v d) (e : PySem.W.kitOne K (.type (kindOf d)) (.type T) = some (isA T d)) (q : Q (.bl (isA T d)) H) : zdw K [v,.ty T] H Q:=⟨v,T,d,_,rfl,h,e,q⟩
def zd3 : PyData -> Bool
 | .tuple _=>true
 | _=>false
def zmf : PyData -> Bool
 | .int _=>true
 | .bool _=>true
 | _=>false
def zs2 : PyData -> Bool
 | .bool _=>true
 | _=>false
def zi4 : PyData -> Bool
 | .list _=>true
 | _=>false
def zoP : PyData -> Bool
 | .str _=>true
 | _=>false
theorem zi6 {d : PyData} : zd3 d = true ↔ ∃ ds,d = .tuple ds:=by cases d <;> simp [zd3]
theorem zk0 {d : PyData} (h : Is K H v d) (q : Q (.bl (zd3 d)) H) : zdw K [v,.ty "tuple"] H Q:=zho h (zof d) (by have e : isA "tuple" d = zd3 d:=(by cases d <;> rfl); rw [e]; exact q)
theorem zp6 {d : PyData} (h : Is K H v d) (q : Q (.bl (zmf d)) H) : zdw K [v,.ty "int"] H Q:=zho h (zq6 d) (by have e : isA "int" d = zmf d:=(by cases d <;> rfl); rw [e]; exact q)
theorem zoD {d : PyData} (h : Is K H v d) (q : Q (.bl (zs2 d)) H) : zdw K [v,.ty "bool"] H Q:=zho h (zp1 d) (by have e : isA "bool" d = zs2 d:=(by cases d <;> rfl); rw [e]; exact q)
theorem zqa {d : PyData} (h : Is K H v d) (q : Q (.bl (zoP d)) H) : zdw K [v,.ty "str"] H Q:=zho h (zro d) (by have e : isA "str" d = zoP d:=(by cases d <;> rfl); rw [e]; exact q)
-- items
theorem zd1 {p : Addr} {m : Int} (h : SqT K H p xs) (e : atI xs m = some v) (q : Q v H) : rIx K (.ref p) (.int m) H Q:=.inr (.inl ⟨p,xs,m,v,rfl,rfl,h,e,q⟩)
theorem zed {p : Addr} {m : Int} (h : SqL K H p xs) (e : atI xs m = some v) (q : Q v H) : rIx K (.ref p) (.int m) H Q:=.inl ⟨p,xs,m,v,rfl,rfl,h,e,q⟩
theorem zts {α : Type} {xs : List α} {m : Int} (h0 : 0 <= m) (h1 : m < xs.length) : ∃ v,atI xs m = some v /\ v ∈ xs:=by
 obtain ⟨k,rfl⟩ : ∃ k : Nat,m = (k : Int):=⟨m.toNat,by lia⟩
 have l : k < xs.length:=by lia
 exact ⟨xs[k],zdV (by simp [l]),List.getElem_mem l⟩
theorem zhs {p : Addr} {m : Int} (P : V -> Prop) (h : SqL K H p xs) (h0 : 0 <= m) (h1 : m < xs.length) (hP : ∀ x ∈ xs,P x) (q : ∀ x,P x -> Q x H) : rIx K (.ref p) (.int m) H Q:=by
 obtain ⟨x,e,hx⟩:=zts h0 h1
 exact zed h e (q x (hP x hx))
theorem zqW {r : Rat} (h : Is K H v (N r)) (q : Q (.int r.num) H) : rIx K v (.int 0) H Q:=by
 obtain ⟨a,rfl,h'⟩:=zoH.mp h
 exact zd1 h' rfl q
theorem zqC {r : Rat} (h : Is K H v (N r)) (q : Q (.int (r.den : Int)) H) : rIx K v (.int 1) H Q:=by
 obtain ⟨a,rfl,h'⟩:=zoH.mp h
 exact zd1 h' rfl q
theorem zaI {ds : List PyData} {d : PyData} {j : Nat} (h : Is K H v (.tuple ds)) (e : ds[j]? = some d) (q : ∀ x,Is K H x d -> Q x H) : rIx K v (.int (j : Int)) H Q:=by
 obtain ⟨a,xs,rfl,h,t⟩:=zaY.mp h
 obtain ⟨x,e1,hx⟩:=t.get e
 exact zd1 h (zdV e1) (q x hx)
theorem zhy {ds : List PyData} (h : Is K H v (.tuple ds)) (q : Q (.int ds.length) H) : zdd K [v] H Q:=by
 obtain ⟨a,xs,rfl,h,t⟩:=zaY.mp h
 exact zmR h (by rw [t.length]; exact q)
theorem zfZ {α : Type} {l : List α} (h : l.length <= 1000) : l.length <= sizeLine:=Nat.le_of_lt (zgv h)
theorem zfo (z : xs.length <= 1000) (q : ∀ p H',H p = none -> zag H H' -> H' p = some (.tup xs) -> Q (.ref p) H') : mkT K xs H Q:=⟨zfZ z,fun p hp=>q p _ hp (zag.upd hp) zaB⟩
theorem zcR (z : xs.length <= 1000) (q : ∀ p H',H p = none -> zag H H' -> H' p = some (.lst xs) -> Q (.ref p) H') : mkL K xs H Q:=⟨zfZ z,fun p hp=>q p _ hp (zag.upd hp) zaB⟩
theorem zbV {ds : List PyData} (z : xs.length <= 1000) (h : IsAll K H xs ds) (q : ∀ v H',zag H H' -> Is K H' v (.tuple ds) -> Q v H') : mkT K xs H Q :=
 zfo z fun p H' _ s e=>q _ H' s (zaY.mpr ⟨p,xs,rfl,.of e,IsAll.same s ds xs h⟩)
theorem zhk {r : Rat} (e1 : m = r.num) (e2 : n = (r.den : Int)) (q : ∀ v H',zag H H' -> Is K H' v (N r) -> Q v H') : mkT K [.int m,.int n] H Q:=by
 subst e1 e2
 exact zfo (by show 2 <= 1000; decide) fun p H' _ s e=>q _ H' s (zoH.mpr ⟨p,rfl,.of e⟩)
-- tests
theorem zrk {p : Prop} [Decidable p] {A B : Prop} (h1 : p -> A) (h2 : ¬ p -> B) : if decide p = true then A else B:=by
 by_cases h : p
 . rw [decide_eq_true h,if_pos rfl]; exact h1 h
 . rw [decide_eq_false h,if_neg Bool.false_ne_true]; exact h2 h
theorem zph {p : Prop} [Decidable p] {A B : Prop} (h1 : ¬ p -> A) (h2 : p -> B) : if (!decide p) = true then A else B:=by
 by_cases h : p
 . rw [decide_eq_true h]; exact zoK (h2 h)
 . rw [decide_eq_false h]; exact zoX (h1 h)
theorem zqO {b : Bool} {A B : Prop} (h1 : b = true -> A) (h2 : b = false -> B) : if b = true then A else B:=by
 cases b
 . exact zoK (h2 rfl)
 . exact zoX (h1 rfl)
theorem zoA {b : Bool} {A B : Prop} (h1 : b = false -> A) (h2 : b = true -> B) : if (!b) = true then A else B:=by
 cases b
 . exact zoX (h1 rfl)
 . exact zoK (h2 rfl)
end
section
variable {c : TT} {tb : TS} {D : zb7} {σ : St} {H : Hp}
def ixI (σ : St) (i : Nat) : Int:=match σ[i]? with
 | some (some (.int y))=>y
 | _=>0
def zql (Pv : St -> Hp -> Prop) (μ : St -> Nat) (tb : TS) (D : zb7) (σ' : St) (H1 : Hp) : Prop :=
 ∃ M : St -> Hp -> Prop,(∀ σ2 H2,M σ2 H2 -> ∃ m',m' < μ σ' /\ (m' = μ σ2 /\ Pv σ2 H2)) /\ tb { D with nx:=M,ct:=M,bk:=D.nx } σ' H1
theorem zlu (Pv : St -> Hp -> Prop) (μ : St -> Nat) (h0 : Pv σ H)
   (hs : ∀ σ' H',Pv σ' H' -> c σ' H' fun b H1=>if b = true then zql Pv μ tb D σ' H1 else D.nx σ' H1) : zmJ c tb D σ H:=by
 refine ⟨fun m σ H=>m = μ σ /\ Pv σ H,⟨_,rfl,h0⟩,?_⟩
 rintro m σ H ⟨rfl,p⟩
 exact hs σ H p
theorem zns {Pv : St -> Hp -> Prop} {μ : St -> Nat} {σ' : St} {H1 : Hp} (h : tb { D with nx:=fun σ2 H2=>μ σ2 < μ σ' /\ Pv σ2 H2,ct:=fun σ2 H2=>μ σ2 < μ σ' /\ Pv σ2 H2,bk:=D.nx } σ' H1) : zql Pv μ tb D σ' H1 :=
 ⟨_,fun σ2 H2 q=>⟨_,q.1,rfl,q.2⟩,h⟩
def zue (g : TG) (tb : TS) (D : zb7) (σ : St) (vs : List V) (H1 : Hp) : Prop:=∃ j : Int,vs = [.int j] /\ -(2 ^ 62) <= j /\ j < 2 ^ 62 /\
 ∃ W : Nat -> Nat -> St -> Hp -> Prop,(∃ m,W 0 m σ H1) /\ ∀ i m σ H,W i m σ H ->
   ((Itr 0 j.toNat).stop i H /\ D.nx σ H) \/ ((Itr 0 j.toNat).go i H /\ ∃ M : St -> Hp -> Prop,(∀ σ' H',M σ' H' -> ∃ m',m' < m /\ W (i + 1) m' σ' H') /\ ∀ x H',(Itr 0 j.toNat).yld i H x H' -> g x σ H' fun σ2 H2=>tb { D with nx:=M,ct:=M,bk:=D.nx } σ2 H2)
theorem zrl {ta : TA} {g : TG} (h : ta σ H fun vs H1=>zue g tb D σ vs H1) : zrC (zsi ta) g tb D σ H:=h
theorem zcF {g : TG} {n : Int} (h0 : -1000000000 <= n) (h1 : n < 1000000000) (Pv : Nat -> St -> Hp -> Prop) (p : Pv 0 σ H)
   (hs : ∀ (i : Nat) σ H,i < n.toNat -> Pv i σ H -> g (.int (i : Int)) σ H fun σ2 H2=>tb { D with nx:=Pv (i + 1),ct:=Pv (i + 1),bk:=D.nx } σ2 H2)
   (hd : ∀ σ H,Pv n.toNat σ H -> D.nx σ H) : zue g tb D σ [.int n] H:=by
 refine ⟨n,rfl,by lia,by lia,zon (lo:=0) Pv p (fun i σ H hi q=>?_) hd⟩
 have e : (0 : Int) + (i : Int) = (i : Int):=by lia
 rw [e]
 exact hs i σ H hi q
end
def zs3 (K : PySem.W.Frag) (g : TG) (tb : TS) (D : zb7) (σ : St) (x : V) (H1 : Hp) : Prop:=∃ a,x = .ref a /\ (∃ xs,SqL K H1 a xs) /\
 ∃ W : Nat -> Nat -> St -> Hp -> Prop,(∃ m,W 0 m σ H1) /\ ∀ i m σ H,W i m σ H ->
   ((Itl K a).stop i H /\ D.nx σ H) \/ ((Itl K a).go i H /\ ∃ M : St -> Hp -> Prop,(∀ σ' H',M σ' H' -> ∃ m',m' < m /\ W (i + 1) m' σ' H') /\ ∀ x H',(Itl K a).yld i H x H' -> g x σ H' fun σ2 H2=>tb { D with nx:=M,ct:=M,bk:=D.nx } σ2 H2)
def zt1 (K : PySem.W.Frag) (g : TG) (tb : TS) (D : zb7) (σ : St) (x : V) (H1 : Hp) : Prop:=∃ a,x = .ref a /\ (∃ xs,SqT K H1 a xs) /\
 ∃ W : Nat -> Nat -> St -> Hp -> Prop,(∃ m,W 0 m σ H1) /\ ∀ i m σ H,W i m σ H ->
   ((Itt K a).stop i H /\ D.nx σ H) \/ ((Itt K a).go i H /\ ∃ M : St -> Hp -> Prop,(∀ σ' H',M σ' H' -> ∃ m',m' < m /\ W (i + 1) m' σ' H') /\ ∀ x H',(Itt K a).yld i H x H' -> g x σ H' fun σ2 H2=>tb { D with nx:=M,ct:=M,bk:=D.nx } σ2 H2)
section
variable {K : PySem.W.Frag} {te : TE} {g : TG} {tb : TS} {D : zb7} {σ : St} {H : Hp} {a : Addr} {xs : List V}
theorem zqT (h : te σ H fun x H1=>zs3 K g tb D σ x H1) : zrC (zpQ K te) g tb D σ H:=h
theorem zgJ (hx : SqL K H a xs) (Pv : Nat -> St -> Hp -> Prop) (h0 : Pv 0 σ H) (hl : ∀ i σ H,i <= xs.length -> Pv i σ H -> SqL K H a xs)
   (hs : ∀ i x σ H,xs[i]? = some x -> Pv i σ H -> g x σ H fun σ2 H2=>tb { D with nx:=Pv (i + 1),ct:=Pv (i + 1),bk:=D.nx } σ2 H2) (hd : ∀ σ H,Pv xs.length σ H -> D.nx σ H) : zs3 K g tb D σ (.ref a) H :=
 ⟨a,rfl,⟨xs,hx⟩,zpR Pv h0 hl hs hd⟩
theorem znG (hx : SqT K H a xs) (Pv : Nat -> St -> Hp -> Prop) (h0 : Pv 0 σ H) (hl : ∀ i σ H,i <= xs.length -> Pv i σ H -> SqT K H a xs)
   (hs : ∀ i x σ H,xs[i]? = some x -> Pv i σ H -> g x σ H fun σ2 H2=>tb { D with nx:=Pv (i + 1),ct:=Pv (i + 1),bk:=D.nx } σ2 H2) (hd : ∀ σ H,Pv xs.length σ H -> D.nx σ H) : zt1 K g tb D σ (.ref a) H :=
 ⟨a,rfl,⟨xs,hx⟩,zqs Pv h0 hl hs hd⟩
end
theorem zsr {K : PySem.W.Frag} {H : Hp} {a : Addr} {xs : List V} (hO : zqv H) (h : SqL K H a xs) : SqF K H a xs:=by
 rcases h with (h | ⟨o,h⟩) | h
 . rcases hO a with z | ⟨ob,ys,z⟩
   . rw [h] at z; cases z
   . rw [h] at z; cases z
 . exact .inl ⟨o,h⟩
 . exact .inr h
theorem ztl {K : PySem.W.Frag} {H : Hp} {Q : VK} {a : Addr} {ns : List Int} {m : Int} (h : SqF K H a (ns.map V.int)) (h0 : 0 <= m) (h1 : m < ((ns.map V.int).length : Int)) (q : ∀ z,Q (.int z) H) : rIx K (.ref a) (.int m) H Q:=by
 refine zhs (fun v=>∃ z,v = .int z) h.sq h0 h1 (fun x hx=>?_) (fun x hx=>?_)
 . obtain ⟨z,_,rfl⟩:=List.mem_map.mp hx
   exact ⟨z,rfl⟩
 . obtain ⟨z,rfl⟩:=hx
   exact q z
section
variable {K : PySem.W.Frag} {H H' : Hp} {v : V} {d : PyData} {a : Addr} {xs : List V} {o : HO}
theorem zag.back {H2 : Hp} (b : zag H' H2) (s : zag H H') : zag H H2:=s.trans b
theorem zaO.back {H2 : Hp} (b : zaO H' H2) (s : zaO H H') : zaO H H2:=s.trans b
theorem Is.by (s : zag H H') (h : Is K H v d) : Is K H' v d:=Is.same s d v h
theorem Is.thru (h : Is K H v d) (s : zag H H') : Is K H' v d:=Is.same s d v h
theorem Is.byN {r : Rat} (s : zaO H H') (h : Is K H v (N r)) : Is K H' v (N r):=Is.keep s _ v (zmZ r) h
theorem Is.byK (s : zaO H H') (i : Imm d = true) (h : Is K H v d) : Is K H' v d:=Is.keep s _ v i h
end
end L2
set_option Elab.async false
set_option linter.all false
set_option maxRecDepth 100000
namespace L2
open PySem PySem.Spec PyProof.Rows GM
def zbp (X : Cx) (N' : List Str) (scope : Scope) (cl : List (Str × Addr)) (C : Addr) (s₀ : Shared) (H₀ : Hp) (fp : List Addr) (pins : List (Addr × Obj)) : Cx where
 prog:=X.prog
 w:=X.w
 K:=X.K
 mg:=X.mg
 base:=X.base
 A:=X.A
 N:=N'
 s₀:=s₀
 H₀:=H₀
 env:=compEnvC scope cl C X.env
 outer:=X.stack
 stack:=X.stack
 ex:=fp
 fn:=fun _=>false
 calm:=X.calm
 pn:=X.pn ++ pins
 xe:=fun _ _=>False
structure zpr (X : Cx) (scope : Scope) (cl : List (Str × Addr)) : Prop where
 clos : closureFor scope X.env = pure cl
 sub : ∀ x c,cl.lookup x = some c -> X.env.cells.lookup x = some c
 has : ∀ x,((relabel scope X.env).names.lookup x = some .cell \/ (relabel scope X.env).names.lookup x = some .free) -> ∃ c,cl.lookup x = some c
def za4 (src : List (Option Nat)) (σ : St) : St:=src.map fun o=>match o with
 | none=>none
 | some j=>(σ[j]?).join
def zr8 (X : Cx) (N' : List Str) (src : List (Option Nat)) : Prop :=
 N'.length = src.length /\ ∀ (i j : Nat) (x : Str),N'[i]? = some x -> src[i]? = some (some j) -> X.N[j]? = some x /\ X.env.scope.names.lookup x = some .cell
section
variable {X : Cx} {pins : List (Addr × Obj)} {σ : St} {H : Hp} {s : Shared} {N' : List Str} {scope : Scope} {cl : List (Str × Addr)} {src : List (Option Nat)} {fp : List Addr}
theorem Inv.block {h₁ : Heap} {tk : Nat} (I : Inv X pins σ H s) (hk : scope.kind = .function) (cok : zpr X scope cl) (sok : zr8 X N' src) (hf : ∀ b ∈ fp,zej X pins H b) (hlt : ∀ b ∈ fp,b < s.heap.objs.size)
   (hns : h₁.Ns s.heap.objs.size fun _=>none) (old : ∀ b o,s.heap.get? b = some o -> h₁.get? b = some o)
   (hvis : ∀ (i : Nat) x,N'[i]? = some x -> src[i]? ≠ some none -> (relabel scope X.env).names.lookup x = some .cell \/ (relabel scope X.env).names.lookup x = some .free) :
   Inv (zbp X N' scope cl s.heap.objs.size s H fp pins) [] (za4 src σ) H { s with heap:=h₁,toks:=tk }:=by
 have hfr : H s.heap.objs.size = none:=I.hok.fresh (Nat.le_refl _)
 have cne : ∀ x c,cl.lookup x = some c -> c < s.heap.objs.size:=fun x c e=>by
   obtain ⟨v,q⟩:=I.cell x c (cok.sub x c e)
   exact q.lt
 have fplt : ∀ b ∈ fp,b ∉ frs X.stack:=fun b hb z=>by
   obtain ⟨_,f1,f2,_⟩:=hf b hb
   exact (List.mem_cons.mp (I.stkSub b z)).elim f1 f2
 refine ⟨⟨I.ok.mod,?_,I.ok.glob,I.ok.blt,Nat.le_refl _,fun x y c h1 h2=>?_,fun x hx=>?_,fun x c hx=>?_,I.ok.hd,I.ok.frames,.inl rfl,fun b hb=>⟨?_,fun x c e=>?_⟩,I.bs,Nat.le_trans I.ok.bsz I.sz,fun b o e=>?_,fplt,I.stack,I.stkFree⟩,
   rfl,I.bare,Un.kept old,⟨_,hns,fun i x v h1 h2 h3=>?_⟩,fun x c e=>?_,hfr,fun x c e=>?_,fun p hp=>?_,I.hok.kept old,?_⟩
 . show (relabel scope X.env).kind = .function
   exact hk
 . exact I.ok.inj x y c (cok.sub x c h1) (cok.sub y c h2)
 . exact cok.has x hx
 . exact absurd (show false = true from hx) Bool.false_ne_true
 . exact Nat.ne_of_lt (hlt b hb)
 . exact (hf b hb).2.2.2.2.1 x c (cok.sub x c e)
 . intro hb
   obtain ⟨_,_,_,f3,_⟩:=hf b hb
   rcases f3 with z | z
   . exact I.ok.noex b o e z
   . exact absurd (Nat.lt_of_lt_of_le (Heap.lt_size e) (Nat.le_trans I.ok.bsz z)) (Nat.lt_irrefl _)
 . -- a name of the frame around
   have hsrc : ∃ j,src[i]? = some (some j) /\ σ[j]? = some (some v):=by
     unfold za4 at h2
     rw [List.getElem?_map] at h2
     cases q : src[i]? with
     | none=>rw [q] at h2; cases h2
     | some o =>
       rw [q] at h2
       cases o with
       | none=>cases h2
       | some j =>
         refine ⟨j,rfl,?_⟩
         have h2' : (σ[j]?).join = some v:=Option.some.inj h2
         cases q2 : σ[j]? with
         | none=>rw [q2] at h2'; cases h2'
         | some z=>rw [q2] at h2'; exact congrArg some h2'
   obtain ⟨j,hj,hv⟩:=hsrc
   obtain ⟨hN,hc⟩:=sok.2 i j x h1 hj
   obtain ⟨m,_,hl⟩:=I.loc
   obtain ⟨u,ru,lk⟩:=hl j x v hN hv (.inr (.inl hc))
   refine ⟨u,ru,.inr ⟨hvis i x h1 (by rw [hj]; intro z; cases z),?_⟩⟩
   rcases lk with ⟨k,_⟩ | ⟨_,c,ec,hcell⟩
   . have k' : X.env.scope.names.lookup x = some .local:=k
     rw [hc] at k'; cases k'
   . obtain ⟨c',ec'⟩:=cok.has x (hvis i x h1 (by rw [hj]; intro z; cases z))
     have:=cok.sub x c' ec'
     rw [ec] at this; cases this
     obtain ⟨o,ho,hd⟩:=hcell
     exact ⟨c,ec',o,old c o ho,hd⟩
 . obtain ⟨v,o,ho,hd⟩:=I.cell x c (cok.sub x c e)
   exact ⟨v,o,old c o ho,hd⟩
 . exact I.freeC x c (cok.sub x c e)
 . have hp' : p ∈ (X.pn ++ pins) ++ []:=hp
   rw [List.append_nil] at hp'
   obtain ⟨e,n,ne,nf,d⟩:=I.pin p hp'
   refine ⟨old _ _ e,n,Nat.ne_of_lt (Heap.lt_size e),fun z=>?_,d⟩
   exact (List.mem_cons.mp (I.stkSub p.1 z)).elim ne nf
 . show (za4 src σ).length = N'.length
   unfold za4
   rw [List.length_map,sok.1]
end
def zr0 : TT:=fun _ H Q=>Q true H
def PTs (X : Cx) (ifs : List Expr) (t : TT) : Prop :=
 ∀ (pins : List (Addr × Obj)) (s : Shared) (σ : St) (H : Hp) (Q : Bool -> Hp -> Prop),Inv X pins σ H s -> t σ H Q ->
   wpAny (model X.prog X.w) X.A (forIn ifs true fun c r=>if r = true then do let ok <- isTrue c X.env (eval c X.env); pure (ForInStep.yield ok) else pure (ForInStep.yield r)) (TP X pins σ Q) X.xe s
theorem zbQ {X : Cx} : PTs X [] zr0:=fun _ _ _ H _ I h=>wpAny_tests_nil ⟨H,I,h⟩
theorem znm {X : Cx} {c : Expr} {t : TT} (hc : PT X c t) : PTs X [c] t:=fun pins s σ H Q I h=>wpAny_tests_one (hc pins s σ H Q I h)
section
variable {prog : Program} {w : World} {A : Around} {R : Result -> Shared -> Prop} {s : Shared}
theorem zj9 {elt target iter : Expr} {ifs : List Expr} {scope : Scope} {pos : Pos} {it acc : Value} {env : Env} (I : Nat -> Shared -> Prop)
   (turn : ∀ n s,I n s -> wpAny (model prog w) A (pyNext it) (fun r s₁=>match r with
     | none=>R (.ok .next) s₁
     | some v=>wpAny (model prog w) A (letOwnedTupleGo target it v) (fun _ s₁'=>wpAny (model prog w) A (assign target env v) (fun _ s₂ =>
         wpAny (model prog w) A (forIn ifs true fun c r=>if r = true then do let ok <- isTrue c env (eval c env); pure (ForInStep.yield ok) else pure (ForInStep.yield r)) (fun ok s₃ =>
           if ok = true then wpAny (model prog w) A (eval elt env) (fun x s₄ =>
             wpAny (model prog w) A (call (.builtin "list.append") [acc,x]) (fun _ s₅=>∃ m,m < n /\ I m s₅) (fun _ _=>False) s₄) (fun _ _=>False) s₃
           else ∃ m,m < n /\ I m s₃) (fun _ _=>False) s₂) (fun _ _=>False) s₁') (fun _ _=>False) s₁) (fun _ _=>False) s)
   (n : Nat) (h : I n s) : codeAny (model prog w) A (.compLoop (.ListComp elt [⟨target,iter,ifs,0⟩] scope pos) 0 it acc env) R s:=by
 refine codeAny_loop rfl I (fun n s hI=>?_) n h
 show wpAny _ A ((compTurn (.ListComp elt [⟨target,iter,ifs,0⟩] scope pos) 0 it acc env).onRaise (fun x=>do noteFrame x env; theTreesLotGoes x)) _ _ s
 refine wpAny_noted ?_
 rw [compTurn_list]
 refine wpAny_bind (wpAny_standAt (wpAny_bind (wpAny_mono (turn n s hI) (fun r s₁ h₁=>?_) fun _ _ h'=>h'.elim)))
 cases r with
 | none=>exact wpAny_pure h₁
 | some v =>
   refine wpAny_bind (wpAny_mono h₁ (fun _ s₁' h₁'=>?_) fun _ _ h'=>h'.elim)
   refine wpAny_bind (wpAny_mono h₁' (fun _ s₂ h₂=>wpAny_bind (wpAny_mono h₂ (fun ok s₃ h₃=>?_) fun _ _ h'=>h'.elim)) fun _ _ h'=>h'.elim)
   cases ok with
   | false=>exact wpAny_pure ⟨rfl,h₃⟩
   | true=>exact wpAny_bind (wpAny_bind (wpAny_mono h₃ (fun x s₄ h₄=>wpAny_bind (wpAny_mono h₄ (fun _ s₅ h₅=>wpAny_pure (wpAny_pure ⟨rfl,h₅⟩)) fun _ _ h'=>h'.elim)) fun _ _ h'=>h'.elim))
end
def zfw (g : TG) (tt : TT) (te : TE) (J : It) (D : Addr) (σ0 : St) (H0 : Hp) (Q : Hp -> Prop) : Prop :=
 ∃ W : Nat -> Nat -> St -> Hp -> Prop,(∃ m,W 0 m σ0 H0) /\ ∀ i m σ' H',W i m σ' H' ->
   (J.stop i H' /\ Q H') \/ (J.go i H' /\ ∃ M : St -> Hp -> Prop,(∀ σ2 H2,M σ2 H2 -> ∃ m',m' < m /\ W (i + 1) m' σ2 H2) /\
     ∀ x H2,J.yld i H' x H2 -> g x σ' H2 fun σ3 H3=>tt σ3 H3 fun ok H4=>if ok = true then te σ3 H4 fun y H5=>∃ ys,H5 D = some (.lst ys) /\ ys.length < sizeLine /\ M σ3 (upd H5 D (.lst (ys ++ [y]))) else M σ3 H4)
def zh0 (src : List (Option Nat)) (wi : TI) (g : TG) (tt : TT) (te : TE) : TE:=fun σ H Q=>wi σ H fun J H1=>∀ D,H1 D = none -> zfw g tt te J D (za4 src σ) (upd H1 D (.lst [])) (fun H'=>Q (.ref D) H')
structure zr3 (Y : Cx) (tg : Expr) (J : It) (fp : List Addr) (it : Addr) (tn : Nat -> Heap -> Prop) : Prop where
 item : ∀ (i : Nat) (pins : List (Addr × Obj)) (s : Shared) (σ : St) (H : Hp) (E : Value -> Shared -> Prop),Inv Y pins σ H s -> (∀ b ∈ fp,zej Y pins H b) -> tn i s.heap -> J.go i H ->
   wpAny (model Y.prog Y.w) Y.A (pyNext (.ref it)) (fun r s1=>∃ u,r = some u /\ wpAny (model Y.prog Y.w) Y.A (letOwnedTupleGo tg (.ref it) u) (fun _ s2=>∃ x H',Inv Y pins σ H' s2 /\ zaJ x u /\ J.yld i H x H' /\ tn (i + 1) s2.heap /\ ∀ b ∈ fp,H' b = none) E s1) E s
 done : ∀ (i : Nat) (pins : List (Addr × Obj)) (s : Shared) (σ : St) (H : Hp) (E : Value -> Shared -> Prop),Inv Y pins σ H s -> (∀ b ∈ fp,zej Y pins H b) -> tn i s.heap -> J.stop i H ->
   wpAny (model Y.prog Y.w) Y.A (pyNext (.ref it)) (fun r s1=>r = none /\ Inv Y pins σ H s1) E s
theorem zkv.toC {P : Program} {w : World} {K : PySem.W.Frag} {tg : Expr} {J : It} {fp : List Addr} {it : Addr} {tn : Nat -> Heap -> Prop} (T : zkv P w K tg J fp it tn) {Y : Cx} (h1 : Y.prog = P) (h2 : Y.w = w) (h3 : Y.K = K) (hc : Y.calm = true) : zr3 Y tg J fp it tn:=by
 subst h1 h2 h3
 exact ⟨T.item Y rfl rfl rfl hc,T.done Y rfl rfl rfl hc⟩
section
variable {X : Cx} {pins : List (Addr × Obj)} {σ : St} {H : Hp} {s : Shared} {N' : List Str} {scope : Scope} {cl : List (Str × Addr)} {src : List (Option Nat)} {elt tgt iter : Expr} {ifs : List Expr} {pos : Pos} {wi : TI} {g : TG} {tt : TT} {te : TE}
structure zbl (X : Cx) (N' : List Str) (scope : Scope) (cl : List (Str × Addr)) (src : List (Option Nat)) : Prop where
 kind : scope.kind = .function
 cell : ∀ y ∈ scope.names,y.2 ≠ .cell
 names : ∀ y ∈ scope.names,y.2 = .local -> scope.names.lookup y.1 = some .local
 clos : zpr X scope cl
 srco : zr8 X N' src
 vis : ∀ (i : Nat) x,N'[i]? = some x -> src[i]? ≠ some none -> (relabel scope X.env).names.lookup x = some .cell \/ (relabel scope X.env).names.lookup x = some .free
theorem zi1 {it : Addr} {fp : List Addr} {tn : Nat -> Heap -> Prop} {J : It} {RQ : Addr -> Hp -> Prop} {E : Value -> Shared -> Prop} {RR : Value -> Addr -> Result -> Shared -> Prop}
   (TC : ∀ C s₀ H₀,zr3 (zbp X N' scope cl C s₀ H₀ fp pins) tgt J fp it tn) (ok : zbl X N' scope cl src)
   (hg : ∀ C s₀ H₀ fp pins,PG (zbp X N' scope cl C s₀ H₀ fp pins) tgt g) (ht : ∀ C s₀ H₀ fp pins,PTs (zbp X N' scope cl C s₀ H₀ fp pins) ifs tt) (he : ∀ C s₀ H₀ fp pins,PE (zbp X N' scope cl C s₀ H₀ fp pins) elt te)
   (I : Inv X pins σ H s) (T : zkv X.prog X.w X.K tgt J fp it tn) (st : tn 0 s.heap) (hf : ∀ b ∈ fp,zej X pins H b)
   (rd : ∀ D,H D = none -> zfw g tt te J D (za4 src σ) (upd H D (.lst [])) (fun H'=>RQ D H'))
   (hRR : ∀ D C H' s' m,Inv X pins σ H' s' -> s'.heap.Ns C m -> zej X pins H' C -> RQ D H' -> RR (.ref D) C (.ok .next) s') :
   wpAny (model X.prog X.w) X.A (newList []) (fun acc s₃=>wpAny (model X.prog X.w) X.A (newFunctionEnv scope X.env.globals cl [] X.env.qual none .none (some X.env)) (fun cenv s₄ =>
     codeAny (model X.prog X.w) X.A (.compStart (.ListComp elt [⟨tgt,iter,ifs,0⟩] scope pos) 0 (.ref it) acc { cenv with scope:=relabel scope X.env }) (RR acc cenv.locals) s₄) E s₃) E s:=by
 -- the list
 refine wpAny_newObj_type ?_ (by show 0 <= sizeLine; exact Nat.zero_le _)
 have hD : H s.heap.objs.size = none:=I.hok.fresh (Nat.le_refl _)
 have I3 : Inv X pins σ (upd H s.heap.objs.size (.lst [])) { s with heap:=s.heap.push { cls:=.type "list",data:=.seq ([] : List Value).toArray } } :=
   I.lnew (ys:=[]) (its:=[]) (t':=s.toks) .nil (Nat.zero_le _)
 have old3 : ∀ b o,s.heap.get? b = some o -> (s.heap.push { cls:=.type "list",data:=.seq ([] : List Value).toArray }).get? b = some o:=fun b o e=>Heap.get?_push_of_some _ e
 have lt0 : ∀ b ∈ fp,b < s.heap.objs.size:=fun b hb=>by
   obtain ⟨o,e,_⟩:=T.obj 0 _ st b hb
   exact Heap.lt_size e
 have hf3 : ∀ b ∈ fp,zej X pins (upd H s.heap.objs.size (.lst [])) b:=fun b hb=>⟨by rw [zaG (Nat.ne_of_lt (lt0 b hb))]; exact (hf b hb).1,(hf b hb).2⟩
 have lt3 : ∀ b ∈ fp,b < (s.heap.push { cls:=.type "list",data:=.seq ([] : List Value).toArray }).objs.size:=fun b hb=>by
   rw [Heap.size_push]; exact Nat.lt_succ_of_lt (lt0 b hb)
 have st3 : tn 0 (s.heap.push { cls:=.type "list",data:=.seq ([] : List Value).toArray }):=T.keep _ _ _ st fun b _ o e=>old3 b o e
 obtain ⟨W,⟨m0,w0⟩,turn⟩:=rd _ hD
 generalize hs3 : ({ s with heap:=s.heap.push { cls:=.type "list",data:=.seq ([] : List Value).toArray } } : Shared) = s3 at I3 ⊢
 have hh3 : s3.heap = s.heap.push { cls:=.type "list",data:=.seq ([] : List Value).toArray }:=by rw [<- hs3]
 rw [<- hh3] at lt3 st3
 clear old3 hs3 hh3
 generalize hD' : s.heap.objs.size = D at *
 -- the block's dict
 refine wpAny_newFunctionEnv ok.cell (by intro y hy; cases hy) (fun h₁ hns₁ hsb₁=>?_) ok.kind
 have old : ∀ b o,s3.heap.get? b = some o -> h₁.get? b = some o:=fun b o e=>hsb₁.extBut b o (Nat.ne_of_lt (Heap.lt_size e)) (Heap.get?_push_of_some _ e)
 have hC : zej X pins (upd H D (.lst [])) s3.heap.objs.size:=I3.fpOk (Nat.le_refl _) (I3.hok.fresh (Nat.le_refl _))
 have IB : ∀ tk,Inv (zbp X N' scope cl s3.heap.objs.size s3 (upd H D (.lst [])) fp pins) [] (za4 src σ) (upd H D (.lst [])) { s3 with heap:=h₁,toks:=tk }:=fun tk =>
   I3.block ok.kind ok.clos ok.srco hf3 lt3 hns₁ old ok.vis
 have stB : tn 0 h₁:=T.keep _ _ _ st3 fun b _ o e=>old b o e
 -- what is true of the iterator's records within
 have stat : ∀ {H' : Hp} ,(∀ b ∈ fp,H' b = none) -> ∀ b ∈ fp,zej (zbp X N' scope cl s3.heap.objs.size s3 (upd H D (.lst [])) fp pins) [] H' b:=fun hn b hb=>by
   obtain ⟨_,f1,f2,f3,f4,f5⟩:=hf3 b hb
   refine ⟨hn b hb,Nat.ne_of_lt (lt3 b hb),fun z=>(List.mem_cons.mp (I3.stkSub b z)).elim f1 f2,.inl hb,fun x c e=>f4 x c (ok.clos.sub x c e),fun p hp=>?_⟩
   have hp' : p ∈ (X.pn ++ pins) ++ []:=hp
   rw [List.append_nil] at hp'
   exact f5 p hp'
 -- from within back to the frame around
 have back : ∀ {σ' : St} {H' : Hp} {s' : Shared},Inv (zbp X N' scope cl s3.heap.objs.size s3 (upd H D (.lst [])) fp pins) [] σ' H' s' -> Inv X pins σ H' s' /\ (∃ m,s'.heap.Ns s3.heap.objs.size m) /\ zej X pins H' s3.heap.objs.size:=fun {σ' H' s'} J=>by
   obtain ⟨m,hn,_⟩:=J.loc
   refine ⟨I3.call' (ch:=fp) J.os J.base J.hok J.bare (fun b hb=>?_),⟨m,hn⟩,⟨J.free,hC.2⟩⟩
   obtain ⟨_,f1,_,f3,f4,f5⟩:=hf3 b hb
   exact ⟨f3,f1,f4,f5⟩
 have loop : ∀ tk,codeAny (model X.prog X.w) X.A (.compLoop (.ListComp elt [⟨tgt,iter,ifs,0⟩] scope pos) 0 (.ref it) (.ref D) (compEnvC scope cl s3.heap.objs.size X.env)) (RR (.ref D) s3.heap.objs.size) { s3 with heap:=h₁,toks:=tk }:=by
   intro tk
   refine zj9 (fun n s'=>∃ i σ' H',Inv (zbp X N' scope cl s3.heap.objs.size s3 (upd H D (.lst [])) fp pins) [] σ' H' s' /\ tn i s'.heap /\ (∀ b ∈ fp,H' b = none) /\ W i n σ' H') ?_ m0
     ⟨0,_,_,IB tk,stB,fun b hb=>(hf3 b hb).1,w0⟩
   rintro n s4 ⟨i,σ4,H4,I4,st4,fr4,w4⟩
   rcases turn i n σ4 H4 w4 with ⟨stop,q⟩ | ⟨go,M,hM,step⟩
   . refine thn ((TC _ _ _).done i [] s4 σ4 H4 (fun _ _=>False) I4 (stat fr4) st4 stop) fun r s5 ⟨hr,I5⟩=>?_
     subst hr
     obtain ⟨J,⟨m,hn⟩,hCf⟩:=back I5
     exact hRR D _ H4 s5 m J hn hCf q
   . refine thn ((TC _ _ _).item i [] s4 σ4 H4 (fun _ _=>False) I4 (stat fr4) st4 go) fun r s5 ⟨u,hr,h5⟩=>?_
     subst hr
     refine thn h5 fun _ s6 ⟨x,H6,I6,r6,y6,st6,fr6⟩=>?_
     have I6':=I6.pinned (stat fr6) (T.obj _ _ st6)
     have again : ∀ {σ7 : St} {H7 : Hp} {s7 : Shared},Inv (zbp X N' scope cl s3.heap.objs.size s3 (upd H D (.lst [])) fp pins) ([] ++ zhY fp s6.heap) σ7 H7 s7 -> M σ7 H7 ->
         ∃ m,m < n /\ ∃ i σ' H',Inv (zbp X N' scope cl s3.heap.objs.size s3 (upd H D (.lst [])) fp pins) [] σ' H' s7 /\ tn i s7.heap /\ (∀ b ∈ fp,H' b = none) /\ W i m σ' H':=fun {σ7 H7 s7} I7 n7=>by
       obtain ⟨m',hm,w7⟩:=hM σ7 H7 n7
       refine ⟨m',hm,i + 1,σ7,H7,I7.unpinned,T.keep _ _ _ st6 fun b hb o e=>(I7.pin (b,o) (List.mem_append_right _ (List.mem_append_right _ (zdW hb e)))).1,fun b hb=>?_,w7⟩
       obtain ⟨o,e,d⟩:=T.obj _ _ st6 b hb
       exact (I7.pin (b,o) (List.mem_append_right _ (List.mem_append_right _ (zdW hb e)))).2.1
     refine thn (hg _ _ _ _ _ _ s6 σ4 H6 x u _ I6' r6 (step x H6 y6)) fun _ s7 ⟨σ7,H7,I7,q7⟩=>?_
     refine thn (ht _ _ _ _ _ _ s7 σ7 H7 _ I7 q7) fun k s8 ⟨H8,I8,q8⟩=>?_
     cases k with
     | false=>exact again I8 q8
     | true =>
       rw [if_pos rfl] at q8 ⊢
       refine thn (he _ _ _ _ _ _ s8 σ7 H8 _ I8 q8) fun y s9 ⟨yv,H9,I9,r9,ys,hys,hz,q9⟩=>?_
       exact thn (zeG _ s9 σ7 H9 (.ref D) [yv] (.ref D) [y] (fun _ H'=>M σ7 H') I9 rfl (.cons r9 .nil) ⟨D,ys,yv,rfl,rfl,hys,hz,q9⟩) fun _ s10 ⟨_,H10,I10,_,q10⟩=>again I10 q10
 exact codeAny_compStart_list (loop _) (T.self _ _ _ _ _ stB (loop _))
theorem zbT (hc : X.calm = true) (ok : zbl X N' scope cl src) (hi : PI X tgt iter wi)
   (hg : ∀ C s₀ H₀ fp pins,PG (zbp X N' scope cl C s₀ H₀ fp pins) tgt g) (ht : ∀ C s₀ H₀ fp pins,PTs (zbp X N' scope cl C s₀ H₀ fp pins) ifs tt) (he : ∀ C s₀ H₀ fp pins,PE (zbp X N' scope cl C s₀ H₀ fp pins) elt te)
   (hs : ∀ x,foldedSetIterable iter X.env x = pure x:=by intro _; rfl) : PE X (.ListComp elt [⟨tgt,iter,ifs,0⟩] scope pos) (zh0 src wi g tt te):=by
 intro pins s σ H Q I h
 rw [eval_ListComp]
 refine wpAny_comprehension_free (use:=none) rfl hs ok.clos.clos ok.kind ok.names (thn (hi pins s σ H _ I h) fun v s1 h1=>thn h1 fun itv s2 h2=>?_)
 obtain ⟨it,fp,tn,J,H2,e,I2,T,st2,f2,rd⟩:=h2
 subst e
 refine zi1 (RQ:=fun D H'=>Q (.ref D) H') (RR:=fun acc C=>compPost (model X.prog X.w) X.A X.xe none (EP X pins σ Q) acc C) (fun _ _ _=>T.toC rfl rfl rfl hc) ok hg ht he I2 T st2 f2 rd ?_
 intro D C H' s' m J hn hC q
 obtain ⟨c0,c1,_,c3,c4,c5⟩:=hC
 exact ⟨m,hn,fun h' sb=>⟨.ref D,H',J.turned (t':=s'.toks) (fun b o hb e=>(sb.2 b hb).trans e) c0 c1 c3 c4 c5,rfl,q⟩⟩
theorem zio {i : Nat} {y : Str} {py spos : Pos} (hN : X.N.Nodup) (hy : X.N[i]? = some y) (hly : Loc X.env.scope y) (hc : X.calm = true) (ok : zbl X N' scope cl src) (hi : PI X tgt iter wi)
   (hg : ∀ C s₀ H₀ fp pins,PG (zbp X N' scope cl C s₀ H₀ fp pins) tgt g) (ht : ∀ C s₀ H₀ fp pins,PTs (zbp X N' scope cl C s₀ H₀ fp pins) ifs tt) (he : ∀ C s₀ H₀ fp pins,PE (zbp X N' scope cl C s₀ H₀ fp pins) elt te)
   (hsw : swapsWith (.ListComp elt [⟨tgt,iter,ifs,0⟩] scope pos) (some (.Name y py)) spos.line X.env = pure true:=by rfl)
   (hs : ∀ x,foldedSetIterable iter X.env x = pure x:=by intro _; rfl) (hf : X.fn y = true \/ X.env.scope.names.lookup y = some .local:=by first | exact .inl rfl | exact .inr rfl | assumption) :
   PS X (.Assign [.Name y py] (.ListComp elt [⟨tgt,iter,ifs,0⟩] scope pos) spos) (zow (zh0 src wi g tt te) (zif i)):=by
 intro pins s σ H D0 I h
 rw [exec_Assign_Name_used _ _ _ _ hsw]
 refine wpAny_bind (wpAny_standAt (wpAny_bind ?_))
 show wpAny _ X.A (do let _ <- comprehension (.ListComp elt [⟨tgt,iter,ifs,0⟩] scope pos) scope X.env _ (newList []) false (eval iter X.env) (some (assign (.Name y py) X.env))) _ _ s
 refine wpAny_bind (wpAny_mono (wpAny_comprehension_free (Q:=fun _ s'=>SP X pins D0 .next s') rfl hs ok.clos.clos ok.kind ok.names (thn (hi pins s σ H _ I h) fun v s1 h1=>thn h1 fun itv s2 h2=>?_))
   (fun _ s' hq=>wpAny_pure (wpAny_pure hq)) fun _ _ e=>e)
 obtain ⟨it,fp,tn,J,H2,e,I2,T,st2,f2,rd⟩:=h2
 subst e
 refine zi1 (RQ:=fun D H'=>zif i (.ref D) σ H' D0.nx) (RR:=fun acc C=>compPost (model X.prog X.w) X.A X.xe (some (assign (.Name y py) X.env)) (fun _ s'=>SP X pins D0 .next s') acc C) (fun _ _ _=>T.toC rfl rfl rfl hc) ok hg ht he I2 T st2 f2 rd ?_
 intro D C H' s' m J hn hC q
 obtain ⟨c0,c1,_,c3,c4,c5⟩:=hC
 show wpAny _ _ (assign (.Name y py) X.env (.ref D)) _ _ s'
 refine wpAny_assign_Name (zi2 J hN hy hly (v:=.ref D) rfl (fun s'' J2 ⟨a,sb,ha⟩=>?_) hf)
 have hCa : C ≠ a:=by
   rcases ha with z | z
   . rw [z]; exact c1
   . exact (c4 y a z).symm
 exact ⟨m,hn.sameBut sb hCa,fun h' sb'=>⟨_,H',J2.turned (t':=s''.toks) (fun b o hb e=>(sb'.2 b hb).trans e) c0 c1 c3 c4 c5,q⟩⟩
end
end L2
set_option Elab.async false
set_option linter.all false
set_option maxRecDepth 100000
namespace L2
open PySem PySem.Spec PyProof.Rows GM
abbrev Tr0 (h B : Heap) (e : Addr) (cls : Value) : Prop :=
 ∃ oe vs,h.get? e = some oe /\ oe.cls = cls /\ oe.data = .fields vs /\ vs[1]? = some .none /\ vs[2]? = some .none /\ oe.dict = none /\ B.get? e = none
abbrev Tr1 (h B : Heap) (e : Addr) (cls fl : Value) : Prop :=
 ∃ oe vs T oT ts,h.get? e = some oe /\ oe.cls = cls /\ oe.data = .fields vs /\ vs[1]? = some (.ref T) /\ vs[2]? = some .none /\ oe.dict = none /\ B.get? e = none /\ B.get? T = none /\ T ≠ e /\ h.get? T = some oT /\ oT.data = .fields ts /\ ts[3]? = some fl
structure Fly (B : Heap) (l : List Env) (e : Addr) (cls fl : Value) (h : Heap) : Prop where
 st : B.StaysIn h
 fr : h.FunFrames B l
 tr : Tr1 h B e cls fl
theorem zkF {f : Array Value -> Array Value} (o : Obj) : (Obj.mapFields f o).dict = o.dict:=by
 obtain ⟨c,d,dt,sl⟩:=o
 cases dt <;> rfl
theorem zcP {h : Heap} {T : Addr} {f : Obj -> Obj} {b : Addr} (n : b ≠ T) : (h.update T f).get? b = h.get? b:=Heap.get?_update_other _ _ (Ne.symm n)
theorem zeM {h : Heap} {T b : Addr} {oT o : Obj} {ts : Array Value} (hT : h.get? T = some oT) (dT : oT.data = .fields ts) (hb : h.get? b = some o) (hn : ∀ vs,o.data ≠ .fields vs) : b ≠ T:=by
 rintro rfl
 rw [hT] at hb
 cases hb
 exact hn _ dT
theorem zl2 {B : Heap} {T b : Addr} {o : Obj} (n : B.get? T = none) (q : B.get? b = some o) : b ≠ T:=by
 rintro rfl
 rw [n] at q
 cases q
section
variable {M : Model} {A : Around} {E : Value -> Shared -> Prop} {s : Shared} {B : Heap} {l outer : List Env} {env : Env} {L e : Addr} {cls fl : Value} {Q : Unit -> Shared -> Prop}
theorem Fly.land (F : Fly B l e cls fl s.heap) (k : ∀ h',Fly B l e cls .none h' -> s.heap.UpToSlots h' -> Q () { s with heap:=h' }) : wpAny M A (setFlight (.ref e) none) Q E s:=by
 obtain ⟨st,fr,oe,vs,T,oT,ts,he,hc,hd,h1,h2,hdi,be,bT,ne,hT,dT,h3⟩:=F
 have sz : 3 < ts.size:=(Array.getElem?_eq_some_iff.mp h3).1
 unfold setFlight
 refine wpAny_bind (wpAny_field he hd h1 ?_)
 rw [if_pos (by simp)]
 have at3 : ∀ b,b ≠ T -> (s.heap.update T (Obj.mapFields (·.setIfInBounds 3 Value.none))).get? b = s.heap.get? b:=fun b n=>zcP n
 have tr : Tr1 (s.heap.update T (Obj.mapFields (·.setIfInBounds 3 Value.none))) B e cls .none :=
   ⟨oe,vs,T,Obj.mapFields (·.setIfInBounds 3 Value.none) oT,ts.setIfInBounds 3 Value.none,(at3 e ne.symm).trans he,hc,hd,h1,h2,hdi,be,bT,ne,
     Heap.get?_update_self _ hT (Obj.isFreed_of_fields (Obj.data_mapFields dT _)),Obj.data_mapFields dT _,by simp [sz]⟩
 refine wpAny_setField hT dT sz (k _ ⟨fun b o q=>(at3 b (zl2 bT q)).trans (st b o q),fr.of_keeps fun b o hb hn=>⟨o,(at3 b (zeM hT dT hb hn)).trans hb,rfl⟩,tr⟩ fun b o hb hn=>⟨o.slots,(at3 b (zeM hT dT hb hn)).trans hb⟩)
theorem zjp {oe : Obj} {vs : Array Value} {head : Value} {had : Bool} (hfr : A.frames = some (env :: outer)) (hf : env.frame = some L) (st : B.StaysIn s.heap) (fr : s.heap.FunFrames B (env :: outer)) (he : s.heap.get? e = some oe)
   (hd : oe.data = .fields vs) (sz : 1 < vs.size) (h2 : vs[2]? = some .none) (hdi : oe.dict = none) (be : B.get? e = none) (k : ∀ h',Fly B (env :: outer) e oe.cls (rawInt L) h' -> s.heap.UpToSlots h' -> Q () { s with heap:=h' }) :
   wpAny M A (do let a <- frameOf env; let pl <- entryPlaceOf L had; let b <- EntryCells.newEntry head a .none (rawInt L) .none pl; setField (.ref e) 1 b) Q E s:=by
 have nfr : e ∉ (env :: outer).filterMap (·.frame):=fun z=>by
   obtain ⟨_,o,ho,hnf⟩:=fr.mem z
   rw [he] at ho
   cases ho
   exact hnf vs hd
 refine wpAny_bind (wpAny_frameOf_fun hfr fr hf fun g sg=>wpAny_bind (wpAny_entryPlaceOf fun pl hpl=>?_))
 unfold EntryCells.newEntry newFields
 refine wpAny_bind (wpAny_newObj_type ?_ (hpl.sizeOk5 _ _ _ _ _))
 have eg : g.get? e = some oe:=(sg.2.1 e nfr).trans he
 have stg : B.StaysIn g:=fun b o q=>by
   rw [sg.2.1 b fun z=>?_]
   . exact st b o q
   . rw [(fr.mem z).1] at q; cases q
 generalize hob : ({ cls:=.type "traceback",data:=.fields ([head,.ref L,.none,rawInt L,.none] ++ (if pl.isEmpty then List.replicate 6 Value.none else pl)).toArray } : Obj) = tb
 have dtb : tb.data = .fields ([head,.ref L,.none,rawInt L,.none] ++ (if pl.isEmpty then List.replicate 6 Value.none else pl)).toArray:=by rw [<- hob]
 have ftb : tb.isFreed = false:=Obj.isFreed_of_fields dtb
 have e2:=Heap.get?_push_of_some (h:=g) tb eg
 have neT : g.objs.size ≠ e:=Nat.ne_of_gt (Heap.lt_size eg)
 have at3 : ∀ b o,b ≠ e -> g.get? b = some o -> ((g.push tb).update e (Obj.mapFields (·.setIfInBounds 1 (.ref g.objs.size)))).get? b = some o:=fun b o n q=>by
   rw [zcP n]
   exact Heap.get?_push_of_some _ q
 refine wpAny_setField e2 hd sz (k _ ?_ ?_)
 . have d3:=Obj.data_mapFields hd (·.setIfInBounds 1 (Value.ref g.objs.size))
   refine ⟨fun b o q=>at3 b o (zl2 be q) (stg b o q),fr.of_keeps fun b o hb hn=>?_,_,_,g.objs.size,tb,_,Heap.get?_update_self _ e2 (Obj.isFreed_of_fields d3),Obj.cls_mapFields _ _,d3,by simp [sz],?_,?_,be,stg.fresh,neT,?_,dtb,?_⟩
   . obtain ⟨sl,q⟩:=sg.2.2 b o hb
     exact ⟨_,at3 b _ (zeM he hd hb hn) q,rfl⟩
   . rw [Array.getElem?_setIfInBounds_ne (by decide)]; exact h2
   . exact (zkF oe).trans hdi
   . rw [zcP neT]; exact Heap.get?_push_size _ ftb
   . first | (simp; done) | (rcases hpl with rfl | ⟨_,_,_,_,_,_,_,rfl⟩ <;> simp)
 . exact fun b o hb hn=>by
     obtain ⟨sl,q⟩:=sg.2.2 b o hb
     exact ⟨sl,at3 b _ (zeM he hd hb hn) q⟩
theorem znY (hfr : A.frames = some (env :: outer)) (hf : env.frame = some L) (st : B.StaysIn s.heap) (fr : s.heap.FunFrames B (env :: outer)) (t : Tr0 s.heap B e cls)
   (k : ∀ h',Fly B (env :: outer) e cls (rawInt L) h' -> s.heap.UpToSlots h' -> Q () { s with heap:=h' }) : wpAny M A (noteFrame (.ref e) env) Q E s:=by
 obtain ⟨oe,vs,he,hc,hd,h1,h2,hdi,be⟩:=t
 subst hc
 unfold noteFrame
 simp only [hf]
 refine wpAny_bind (wpAny_field he hd h1 ?_)
 rw [if_neg (by decide)]
 exact zjp hfr hf st fr he hd (Array.getElem?_eq_some_iff.mp h1).1 h2 hdi be k
theorem Fly.note (F : Fly B (env :: outer) e cls .none s.heap) (hfr : A.frames = some (env :: outer)) (hf : env.frame = some L)
   (k : ∀ h',Fly B (env :: outer) e cls (rawInt L) h' -> s.heap.UpToSlots h' -> Q () { s with heap:=h' }) : wpAny M A (noteFrame (.ref e) env) Q E s:=by
 obtain ⟨st,fr,oe,vs,T,oT,ts,he,hc,hd,h1,h2,hdi,be,bT,ne,hT,dT,h3⟩:=F
 subst hc
 unfold noteFrame
 simp only [hf]
 refine wpAny_bind (wpAny_field he hd h1 ?_)
 rw [if_pos (by simp)]
 refine wpAny_bind (wpAny_field hT dT h3 ?_)
 rw [if_neg (by simp [rawInt])]
 refine wpAny_bind (wpAny_setField hT dT (Array.getElem?_eq_some_iff.mp h3).1 ?_)
 refine zjp hfr hf (fun b o q=>?_) (fr.of_keeps fun b o hb hn=>⟨o,?_,rfl⟩) ?_ hd (Array.getElem?_eq_some_iff.mp h1).1 h2 hdi be fun h' F' sm=>k h' F' fun b o hb hn=>sm b o ?_ hn
 . show (Heap.update _ _ _).get? b = _
   rw [zcP (zl2 bT q)]; exact st b o q
 . show (Heap.update _ _ _).get? b = _
   rw [zcP (zeM hT dT hb hn)]; exact hb
 . show (Heap.update _ _ _).get? e = _
   rw [zcP ne.symm]; exact he
 . show (Heap.update _ _ _).get? b = _
   rw [zcP (zeM hT dT hb hn)]; exact hb
theorem zlQ (hfr : A.frames = some (env :: outer)) (hf : env.frame = some L) (st : B.StaysIn s.heap) (fr : s.heap.FunFrames B (env :: outer)) (t : Tr0 s.heap B e cls)
   (k : ∀ h',Fly B outer e cls .none h' -> s.heap.UpToSlots h' -> Q () { s with heap:=h' }) : wpAny M A (leaving env (.ref e)) Q E s:=by
 unfold leaving
 refine wpAny_bind (znY hfr hf st fr t fun h1 F1 s1=>Fly.land F1 fun h2 F2 s2=>k h2 ⟨F2.st,F2.fr.2.2,F2.tr⟩ (s1.trans s2))
theorem Fly.leave (F : Fly B (env :: outer) e cls .none s.heap) (hfr : A.frames = some (env :: outer)) (hf : env.frame = some L)
   (k : ∀ h',Fly B outer e cls .none h' -> s.heap.UpToSlots h' -> Q () { s with heap:=h' }) : wpAny M A (leaving env (.ref e)) Q E s:=by
 unfold leaving
 refine wpAny_bind (F.note hfr hf fun h1 F1 s1=>Fly.land F1 fun h2 F2 s2=>k h2 ⟨F2.st,F2.fr.2.2,F2.tr⟩ (s1.trans s2))
end
theorem zbM.there {P : Program} {w : World} {H : Hp} {h : Heap} {a : Addr} {o : HO} (x : zbM P w H h a o) : ∃ u,h.get? a = some u:=by
 cases o with
 | lst xs=>obtain ⟨_,_,_,_,e⟩:=x; exact ⟨_,e⟩
 | tup xs=>obtain ⟨_,_,_,_,e,_⟩:=x; exact ⟨_,e⟩
 | dK kvs=>obtain ⟨_,_,_,_,o,_,_,e,_⟩:=x; exact ⟨_,e⟩
 | dT kvs=>obtain ⟨_,_,_,_,o,_,_,e,_⟩:=x; exact ⟨_,e⟩
 | set S n=>obtain ⟨o,_,_,_,e,_⟩:=x; exact ⟨_,e⟩
 | ins C dx fs=>obtain ⟨_,_,_,e,_⟩:=x; exact ⟨_,e⟩
 | own y=>exact x
 | xd fs=>obtain ⟨_,⟨_,_,_,e,_⟩,_⟩:=x; exact ⟨_,e⟩
 | rng lo hi=>obtain ⟨_,_,_,e⟩:=x; exact ⟨_,e⟩
 | frz ob u=>obtain ⟨e,_⟩:=x; exact ⟨_,e⟩
 | tbl ps=>exact ⟨_,x⟩
 | met f y=>exact ⟨_,x⟩
 | ext φ=>obtain ⟨_,e,_⟩:=x; exact e
structure znJ (B : Heap) (fs : List Addr) (H H' : Hp) (h : Heap) : Prop where
 trk : ∀ a o,H' a = some o -> ∃ u,B.get? a = some u
 old : ∀ b o,h.get? b = some o -> H b = none -> b ∉ fs -> B.get? b = some o
 thr : ∀ b o,h.get? b = some o -> b ∉ fs -> ∃ u,B.get? b = some u
def CX1 (P : Program) (w : World) : CXT:=fun outer H s E e s'=>∃ (ex : Addr) (C : Value) (H' : Hp) (B : Heap),e = .ref ex /\ s'.os = s.os /\ AllBare s'.gens /\ Un (frs outer) [] H H' s.heap s'.heap /\ HOk P w H' s'.heap /\
 Fly B outer ex C .none s'.heap /\ znJ B (frs outer) H H' s.heap /\ E C none H'
section
variable {B h h1 h' : Heap} {fs : List Addr} {H H' : Hp} {P : Program} {w : World}
theorem znJ.un (ov : znJ B fs H H' h) (un : Un fs [] H H' h h1) (hfs : ∀ b ∈ fs,H b = none /\ ∃ o,h.get? b = some o /\ ∀ vs,o.data ≠ .fields vs) (st : B.StaysIn h') (sm : h1.UpToSlots h') : Un fs [] H H' h h':=by
 have slot : ∀ b o,h.get? b = some o -> b ∈ fs -> ∃ sl,h'.get? b = some { o with slots:=sl }:=fun b o e hb=>by
   obtain ⟨n,o',ho',nr⟩:=hfs b hb
   rw [e] at ho'
   cases ho'
   obtain ⟨sl,e1⟩:=un.any e n (by simp)
   obtain ⟨sl2,e2⟩:=sm b _ e1 nr
   exact ⟨sl2,e2⟩
 refine ⟨fun b o e n nf _=>st b o (ov.old b o e n nf),fun b o e _ hb _=>slot b o e hb,un.free,fun b o e _=>?_,un.tups,un.frzs,un.tbls⟩
 by_cases hb : b ∈ fs
 . obtain ⟨sl,e1⟩:=slot b o e hb
   exact ⟨_,e1⟩
 . obtain ⟨u,e1⟩:=ov.thr b o e hb
   exact ⟨u,st b u e1⟩
theorem znJ.hok (ov : znJ B fs H H' h) (hok : HOk P w H' h1) (st1 : B.StaysIn h1) (st : B.StaysIn h') : HOk P w H' h':=fun a o e=>by
 refine (hok a o e).stay (fun b u hb r=>?_) (fun _ z=>z) fun _ _ z=>z
 have : ∃ v,B.get? b = some v:=by
   rcases hb with rfl | hb
   . exact ov.trk _ _ e
   . exact ov.trk _ _ hb
 obtain ⟨v,ev⟩:=this
 have e2:=st1 b v ev
 rw [r] at e2
 cases e2
 exact st b u ev
end
section
variable {X : Cx} {pins : List (Addr × Obj)} {σ : St} {H H' : Hp} {s s' : Shared} {B : Heap} {ex : Addr} {C : Value} {E : XK} {E' : Value -> Shared -> Prop}
theorem zgW (I : Inv X pins σ H s) (hx : X.ex = []) (os : s'.os = s.os) (bare : AllBare s'.gens) (un : Un (frs X.stack) [] H H' s.heap s'.heap) (hok : HOk X.prog X.w H' s'.heap) (stB : B.StaysIn s'.heap) (ov : znJ B (frs X.stack) H H' s.heap)
   (q : E C none H') (fly : ∀ (Q : Unit -> Shared -> Prop),(∀ h',Fly B X.outer ex C .none h' -> s'.heap.UpToSlots h' -> Q () { s' with heap:=h' }) -> wpAny (model X.prog X.w) X.A (leaving X.env (.ref ex)) Q E' s') :
   wpAny (model X.prog X.w) X.A (leaving X.env (.ref ex)) (fun _ s''=>CX1 X.prog X.w X.outer X.H₀ X.s₀ E (.ref ex) s'') E' s':=by
 have base : Un X.fs [] X.H₀ H X.s₀.heap s.heap:=by have:=I.base; rwa [hx] at this
 have nL : ∀ b o,X.s₀.heap.get? b = some o -> b ∉ X.fs -> b ∉ frs X.stack:=fun b o e n z=>by
   rcases List.mem_cons.mp (I.stkSub b z) with r | r
   . exact Nat.ne_of_lt (Nat.lt_of_lt_of_le (Heap.lt_size e) I.ok.above) r
   . exact n r
 have old : ∀ b o,X.s₀.heap.get? b = some o -> X.H₀ b = none -> b ∉ X.fs -> B.get? b = some o:=fun b o e n nf =>
   ov.old b o (base.keep b o e n nf (by simp)) (base.free b o e n (by simp)) (nL b o e nf)
 have thr : ∀ b o,X.s₀.heap.get? b = some o -> b ∉ X.fs -> ∃ u,B.get? b = some u:=fun b o e nf=>by
   obtain ⟨o',e1⟩:=base.there b o e (by simp)
   exact ov.thr b o' e1 (nL b o e nf)
 refine fly _ fun h' F sm=>⟨ex,C,H',B,rfl,os.trans I.os,bare,⟨fun b o e n nf _=>F.st b o (old b o e n nf),fun b o e n hb _=>?_,fun b o e n _=>?_,fun b o e _=>?_,fun b xs e=>un.tups b xs (base.tups b xs e),
   fun b o u e=>un.frzs b o u (base.frzs b o u e),fun b ps e=>?_⟩,fun a o e=>?_,F,⟨ov.trk,old,thr⟩,q⟩
 . obtain ⟨sl,e1⟩:=base.slot b o e n hb (by simp)
   obtain ⟨sl',e2⟩:=un.any e1 (base.free b o e n (by simp)) (by simp)
   obtain ⟨_,o',ho',nr⟩:=I.ok.funs.mem hb
   rw [e] at ho'
   cases ho'
   obtain ⟨sl2,e3⟩:=sm b _ e2 nr
   exact ⟨sl2,e3⟩
 . obtain ⟨o',e1⟩:=base.there b o e (by simp)
   exact un.free b o' e1 (base.free b o e n (by simp)) (by simp)
 . by_cases hb : b ∈ X.fs
   . obtain ⟨_,o',ho',nr⟩:=I.ok.funs.mem hb
     rw [e] at ho'
     cases ho'
     have n : X.H₀ b = none:=I.ok.frf b hb
     obtain ⟨sl,e1⟩:=base.slot b o e n hb (by simp)
     obtain ⟨sl',e2⟩:=un.any e1 (base.free b o e n (by simp)) (by simp)
     obtain ⟨sl2,e3⟩:=sm b _ e2 nr
     exact ⟨_,e3⟩
   . obtain ⟨u,e1⟩:=thr b o e hb
     exact ⟨u,F.st b u e1⟩
 . obtain ⟨m1,e1⟩:=base.tbls b ps e
   obtain ⟨m2,e2⟩:=un.tbls b _ e1
   exact ⟨m1 ++ m2,by rw [e2,Array.append_assoc]⟩
 . refine (hok a o e).stay (fun b u hb r=>?_) (fun _ z=>z) fun _ _ z=>z
   have : ∃ v,B.get? b = some v:=by
     rcases hb with rfl | hb
     . exact ov.trk _ _ e
     . exact ov.trk _ _ hb
   obtain ⟨v,ev⟩:=this
   have e2:=stB b v ev
   rw [r] at e2
   cases e2
   exact F.st b u ev
theorem znM {e : Value} (I : Inv X pins σ H s) (hx : X.ex = []) (hs : X.stack = X.env :: X.outer) (hf : X.env.frame = some X.env.locals) (h : CX1 X.prog X.w X.stack H s E e s') :
   wpAny (model X.prog X.w) X.A (leaving X.env e) (fun _ s''=>CX1 X.prog X.w X.outer X.H₀ X.s₀ E e s'') E' s':=by
 obtain ⟨ex,C,H',B,rfl,os,bare,un,hok,F,ov,q⟩:=h
 rw [hs] at F
 exact zgW I hx os bare un hok F.st ov q fun Q k=>F.leave (I.ok.frames.trans (congrArg some hs)) hf k
theorem zmy {h' : Heap} {vs : List Value} (I : Inv X pins σ H s) (hx : X.ex = []) (hs : X.stack = X.env :: X.outer) (hf : X.env.frame = some X.env.locals) (m : Heap.MadeExcOf s.heap h' ex C vs) (q : E C none H) :
   wpAny (model X.prog X.w) X.A (leaving X.env (.ref ex)) (fun _ s''=>CX1 X.prog X.w X.outer X.H₀ X.s₀ E (.ref ex) s'') E' { s with heap:=h' }:=by
 obtain ⟨B,hB⟩ : ∃ B,B = PySem.W.hideAll s.heap (frs X.stack):=⟨_,rfl⟩
 have hin : ∀ env ∈ X.stack,∀ b,env.frame = some b -> b ∈ frs X.stack:=fun env he b hb=>List.mem_filterMap.mpr ⟨env,he,hb⟩
 have frB : s.heap.FunFrames B X.stack:=by rw [hB]; exact PySem.W.funFrames_hide I.stack hin
 have getB : ∀ {b o},s.heap.get? b = some o -> b ∉ frs X.stack -> B.get? b = some o:=fun e n=>by rw [hB]; exact PySem.W.hideAll_get _ e n
 have ofB : ∀ {b o},B.get? b = some o -> s.heap.get? b = some o:=fun r=>by rw [hB] at r; exact PySem.W.of_hideAll _ r
 have nfr : ∀ a o,H a = some o -> a ∉ frs X.stack:=fun a o e z=>by
   have:=I.stkFree a z
   rw [e] at this
   cases this
 obtain ⟨t,he,_,_⟩:=m.there
 refine zgW (B:=B) (s':={ s with heap:=h' }) I hx rfl I.bare (Un.kept m.keeps) (I.hok.kept m.keeps) (fun b o r=>m.keeps b o (ofB r))
   ⟨fun a o e=>?_,fun b o e _ nf=>getB e nf,fun b o e nf=>⟨o,getB e nf⟩⟩ q fun Q k=>?_
 . obtain ⟨u,e1⟩:=(I.hok a o e).there
   exact ⟨u,getB e1 (nfr a o e)⟩
 . rw [hs] at frB
   refine zlQ (s:={ s with heap:=h' }) (I.ok.frames.trans (congrArg some hs)) hf (fun b o r=>m.keeps b o (ofB r)) (frB.of_keeps fun b o hb _=>⟨o,m.keeps b o hb,rfl⟩) ⟨_,_,he,rfl,rfl,rfl,rfl,rfl,?_⟩ k
   cases z : B.get? ex with
   | none=>rfl
   | some o =>
     have:=ofB z
     rw [m.new] at this
     cases this
end
theorem zlG {P : Program} {w : World} {K : PySem.W.Frag} {mg : Str -> Option Value} {base : Heap} {N : List Str} {qual : Str} {scope : Scope} {f : Addr} {cd : Value} {A : Around} {outer : List Env} {s : Shared} {H : Hp} {E : XK} :
   zgL (CX1 P w) (zhI (CX1 P w) P w K mg base N qual scope f cd A outer s H E) E:=fun pins σ H1 s1 e s' I h=>znM I rfl rfl rfl h
def zsf (X : Cx) (C : Value) (E : XK) : Prop:=∀ (pins : List (Addr × Obj)) (σ : St) (H : Hp) (s : Shared) (h' : Heap) (ex : Addr) (vs : List Value),Inv X pins σ H s -> Heap.MadeExcOf s.heap h' ex C vs -> E C none H -> X.xe (.ref ex) { s with heap:=h' }
theorem zgz {P : Program} {w : World} {K : PySem.W.Frag} {mg : Str -> Option Value} {base : Heap} {N : List Str} {qual : Str} {scope : Scope} {f : Addr} {cd C : Value} {A : Around} {outer : List Env} {s : Shared} {H : Hp} {E : XK} :
   zsf (zhI (CX1 P w) P w K mg base N qual scope f cd A outer s H E) C E:=fun pins σ H1 s1 h' ex vs I m q=>zmy I rfl rfl rfl m q
def zic : List Value:=[.type "ValueError",.type "Exception",.type "BaseException",.type "object"]
theorem zrA {K : PySem.W.Frag} {h : Heap} {C : Addr} {bmB : List Value} {newId : String} (X : K.In h) (q : PySem.W.excIn K C bmB newId = true) :
   ∃ bm N nm qn bs hd sn sub ab col dd k0 k1 k2 k3 k5 mN,h.get? C = some (excClassObj nm qn C N bs bm hd sn sub ab col dd k0 k1 k2 k3 k5 newId) /\ h.Ns N mN /\ mN "__init__" = none /\ OwnTail h bmB bm:=by
 unfold PySem.W.excIn at q
 split at q
 case h_2=>cases q
 rename_i dd cd sl ho
 split at q
 case h_2=>cases q
 rename_i C' bm k0 k1 k2 k3 n k5 hm hs
 simp only [Bool.and_eq_true,beq_iff_eq,Bool.not_eq_true'] at q
 obtain ⟨⟨⟨⟨⟨rfl,rfl⟩,hdel⟩,ht⟩,hok⟩,hni⟩:=q
 obtain ⟨nm,bs,mro,ns,qn,hd,sn,sub,ab,col,del⟩:=cd
 dsimp only at hm hdel hok hni
 subst hm hdel
 have e : sl = #[k0,k1,k2,k3,some (.builtin n),k5]:=by
   cases sl
   simp only at hs
   rw [hs]
 subst e
 exact ⟨bm,ns,nm,qn,bs,hd,sn,sub,ab,col,dd,k0,k1,k2,k3,k5,_,X _ _ ho,.of_isNs (PySem.W.isNs_of_in X hok),PySem.W.nsMap_none_of_in X hok hni,PySem.W.tail_of_in X ht⟩
section
variable {X : Cx} {x : Str} {C : Addr} {E : XK} {e : Expr} {es : List Expr} {t : TA} {np cpos pos : Pos}
def zoW (C : Value) (E : XK) (t : TA) : TS:=fun _ σ H=>t σ H fun vs H1=>vs.length <= sizeLine /\ E C none H1
theorem zds (q : PySem.W.excIn X.K C zic "ValueError.__new__" = true) (hc : X.calm = true) (hg : Gl X x) (hm : X.mg x = some (.ref C)) (Z : zsf X (.ref C) E) (ha : PA X (e :: es) t) (hdb : (x == ("__debug__" : Str)) = false:=by decide)
   (he : starEach (e :: es) X.env = (false,eval e X.env) :: starEach es X.env:=by rfl) (hpl : (backTo cpos (starEach es X.env)).any (·.1) = false:=by rfl) :
   PS X (.Raise (some (.Call (.Name x np) (e :: es) [] cpos)) none pos) (zoW (.ref C) E t):=by
 intro pins s σ H D I h
 obtain ⟨bm,N,nm,qn,bs,hd,sn,sub,ab,col,dd,k0,k1,k2,k3,k5,mN,hC,hN,hni,T⟩:=zrA I.ok.mod.kin q
 refine wpAny_Raise_call_subU (C:=C) (nm:=nm) (q:=qn) (N:=N) (bs:=bs) (bm:=bm) (hdct:=hd) (sn:=sn) (sub:=sub) (ab:=ab) (col:=col) (dd:=dd) (k0:=k0) (k1:=k1) (k2:=k2) (k3:=k3) (k5:=k5)
   F.excBase_ValueError (by decide) F.excBase_ValueError (mN:=mN) (T.hasType (by decide)) (I.ok.hd hc) (by rw [he]; show (false || (backTo cpos (starEach es X.env)).any (·.1)) = false; rw [hpl]; rfl) hni (zf3 I hg hm ⟨rfl,?_⟩ hdb)
 have ha':=ha cpos pins s σ H _ I h
 rw [he] at ha' ⊢
 refine Calls.evalArgs_plain (wpAny_mono ha' (fun us s2 ⟨vs,H2,I2,r,z,q2⟩=>⟨rfl,by rw [<- r.length]; exact z,I2.bk _ _ hC,hN.keeps I2.bk,T.keeps I2.bk,fun h' ex m=>Z pins σ H2 s2 h' ex us I2 m q2⟩) fun _ _ y=>y)
end
end L2
set_option Elab.async false
set_option linter.all false
set_option maxRecDepth 100000
namespace L2
open PySem PySem.Spec PyProof.Rows GM
abbrev Cx.at (X : Cx) (pn : List (Addr × Obj)) (E : Value -> Shared -> Prop) : Cx:={ X with pn:=pn,xe:=E }
abbrev Cx.inExc (X : Cx) (pn : List (Addr × Obj)) (ex : Addr) (oe : Obj) : Cx:={ X with pn:=pn ++ [(ex,oe)],xe:=fun _ _=>False,A:=X.A.mark (some (.ref ex)),calm:=false }
section
variable {X : Cx} {pins pins' : List (Addr × Obj)} {σ : St} {H : Hp} {s : Shared} {ex : Addr} {oe : Obj}
theorem Inv.toAt (I : Inv X pins σ H s) (E : Value -> Shared -> Prop) : Inv (X.at (X.pn ++ pins) E) [] σ H s :=
 ⟨⟨I.ok.mod,I.ok.kind,I.ok.glob,I.ok.blt,I.ok.above,I.ok.inj,I.ok.has,I.ok.cab,I.ok.hd,I.ok.frames,I.ok.stk,I.ok.exf,I.ok.bs,I.ok.bsz,I.ok.noex,I.ok.exfs,I.ok.funs,I.ok.frf⟩,I.os,I.bare,I.base,I.loc,I.cell,I.free,I.freeC,
   fun p hp=>I.pin p (by rw [List.append_nil] at hp; exact hp),I.hok,I.len⟩
theorem Inv.ofAt {E : Value -> Shared -> Prop} (I : Inv (X.at (X.pn ++ pins) E) pins' σ H s) : Inv X pins σ H s :=
 ⟨⟨I.ok.mod,I.ok.kind,I.ok.glob,I.ok.blt,I.ok.above,I.ok.inj,I.ok.has,I.ok.cab,I.ok.hd,I.ok.frames,I.ok.stk,I.ok.exf,I.ok.bs,I.ok.bsz,I.ok.noex,I.ok.exfs,I.ok.funs,I.ok.frf⟩,I.os,I.bare,I.base,I.loc,I.cell,I.free,I.freeC,
   fun p hp=>I.pin p (List.mem_append_left _ hp),I.hok,I.len⟩
theorem Inv.toExc (I : Inv X pins σ H s) (he : s.heap.get? ex = some oe) (hn : H ex = none) (nl : ex ≠ X.env.locals) (nf : ex ∉ X.fs) (nc : ∀ v,oe.data ≠ .cell v) : Inv (X.inExc (X.pn ++ pins) ex oe) [] σ H s :=
 ⟨⟨I.ok.mod,I.ok.kind,I.ok.glob,I.ok.blt,I.ok.above,I.ok.inj,I.ok.has,I.ok.cab,fun z=>Bool.noConfusion z,I.ok.frames,I.ok.stk,I.ok.exf,I.ok.bs,I.ok.bsz,I.ok.noex,I.ok.exfs,I.ok.funs,I.ok.frf⟩,I.os,I.bare,I.base,I.loc,I.cell,I.free,I.freeC,
   fun p hp=>by
     rw [List.append_nil] at hp
     rcases List.mem_append.mp hp with z | z
     . exact I.pin p z
     . cases List.mem_singleton.mp z
       exact ⟨he,hn,nl,nf,nc⟩,I.hok,I.len⟩
theorem Inv.ofExc (ok : X.Ok) (I : Inv (X.inExc (X.pn ++ pins) ex oe) pins' σ H s) : Inv X pins σ H s :=
 ⟨ok,I.os,I.bare,I.base,I.loc,I.cell,I.free,I.freeC,fun p hp=>I.pin p (List.mem_append_left _ (List.mem_append_left _ hp)),I.hok,I.len⟩
theorem Inv.gone {M : Model} {A : Around} {E : Value -> Shared -> Prop} {Q : Unit -> Shared -> Prop} {i : Nat} {n : Str} {hp : Pos} (I : Inv X pins σ H s) (hN : X.N.Nodup) (hi : X.N[i]? = some n) (hl : X.env.scope.names.lookup n = some .local)
   (k : ∀ s',Inv X pins (σ.set i none) H s' -> Q () s') : wpAny M A (do bindName X.env n .none; unbindBehindTheSuite X.env n hp) Q E s:=by
 obtain ⟨m,hn,hl'⟩:=id I.loc
 have hcls : (X.env.scope.kind == .class || (X.env.scope.kind == .module && X.env.locals != X.env.globals)) = false:=by rw [I.ok.kind]; rfl
 have lt : ∀ b o,X.s₀.heap.get? b = some o -> b ≠ X.env.locals:=fun b o e=>Nat.ne_of_lt (Nat.lt_of_lt_of_le (Heap.lt_size e) I.ok.above)
 refine wpAny_nameGoes_keeps hl hn hcls fun h' v hn' hs=>k _ ⟨I.ok,I.os,I.bare,⟨fun b o e z hb hx=>?_,fun b o e z hb hx=>?_,I.base.free,fun b o e hx=>?_,I.base.tups,I.base.frzs,I.base.tbls⟩,⟨_,hn',fun j y v' e1 e2 e3=>?_⟩,fun y c e=>?_,I.free,I.freeC,fun p hp=>?_,fun b ob e=>?_,?_⟩
 . exact (hs.2 b (lt b o e)).trans (I.base.keep b o e z hb hx)
 . obtain ⟨sl,e1⟩:=I.base.slot b o e z hb hx
   exact ⟨sl,(hs.2 b (lt b o e)).trans e1⟩
 . obtain ⟨o',e1⟩:=I.base.there b o e hx
   exact ⟨o',(hs.2 b (lt b o e)).trans e1⟩
 . have hj : j ≠ i:=fun z=>by
     subst z
     rw [List.getElem?_set] at e2
     split at e2
     . split at e2 <;> cases e2
     . exact absurd rfl ‹_›
   rw [List.getElem?_set_ne (Ne.symm hj)] at e2
   obtain ⟨u',r',q⟩:=hl' j y v' e1 e2 e3
   refine ⟨u',r',?_⟩
   rcases q with ⟨k,e⟩ | ⟨k,c,e,z⟩
   . refine .inl ⟨k,?_⟩
     have ne : y ≠ n:=fun e=>hj (zhU hN e1 (e ▸ hi))
     simp [ne,e]
   . exact .inr ⟨k,c,e,z.sameBut hs (I.cne y c e)⟩
 . obtain ⟨w',z⟩:=I.cell y c e
   exact ⟨w',z.sameBut hs (I.cne y c e)⟩
 . obtain ⟨e,z,ne,nf,d⟩:=I.pin p hp
   exact ⟨(hs.2 p.1 ne).trans e,z,ne,nf,d⟩
 . refine (I.hok b ob e).stay (fun c w' hc q=>(hs.2 c ?_).trans q) (fun _ q=>q) fun _ _ q=>q
   rintro rfl
   have f:=I.free
   rcases hc with hc | hc
   . rw [hc,e] at f; cases f
   . rw [hc] at f; cases f
 . rw [List.length_set]; exact I.len
end
def znB (CX : CXT) (X : Cx) (W : St -> XK) : Prop:=∀ (pins : List (Addr × Obj)) (σ : St) (H : Hp) (s : Shared) (e : Value) (s' : Shared),Inv X pins σ H s -> CX X.stack H s (W σ) e s' -> X.xe e s'
def zlV (sp : Sp) (W : St -> XK) (t : TA) : TE:=fun σ H Q=>t σ H fun vs H1=>sp vs H1 Q (W σ)
section
variable {X : Cx} {CX : CXT} {k : Nat} {f : Addr} {fd : FuncData} {ps : List Str} {sp : Sp} {W : St -> XK} {x : Str} {p pos : Pos} {e : Expr} {es : List Expr} {t : TA}
theorem zo0 (F : zaM X.prog X.w X.K X.mg X.base CX k f fd ps sp) (hr : zdb k X.A) (hg : Gl X x) (hm : X.mg x = some (.ref f)) (hk : PySem.W.keepIn X.K (.ref f) = true) (hb : zib X.K fd ps []) (hx : znB CX X W)
   (ha : PA X (e :: es) t) (hdb : (x == ("__debug__" : Str)) = false:=by decide) (he : starEach (e :: es) X.env = (false,eval e X.env) :: starEach es X.env:=by rfl) (hpl : (backTo pos (starEach es X.env)).any (·.1) = false:=by rfl) :
   PE X (.Call (.Name x p) (e :: es) [] pos) (zlV sp W t):=by
 intro pins s σ H Q I h
 refine wpAny_Call_Name_kw (zf3 I hg hm ?_ hdb)
 refine PySem.W.callWith_K (h₀:=X.base) I.ok.mod.kin hk (thn (ha pos pins s σ H _ I h) fun us s1 ⟨vs,H1,I1,r,q⟩=>⟨I1.kIn,?_⟩) he hpl
 have hl : us.length = ps.length:=by rw [<- r.length]; exact F.len _ _ _ _ q
 have hbd : BindsTo s1 fd ⟨us,[]⟩ (ps.zip us):=by simpa using hb s1 us I1.kIn (by simpa using hl)
 refine wpAny_call (codeAny_mono (F.run X.A X.stack s1 H1 ⟨us,[]⟩ us vs Q (W σ) hr I1.env0 hbd r q) fun r s' hq=>?_)
 cases r with
 | error e=>exact hx pins σ H1 s1 e s' I1 hq
 | ok fl =>
   cases fl with
   | ret u=>exact I1.after hq
   | next=>exact False.elim hq
   | brk=>exact False.elim hq
   | cont=>exact False.elim hq
end
structure ziT (C : Value) (oe : Obj) : Prop where
 cls : oe.cls = C
 fld : ∃ vs,oe.data = .fields vs /\ vs[2]? = some .none
 dict : oe.dict = none
section
variable {X : Cx} {x n : Str} {G : Value} {i : Nat} {b₀ : Stmt} {body suite : List Stmt} {np hpos pos : Pos} {tb : (St -> XK) -> TS} {th : Addr -> Value -> TS}
end
structure zua (k : Nat) (A : Around) : Prop where
 dp : A.depth + 3 * k + 5 < recursionLimit
 un : A.units + 16 * k + 200 < cLine
structure zuS (P : Program) (w : World) (K : PySem.W.Frag) (mg : Str -> Option Value) (base : Heap) (k : Nat) (f : Addr) (fd : FuncData) (ps : List Str) (sp : Addr -> Value -> Sp) : Prop where
 len : ∀ ex C vs H Q E,sp ex C vs H Q E -> vs.length = ps.length
 run : ∀ (A : Around) (outer : List Env) (s : Shared) (H : Hp) (args : Args) (us : List Value) (vs : List V) (Q : VK) (E : XK) (ex : Addr) (C : Value) (oe : Obj),zua k A -> A.handled = some (.ref ex) -> s.heap.get? ex = some oe -> ziT C oe -> H ex = none -> ex ∉ frs outer ->
   zpO P w K mg base A outer s H -> BindsTo s fd args (ps.zip us) -> zav vs us -> sp ex C vs H Q E -> codeAny (model P w) A (.call (.ref f) args) (CR CX0 outer P w H s Q E) s
structure Hd (X : Cx) (ex : Addr) (C : Value) (oe : Obj) : Prop where
 hd : X.A.handled = some (.ref ex)
 pn : (ex,oe) ∈ X.pn
 ob : ziT C oe
section
variable {P : Program} {w : World} {K : PySem.W.Frag} {mg : Str -> Option Value} {base : Heap}
end
section
variable {X : Cx} {k : Nat} {f : Addr} {fd : FuncData} {ps : List Str} {sp : Addr -> Value -> Sp} {x : Str} {p pos : Pos} {e : Expr} {es : List Expr} {t : TA} {ex : Addr} {C : Value} {oe : Obj}
end
end L2
set_option Elab.async false
set_option linter.all false
set_option maxRecDepth 100000
namespace L2
open PySem PySem.Spec PyProof.Rows GM
def zhc (cells : List (Str × Addr)) : List (Str × NameKind) -> List (Str × Addr) -> List (Str × Addr)
 | [],acc=>acc
 | (n,k) :: r,acc=>zhc cells r (if (k == NameKind.free) = true then (n,(cells.lookup n).getD 0) :: acc else acc)
theorem zgn {scope : Scope} {env : Env} (h : ∀ y ∈ scope.names,y.2 = .free -> ∃ c,env.cells.lookup y.1 = some c) : closureFor scope env = pure (zhc env.cells scope.names []):=by
 unfold closureFor
 generalize scope.names = names at h
 suffices g : ∀ (names : List (Str × NameKind)) (acc : List (Str × Addr)),(∀ y ∈ names,y.2 = .free -> ∃ c,env.cells.lookup y.1 = some c) ->
     (forIn names acc fun (x : Str × NameKind) (r : List (Str × Addr))=>if (x.2 == NameKind.free) = true then do let c <- cellOf env x.1; pure (ForInStep.yield ((x.1,c) :: r)) else pure (ForInStep.yield r) : Sem (List (Str × Addr))) = pure (zhc env.cells names acc) by
   have:=g names [] h
   show (_ >>= pure) = _
   rw [bind_pure]
   exact this
 intro names
 induction names with
 | nil=>intro acc _; rfl
 | cons y r ih =>
   intro acc hy
   obtain ⟨n,k⟩:=y
   rw [List.forIn_cons]
   by_cases e : (k == NameKind.free) = true
   . obtain ⟨c,hc⟩:=hy (n,k) List.mem_cons_self (beq_iff_eq.mp e)
     have hcell : cellOf env n = pure c:=by
       unfold cellOf
       rw [hc]
     simp only [e,if_true,hcell,pure_bind]
     rw [ih _ fun z hz=>hy z (List.mem_cons_of_mem _ hz)]
     show _ = pure (zhc env.cells r _)
     simp only [e,if_true,hc,Option.getD_some]
   . simp only [e,pure_bind]
     rw [if_neg (by simp),pure_bind]
     dsimp only
     rw [ih _ fun z hz=>hy z (List.mem_cons_of_mem _ hz)]
     show _ = pure (zhc env.cells r _)
     rw [if_neg e]
theorem zgP {cells : List (Str × Addr)} : ∀ (names : List (Str × NameKind)) (acc : List (Str × Addr)) (x : Str) (c : Addr),(∀ y ∈ names,y.2 = .free -> ∃ c,cells.lookup y.1 = some c) -> (∀ x c,acc.lookup x = some c -> cells.lookup x = some c) ->
   (zhc cells names acc).lookup x = some c -> cells.lookup x = some c
 | [],acc,x,c,_,ha,h=>ha x c h
 | (n,k) :: r,acc,x,c,hy,ha,h=>by
   unfold zhc at h
   refine zgP r _ x c (fun z hz=>hy z (List.mem_cons_of_mem _ hz)) (fun x' c' h'=>?_) h
   split at h'
   . rename_i e
     obtain ⟨c0,hc0⟩:=hy (n,k) List.mem_cons_self (beq_iff_eq.mp e)
     rw [List.lookup_cons] at h'
     split at h'
     . rename_i e2
       rw [beq_iff_eq.mp e2,hc0]
       rw [hc0] at h'
       exact h'
     . exact ha x' c' h'
   . exact ha x' c' h'
theorem zlm {cells : List (Str × Addr)} : ∀ (names : List (Str × NameKind)) (acc : List (Str × Addr)) (x : Str),(∃ c,acc.lookup x = some c) -> ∃ c,(zhc cells names acc).lookup x = some c
 | [],acc,x,h=>h
 | (n,k) :: r,acc,x,h=>by
   unfold zhc
   refine zlm r _ x ?_
   split
   . rw [List.lookup_cons]
     split
     . exact ⟨_,rfl⟩
     . exact h
   . exact h
theorem zla {cells : List (Str × Addr)} : ∀ (names : List (Str × NameKind)) (acc : List (Str × Addr)) (x : Str),(x,NameKind.free) ∈ names -> ∃ c,(zhc cells names acc).lookup x = some c
 | [],acc,x,h=>nomatch h
 | (n,k) :: r,acc,x,h=>by
   unfold zhc
   rcases List.mem_cons.mp h with e | e
   . cases e
     rw [if_pos (by decide)]
     refine zlm r _ _ ?_
     rw [List.lookup_cons]
     simp
   . exact zla r _ x e
theorem zha (g : Str -> NameKind -> NameKind) : ∀ (names : List (Str × NameKind)) (x : Str),(names.map fun y=>(y.1,g y.1 y.2)).lookup x = (names.lookup x).map (g x)
 | [],x=>rfl
 | (n,k) :: r,x=>by
   rw [List.map_cons,List.lookup_cons,List.lookup_cons]
   dsimp only
   by_cases e : (x == n) = true
   . have e':=beq_iff_eq.mp e
     subst e'
     simp
   . rw [Bool.not_eq_true] at e
     simp only [e]
     exact zha g r x
def zru (env : Env) (x : Str) (k : NameKind) : NameKind:=if (k == .free && env.scope.kind == .function && env.kindOf x == some .cell) = true then .cell else k
theorem zie {scope : Scope} {env : Env} (x : Str) : (relabel scope env).names.lookup x = (scope.names.lookup x).map (zru env x):=by
 rw [<- zha]
 show (scope.names.map _).lookup x = _
 congr 2
 funext ⟨n,k⟩
 dsimp only [zru]
 split <;> rfl
def zbc (inner outer : List (Str × NameKind)) (N N' : List Str) (src : List (Option Nat)) : Bool :=
 (inner.all fun y=>(y.2 != .cell) && (y.2 != .local || inner.lookup y.1 == some .local) && (y.2 != .free || outer.lookup y.1 == some .cell)) &&
 (N'.length == src.length) && ((N'.zip src).all fun p=>match p.2 with
   | none=>true
   | some j=>N[j]? == some p.1 && outer.lookup p.1 == some .cell && inner.lookup p.1 == some .free)
theorem zbl.by {X : Cx} {N' : List Str} {scope : Scope} {src : List (Option Nat)} (hk : scope.kind = .function) (hc : zbc scope.names X.env.scope.names X.N N' src = true) (hf : ∀ x,X.env.scope.names.lookup x = some .cell -> ∃ c,X.env.cells.lookup x = some c:=by exact fun x h=>zid h) :
   zbl X N' scope (zhc X.env.cells scope.names []) src:=by
 unfold zbc at hc
 simp only [Bool.and_eq_true,List.all_eq_true,beq_iff_eq,Bool.or_eq_true,bne_iff_ne,ne_eq] at hc
 obtain ⟨⟨h1,h2⟩,h3⟩:=hc
 have fr : ∀ y ∈ scope.names,y.2 = .free -> ∃ c,X.env.cells.lookup y.1 = some c:=fun y hy e=>hf _ (((h1 y hy).2).elim (fun z=>absurd e z) id)
 have at3 : ∀ (i : Nat) (x : Str) (j : Nat),N'[i]? = some x -> src[i]? = some (some j) -> X.N[j]? = some x /\ X.env.scope.names.lookup x = some .cell /\ scope.names.lookup x = some .free:=fun i x j e1 e2=>by
   have m : (x,some j) ∈ N'.zip src:=by
     rw [List.mem_iff_getElem?]
     exact ⟨i,by rw [List.getElem?_zip_eq_some]; exact ⟨e1,e2⟩⟩
   have:=h3 _ m
   simp only [Bool.and_eq_true,beq_iff_eq] at this
   exact ⟨this.1.1,this.1.2,this.2⟩
 refine ⟨hk,fun y hy=>((h1 y hy).1).1,fun y hy e=>(((h1 y hy).1).2).elim (fun z=>absurd e z) id,⟨zgn fr,fun x c e=>zgP _ _ x c fr (fun _ _ z=>by simp at z) e,fun x e=>?_⟩,⟨h2,fun i j x e1 e2=>⟨(at3 i x j e1 e2).1,(at3 i x j e1 e2).2.1⟩⟩,fun i x e1 e2=>?_⟩
 . rw [zie] at e
   cases q : scope.names.lookup x with
   | none=>rw [q] at e; simp at e
   | some k =>
     have hm:=PySem.mem_of_lookup q
     have hk : k = .free:=by
       rw [q] at e
       simp only [Option.map_some,Option.some.injEq,zru] at e
       have nc : k ≠ .cell:=((h1 _ hm).1).1
       rcases e with e | e
       . split at e
         . rename_i z; simp only [Bool.and_eq_true,beq_iff_eq] at z; exact z.1.1
         . exact absurd e nc
       . split at e
         . cases e
         . exact e
     subst hk
     exact zla _ _ x hm
 . obtain ⟨o,ho⟩ : ∃ o,src[i]? = some o:=by
     have : i < src.length:=by rw [<- h2]; exact (List.getElem?_eq_some_iff.mp e1).1
     exact ⟨src[i],by simp [this]⟩
   cases o with
   | none=>exact absurd ho e2
   | some j =>
     have:=(at3 i x j e1 ho).2.2
     rw [zie,this]
     simp only [Option.map_some,Option.some.injEq,zru]
     split
     . exact .inl rfl
     . exact .inr rfl
section
variable {prog : Program} {w : World} {A : Around} {E : Value -> Shared -> Prop} {s : Shared}
structure zuQ (A : Around) (h : Heap) (ex : Addr) : Prop where
 hd : A.handled = some (.ref ex)
 ob : ∃ oe vs,h.get? ex = some oe /\ oe.data = .fields vs /\ vs[2]? = some .none
end
section
variable {X : Cx} {ex : Addr} {C : Value} {oe : Obj} {pins : List (Addr × Obj)} {σ : St} {H : Hp} {s : Shared} {pos : Pos}
variable {tg l : Expr} {tl : TE}
variable {N' : List Str} {scope : Scope} {cl : List (Str × Addr)} {src : List (Option Nat)} {elt tgt iter : Expr} {ifs : List Expr} {wi : TI} {g : TG} {tt : TT} {te : TE}
end
structure ExcCls (K : PySem.W.Frag) (C : Addr) : Prop where
 ga : PySem.W.findIn K (.ref C) "__getattribute__" = some (some (.builtin "BaseException.__getattribute__"))
 gh : PySem.W.findIn K (.ref C) "__getattr__" = some none
 cl : (PySem.W.clsIn K C).isSome = true
 at_ : PySem.W.findIn K (.ref C) "__class__" = some (some (.builtin "object.__class__"))
 gt : PySem.W.specialIn K (.builtin "object.__class__") "__get__" = some (some (.builtin "getset_descriptor.__get__"))
 tk : PySem.W.takesIn K (.builtin "object.__class__") = some true
 mr : PySem.W.mroIn K C (.type "object") = some true
 be : PySem.W.mroIn K C (.type "BaseException") = some true
theorem zjx {K : PySem.W.Frag} {C : Addr} (c : ExcCls K C) : PySem.W.findObj K C none "__class__" = some (.bind (.builtin "getset_descriptor.__get__") (.builtin "object.__class__")):=by
 obtain ⟨cd,hc⟩:=Option.isSome_iff_exists.mp c.cl
 unfold PySem.W.findObj
 rw [hc,Option.bind_some,c.at_,Option.bind_some]
 simp [c.gt,c.tk]
theorem zol {M : Model} {A : Around} {E : Value -> Shared -> Prop} {s : Shared} {x C : Addr} {nm : Value} {Q : Unit -> Shared -> Prop} (L0 : PySem.W.Looks M s.heap (typeOf (.ref x)) (.ref C)) (L1 : PySem.W.Looks M s.heap (isSubtype (.ref C) (.type "BaseException")) true)
   (hq : Q () s) : wpAny M A (checkBuiltinCall "BaseException.__getattribute__" ⟨[.ref x,nm],[]⟩) Q E s:=by
 have hk : builtinKind "BaseException.__getattribute__" = some .slot:=by decide +kernel
 have hp : splitId "BaseException.__getattribute__" = some ("BaseException","__getattribute__"):=by decide +kernel
 have ha:=F.args_bexc_ga (.ref x) nm
 have LI : PySem.W.Looks M s.heap (isInstance (.ref x) (.type "BaseException")) true:=L0.andThen L1
 simp only [checkBuiltinCall,hk,hp]
 refine wpAny_bind (LI.at ?_)
 repeat (first | exact hq | assumption | wp_step)
theorem zn2 {prog : Program} {w : World} {A : Around} {E : Value -> Shared -> Prop} {s : Shared} {K : PySem.W.Frag} {x C : Addr} {ox : Obj} {Q : Option Value -> Shared -> Prop} (c : ExcCls K C) (X : K.In s.heap) (I : PySem.W.InstAt s.heap x ox C none)
   (k : Q (some (.ref C)) { s with toks:=s.toks + 1 }) : wpAny (model prog w) A (getAttr? (.ref x) "__class__") Q E s:=by
 obtain ⟨hh,g,d,t,os⟩:=s
 have L0:=I.type (M:=model prog w)
 have L1:=PySem.W.looks_findIn (M:=model prog w) X c.ga
 have L2:=PySem.W.looks_findIn (M:=model prog w) X c.gh
 have L3:=PySem.W.looks_mroIn (M:=model prog w) X c.be
 have LF:=PySem.W.looks_find (M:=model prog w) X I (zjx c)
 unfold getAttr? getAttrBy? getAttrBy
 refine wpAny_bind (wpAny_mkText (wpAny_bind (wpAny_attempt (wpAny_holding (wpAny_bind (L0.at (wpAny_bind (L1.at ?_))))))))
 show wpAny _ _ (getAttrByItsOwn _ _ _ _ _ _) _ _ _
 unfold getAttrByItsOwn
 show wpAny _ _ (typeLookup (.ref C) "__getattr__" >>= _) _ _ _
 refine wpAny_bind (L2.at ?_)
 refine wpAny_bind (wpAny_attempt (wpAny_holding ?_))
 show wpAny _ _ (boundAndCalled _ _ _) _ _ _
 unfold boundAndCalled
 rw [PySem.F.attrBase_ValueError.ga.bind]
 refine wpAny_bind (wpAny_pure ?_)
 show wpAny _ _ (call (.builtin "BaseException.__getattribute__") [.ref x,.str "__class__" t]) _ _ _
 refine wpAny_call (codeAny_call_builtin PySem.F.attrBase_ValueError.ga.plain F.entry_bexc_ga (zol L0 L3 ?_))
 unfold Builtin.«object.__getattribute__»
 refine wpAny_bind (wpAny_pure ?_)
 refine wpAny_bind (wpAny_pure ?_)
 refine wpAny_bind (L0.at (wpAny_bind (LF.at ?_)))
 show wpAny _ _ (holding [_] (call (.builtin "getset_descriptor.__get__") [.builtin "object.__class__",.ref x,.ref C]) >>= ret) _ _ _
 refine wpAny_bind (wpAny_holding (wpAny_call (PySem.W.class_get (ox:=ox) (od:=none) X I c.mr ?_)))
 exact wpAny_pure (wpAny_pure (wpAny_pure k))
theorem zim {K : PySem.W.Frag} {x C : Addr} {ox : Obj} (c : ExcCls K C) : PySem.W.KitX K (.ref x) (.ref C) (fun h=>PySem.W.InstAt h x ox C none) where
 ty:=fun _ _ _ I=>I.type
 it:=fun _ _ X _=>by
   obtain ⟨cd,hc⟩:=Option.isSome_iff_exists.mp c.cl
   unfold PySem.W.clsIn at hc
   split at hc
   . rename_i ho
     intro A' Q' E' s' k q
     unfold isType loadHead
     exact wpAny_bind (wpAny_loadPart (k _ _ (X _ _ ho)) (wpAny_pure q))
   . cases hc
 ne:=fun h tp dd its n sl X htp=>by
   obtain ⟨cd,hc⟩:=Option.isSome_iff_exists.mp c.cl
   refine Bool.eq_false_iff.mpr fun q=>?_
   have e : C = tp:=Value.ref.inj (beq_iff_eq.mp q)
   subst e
   unfold PySem.W.clsIn at hc
   split at hc
   . rename_i ho
     have z:=(X _ _ ho).symm.trans htp
     cases z
   . cases hc
 ca:=fun {_ _ _ _ _ s} X I k=>zn2 c X I k
end L2
set_option Elab.async false
set_option linter.all false
set_option maxRecDepth 100000
namespace L2
open PySem PySem.Spec PyProof.Rows GM
def zm6 (K : PySem.W.Frag) (g : TG) (tt : TT) (te : TE) (src : List (Option Nat)) (σ : St) (x : V) (H1 : Hp) (Q : VK) : Prop :=
 ∃ a,x = .ref a /\ (∃ xs,SqL K H1 a xs) /\ ∀ D,H1 D = none -> zfw g tt te (Itl K a) D (za4 src σ) (upd H1 D (.lst [])) (fun H'=>Q (.ref D) H')
def znr (K : PySem.W.Frag) (g : TG) (tt : TT) (te : TE) (src : List (Option Nat)) (σ : St) (x : V) (H1 : Hp) (Q : VK) : Prop :=
 ∃ a,x = .ref a /\ (∃ xs,SqT K H1 a xs) /\ ∀ D,H1 D = none -> zfw g tt te (Itt K a) D (za4 src σ) (upd H1 D (.lst [])) (fun H'=>Q (.ref D) H')
section
variable {K : PySem.W.Frag} {g : TG} {tt : TT} {te ta : TE} {tA : TA} {src : List (Option Nat)} {σ : St} {H : Hp} {Q : VK} {a : Addr} {xs : List V} {n : Int}
theorem zp8 (h : ta σ H fun x H1=>zm6 K g tt te src σ x H1 Q) : zh0 src (zpQ K ta) g tt te σ H Q:=h
theorem zpH (h : ta σ H fun x H1=>znr K g tt te src σ x H1 Q) : zh0 src (ztQ K ta) g tt te σ H Q:=h
def zk6 (Pv : Addr -> Nat -> List V -> St -> Hp -> Prop) (D : Addr) (i : Nat) (σ3 : St) (y : V) (H5 : Hp) : Prop :=
 ∃ ys,H5 D = some (.lst ys) /\ ys.length < sizeLine /\ ∃ ys',Pv D (i + 1) ys' σ3 (upd H5 D (.lst (ys ++ [y])))
def zhb (Pv : Addr -> Nat -> List V -> St -> Hp -> Prop) (g : TG) (tt : TT) (te : TE) (D : Addr) (i : Nat) (x : V) (σ' : St) (H' : Hp) : Prop :=
 g x σ' H' fun σ3 H3=>tt σ3 H3 fun ok H4=>if ok = true then te σ3 H4 fun y H5=>zk6 Pv D i σ3 y H5 else ∃ ys',Pv D (i + 1) ys' σ3 H4
theorem zgl {Pv : Addr -> Nat -> List V -> St -> Hp -> Prop} {D : Addr} {i : Nat} {σ3 : St} {y : V} {H5 : Hp} {ys : List V} (h : H5 D = some (.lst ys)) (z : ys.length <= 1000) (q : ∀ H6,Exc D H5 H6 -> H6 D = some (.lst (ys ++ [y])) -> Pv D (i + 1) (ys ++ [y]) σ3 H6) : zk6 Pv D i σ3 y H5 :=
 ⟨ys,h,zgv z,_,q _ (Exc.upd D H5 _) zaB⟩
theorem zhO {J : It} {N : Nat} {D : Addr} {σ0 : St} {H0 : Hp} {R : Hp -> Prop} (Pv : Addr -> Nat -> List V -> St -> Hp -> Prop) (item : Nat -> V -> Prop) (h0 : Pv D 0 [] σ0 H0)
   (stop : ∀ i ys σ' H',Pv D i ys σ' H' -> N <= i -> J.stop i H') (go : ∀ i ys σ' H',Pv D i ys σ' H' -> i < N -> J.go i H') (yld : ∀ i ys σ' H' x H2,Pv D i ys σ' H' -> J.yld i H' x H2 -> H2 = H' /\ item i x)
   (hs : ∀ i x ys σ' H',i < N -> item i x -> Pv D i ys σ' H' -> zhb Pv g tt te D i x σ' H') (hd : ∀ ys σ' H',Pv D N ys σ' H' -> R H') : zfw g tt te J D σ0 H0 R:=by
 refine ⟨fun i m σ' H'=>i + m = N /\ ∃ ys,Pv D i ys σ' H',⟨N,by lia,[],h0⟩,?_⟩
 rintro i m σ' H' ⟨him,ys,hp⟩
 by_cases hm : m = 0
 . subst hm
   have e : i = N:=by lia
   subst e
   exact .inl ⟨stop _ _ _ _ hp (Nat.le_refl _),hd _ _ _ hp⟩
 . refine .inr ⟨go _ _ _ _ hp (by lia),fun σ2 H2=>∃ ys,Pv D (i + 1) ys σ2 H2,fun σ2 H2 h=>⟨m - 1,by lia,by lia,h⟩,fun x H2 hy2=>?_⟩
   obtain ⟨e,hit⟩:=yld _ _ _ _ _ _ hp hy2
   subst e
   exact hs i x ys σ' H2 (by lia) hit hp
theorem zdG (hx : SqL K H a xs) (Pv : Addr -> Nat -> List V -> St -> Hp -> Prop) (h0 : ∀ D H',H D = none -> zag H H' -> H' D = some (.lst []) -> Pv D 0 [] (za4 src σ) H') (hl : ∀ D i ys σ' H',Pv D i ys σ' H' -> SqL K H' a xs)
   (hs : ∀ D i x ys σ' H',xs[i]? = some x -> Pv D i ys σ' H' -> zhb Pv g tt te D i x σ' H') (hd : ∀ D ys σ' H',Pv D xs.length ys σ' H' -> Q (.ref D) H') : zm6 K g tt te src σ (.ref a) H Q:=by
 refine ⟨a,rfl,⟨xs,hx⟩,fun D hD=>zhO (N:=xs.length) Pv (fun i x=>xs[i]? = some x) (h0 D _ hD (zag.upd hD) zaB) (fun i ys σ' H' hp hi=>⟨xs,hl _ _ _ _ _ hp,hi⟩) (fun i ys σ' H' hp hi=>?_) (fun i ys σ' H' x H2 hp hy=>?_)
   (fun i x ys σ' H' _ hit hp=>hs D i x ys σ' H' hit hp) (hd D)⟩
 . exact ⟨xs,xs[i],hl _ _ _ _ _ hp,by simp [hi]⟩
 . obtain ⟨e,hy⟩:=hy
   exact ⟨e,hy xs (hl _ _ _ _ _ hp)⟩
theorem zmo (hx : SqT K H a xs) (Pv : Addr -> Nat -> List V -> St -> Hp -> Prop) (h0 : ∀ D H',H D = none -> zag H H' -> H' D = some (.lst []) -> Pv D 0 [] (za4 src σ) H') (hl : ∀ D i ys σ' H',Pv D i ys σ' H' -> SqT K H' a xs)
   (hs : ∀ D i x ys σ' H',xs[i]? = some x -> Pv D i ys σ' H' -> zhb Pv g tt te D i x σ' H') (hd : ∀ D ys σ' H',Pv D xs.length ys σ' H' -> Q (.ref D) H') : znr K g tt te src σ (.ref a) H Q:=by
 refine ⟨a,rfl,⟨xs,hx⟩,fun D hD=>zhO (N:=xs.length) Pv (fun i x=>xs[i]? = some x) (h0 D _ hD (zag.upd hD) zaB) (fun i ys σ' H' hp hi=>⟨xs,hl _ _ _ _ _ hp,hi⟩) (fun i ys σ' H' hp hi=>?_) (fun i ys σ' H' x H2 hp hy=>?_)
   (fun i x ys σ' H' _ hit hp=>hs D i x ys σ' H' hit hp) (hd D)⟩
 . exact ⟨xs,xs[i],hl _ _ _ _ _ hp,by simp [hi]⟩
 . obtain ⟨e,hy⟩:=hy
   exact ⟨e,hy xs (hl _ _ _ _ _ hp)⟩
end
structure zjy (u' u : TS) : Prop where
 e : u' = u
theorem zqy {t u : TS} {D : zb7} {σ : St} {H : Hp} (h : ∀ u',zjy u' u -> t { D with nx:=u' D } σ H) : zs8 t u D σ H:=h u ⟨rfl⟩
theorem zjy.go {u' u : TS} {D : zb7} {σ : St} {H : Hp} (e : zjy u' u) (h : u D σ H) : u' D σ H:=by rw [e.e]; exact h
end L2
set_option Elab.async false
set_option linter.all false
set_option maxRecDepth 100000
namespace L2
open PySem PySem.Spec PyProof.Rows GM
theorem zpB {P : Program} {w : World} {X : Cx} : zgL (CX1 P w) X E0:=fun _ _ _ _ _ _ _ h=>by
 obtain ⟨_,_,_,_,_,_,_,_,_,_,_,q⟩:=h
 exact q.elim
theorem Fun.ok1 {P : Program} {w : World} {K : PySem.W.Frag} {mg : Str -> Option Value} {base : Heap} {x qual : Str} {st : Stmt} {f : Addr} {fd : FuncData} {N ps : List Str} {k : Nat} {sp : Sp} (F : Fun K x qual st f fd) (S : zal N ps (zae st)) (len : ∀ vs H Q E,sp vs H Q E -> vs.length = ps.length)
   (hbody : ∀ (cdv : Value) (A : Around) (outer : List Env) (s : Shared) (H : Hp) (vs : List V) (Q : VK) (E : XK),zdb k (A.deeper (envOfC qual (zae st) s.heap.objs.size f cdv)) -> sp vs H Q E ->
     ∃ t,PSs (zhI (CX1 P w) P w K mg base N qual (zae st) f cdv A outer s H E) (zc8 st) t /\ t { nx:=fun _ H'=>Q .non H',rt:=Q } (start N vs) H) : zaM P w K mg base (CX1 P w) (k + 1) f fd ps sp:=by
 obtain ⟨oc,od,kV,doc,pm,an,cdv,ct,osl,rfl,lk,hcd⟩:=F.ex
 exact zrZ lk hcd S len fun A outer s H vs Q E hr hsp=>hbody cdv A outer s H vs Q E hr hsp
theorem Exc.back {p : Addr} {H H' H2 : Hp} (b : Exc p H' H2) (s : Exc p H H') : Exc p H H2:=s.trans b
theorem zhh {X : Cx} {i j v : Int} {k1 k2 : Nat} {p1 p2 pos : Pos} (hc : zup i j) (hv : i ^ j.toNat = v) : PE X (.BinOp (.Constant (.int i) k1 p1) .Pow (.Constant (.int j) k2 p2) pos) (tC (.int v)):=by
 subst hv
 exact fun pins s σ H Q I h=>(zam zsB zaf zaf : PE X _ _) pins s σ H Q I ⟨i,j,rfl,rfl,hc,h⟩
theorem zn7 {α : Type} [DecidableEq α] {x : α} {A B : Prop} (h : A) : if decide (x = x) = true then A else B:=by simpa using h
section
variable {K : PySem.W.Frag} {σ : St} {H H' : Hp} {Q : VK} {QB : Bool -> Hp -> Prop} {D : zb7} {t : TA} {v w : V} {xs ys : List V} {m n : Int} {r : Rat} {p : Addr}
theorem zug {A B : Prop} (h : B) : if (!true) = true then A else B:=by simpa using h
theorem zuf {A B : Prop} (h : A) : if (!false) = true then A else B:=by simpa using h
theorem zrI {a b : V} (h : H p = some (.lst [a,b])) (h0 : 0 <= m) (h1 : m < 2) (q : ∀ z,z = a \/ z = b -> Q z H) : rIx K (.ref p) (.int m) H Q :=
 zhs (fun z=>z = a \/ z = b) (SqL.of h) h0 (by simpa using h1) (by simp) q
theorem zqS {a b : Int} (h : H p = some (.lst [.int a,.int b])) (h0 : 0 <= m) (h1 : m < 2) (q : ∀ z,z = a \/ z = b -> Q (.int z) H) : rIx K (.ref p) (.int m) H Q :=
 zrI h h0 h1 fun z hz=>by rcases hz with rfl | rfl; exact q _ (.inl rfl); exact q _ (.inr rfl)
theorem zq2 {a b c : Int} (h : H p = some (.lst [.int a,.int b,.int c])) (h0 : 0 <= m) (h1 : m < 3) (q : ∀ z,z = a \/ z = b \/ z = c -> Q (.int z) H) : rIx K (.ref p) (.int m) H Q:=by
 refine zhs (fun v=>∃ z,v = .int z /\ (z = a \/ z = b \/ z = c)) (SqL.of h) h0 (by simpa using h1) (fun x hx=>?_) fun x hx=>?_
 . simp only [List.mem_cons,List.not_mem_nil,or_false] at hx
   rcases hx with rfl | rfl | rfl
   . exact ⟨_,rfl,.inl rfl⟩
   . exact ⟨_,rfl,.inr (.inl rfl)⟩
   . exact ⟨_,rfl,.inr (.inr rfl)⟩
 . obtain ⟨z,rfl,hz⟩:=hx
   exact q z hz
theorem zrO {a b c d : Int} (h : H p = some (.lst [.int a,.int b,.int c,.int d])) (h0 : 0 <= m) (h1 : m < 4) (q : ∀ z,z = a \/ z = b \/ z = c \/ z = d -> Q (.int z) H) : rIx K (.ref p) (.int m) H Q:=by
 refine zhs (fun v=>∃ z,v = .int z /\ (z = a \/ z = b \/ z = c \/ z = d)) (SqL.of h) h0 (by simpa using h1) (fun x hx=>?_) fun x hx=>?_
 . simp only [List.mem_cons,List.not_mem_nil,or_false] at hx
   rcases hx with rfl | rfl | rfl | rfl
   . exact ⟨_,rfl,by simp⟩
   . exact ⟨_,rfl,by simp⟩
   . exact ⟨_,rfl,by simp⟩
   . exact ⟨_,rfl,by simp⟩
 . obtain ⟨z,rfl,hz⟩:=hx
   exact q z hz
theorem zka {x y : Rat} (h1 : x.num = y.num) (h2 : (x.den : Int) = y.den) : x = y:=by
 have h2' : x.den = y.den:=by lia
 exact Rat.ext h1 h2'
theorem zrT (x y : Rat) : PyData.eqv (N x) (N y) = decide (x = y):=by
 have e : PyData.eqv (N x) (N y) = (decide (x.num = y.num) && decide ((x.den : Int) = y.den)):=by
   simp only [N,PyData.eqv,PyData.eqvAll,Bool.and_true,Bool.beq_eq_decide_eq]
 rw [e,Bool.eq_iff_iff,Bool.and_eq_true,decide_eq_true_eq,decide_eq_true_eq,decide_eq_true_eq]
 constructor
 . rintro ⟨h1,h2⟩; exact zka h1 h2
 . rintro rfl; exact ⟨rfl,rfl⟩
end
theorem zsI {X : Cx} : OpR X (compareOp .In) (rIn X.K false):=znU
theorem zoh {X : Cx} : OpR X (compareOp .NotIn) (rIn X.K true):=zjH
def R (a b : Rat) : PyData:=.tuple [N a,N b]
theorem zoU (a b : Rat) : Imm (R a b) = true:=by simp [R,Imm,ImmAll,zmZ]
structure zay (a b : Rat) : Prop where
 a0 : 0 < a
 a4 : a <= 4
 ad : a.den <= 8
 b0 : 0 <= b
 b1 : b <= 1
 bd : b.den <= 12
 ab : 1 <= a + b
theorem zay.ba {a b : Rat} (h : zay a b) : Bdr 10 a:=Bdr.small (c:=4) (d:=8) (Rat.le_of_lt h.a0) h.a4 h.ad (by decide) (by decide)
theorem zay.bb {a b : Rat} (h : zay a b) : Bdr 10 b:=Bdr.small (c:=1) (d:=12) h.b0 h.b1 h.bd (by decide) (by decide)
section
variable {K : PySem.W.Frag} {H : Hp} {Q : VK} {v : V} {a b : Rat} {σ : St} {gs : TGs} {QS : St -> Hp -> Prop}
theorem zqp (h : Is K H v (R a b)) (q : ∀ x,Is K H x (N a) -> Q x H) : rIx K v (.int 0) H Q:=zaI (j:=0) h rfl q
theorem zrp (h : Is K H v (R a b)) (q : ∀ x,Is K H x (N b) -> Q x H) : rIx K v (.int 1) H Q:=zaI (j:=1) h rfl q
theorem Is.thruR {H' : Hp} (h : Is K H v (R a b)) (s : zaO H H') : Is K H' v (R a b):=Is.keep s _ v (zoU a b) h
theorem ztP (a b c d : Rat) : PyData.eqv (R a b) (R c d) = (decide (a = c) && decide (b = d)):=by
 simp only [R,PyData.eqv,PyData.eqvAll,Bool.and_true,zrT]
end
section
variable {K : PySem.W.Frag} {H H' H2 : Hp} {Q : VK} {v w : V} {a b c d : Rat} {D : Addr}
theorem zoc (h : Is K H v (R a b)) (q : Q (.bl true) H) : zdw K [v,.ty "tuple"] H Q:=zk0 h q
theorem zq7 (h : Is K H v (R a b)) (q : Q (.int 2) H) : zdd K [v] H Q:=zhy h q
theorem zag.grow (s : zag H H') (n : H D = none) (e : Exc D H' H2) : zag H H2:=fun b o h=>e b o (zaQ h n) (s b o h)
end
theorem zpW {σ : St} {H : Hp} {Q : Bool -> Hp -> Prop} (q : Q true H) : zr0 σ H Q:=q
theorem zpN {Pv : Addr -> Nat -> List V -> St -> Hp -> Prop} {g : TG} {tt : TT} {te : TE} {D : Addr} {i : Nat} {x : V} {σ' : St} {H' : Hp} (h : g x σ' H' fun σ3 H3=>tt σ3 H3 fun ok H4=>if ok = true then te σ3 H4 fun y H5=>zk6 Pv D i σ3 y H5 else ∃ ys',Pv D (i + 1) ys' σ3 H4) :
   zhb Pv g tt te D i x σ' H':=h
section
variable {K : PySem.W.Frag} {σ : St} {H : Hp} {Q : VK} {E : XK} {D : zb7} {t : TA} {C G : Value} {i : Nat} {tb : (St -> XK) -> TS} {th : Addr -> Value -> TS} {sp : Sp} {W : St -> XK} {ex C' : Addr} {b : Bool}
theorem zp9 (h : t σ H fun vs H1=>vs.length <= sizeLine /\ E C none H1) : zoW C E t D σ H:=h
theorem zoI (h : t σ H fun vs H1=>sp vs H1 Q (W σ)) : zlV sp W t σ H Q:=h
end
theorem zcC (s : String) : PyData.strOk (Str.ofString s) = true:=by
 rw [Str.ofString_eq_toList,PyData.strOk]
 simp only [List.all_toArray,List.all_map,List.all_eq_true,Function.comp,decide_eq_true_eq]
 intro c _
 have:=c.valid
 simp only [Char.toNat]
 rcases this with h | h
 . have : c.val.toNat < 0xd800:=h
   lia
 . exact h.2
inductive zh1 (K : PySem.W.Frag) (H : Hp) : List V -> List (Str × Bool) -> Prop
 | nil : zh1 K H [] []
 | cons {x : V} {xs : List V} {w : Str} {b : Bool} {ws : List (Str × Bool)} : Is K H x (.tuple [.str w,.bool b]) -> zh1 K H xs ws -> zh1 K H (x :: xs) ((w,b) :: ws)
theorem zgy {K : PySem.W.Frag} {H : Hp} {c : Addr} {p q : Int} (r : Rat) (h : SqT K H c [.int p,.int q]) (e1 : r.num = p) (e2 : (r.den : Int) = q) : Is K H (.ref c) (N r):=by
 subst e1 e2
 exact zaY.mpr ⟨c,_,rfl,h,zaA.mpr ⟨_,_,rfl,zaR.mpr rfl,zaA.mpr ⟨_,_,rfl,zaR.mpr rfl,zbw.mpr rfl⟩⟩⟩
inductive zo4 (X : Cx) : List Expr -> List TE -> Prop
 | nil : zo4 X [] []
 | cons {e : Expr} {es : List Expr} {te : TE} {ts : List TE} : (∀ env,starEach (e :: es) env = (false,eval e env) :: starEach es env) -> PE X e te -> zo4 X es ts -> zo4 X (e :: es) (te :: ts)
end L2
set_option Elab.async false
set_option linter.all false
set_option maxRecDepth 100000
namespace L2
open PySem PySem.Spec PyProof.Rows GM
section
variable {K : PySem.W.Frag} {H H' H2 : Hp} {Q : VK} {R : Prop} {v w y : V} {p l : Addr} {xs ys zs : List V} {ns : List Int} {m : Int} {σ : St}
end
section
variable {K : PySem.W.Frag} {H H' H2 : Hp} {Q : VK} {R : Prop} {v w y : V} {p l : Addr} {xs ys zs : List V} {ns : List Int} {m : Int} {σ : St} {to : TE} {t : TA} {T : String} {r : V -> List V -> Hp -> VK -> Prop}
theorem zut (h : to σ H fun x H1=>tyV K T x H1 /\ t σ H1 fun xs H2=>r x xs H2 Q) : tBM K T r to t σ H Q:=h
theorem zl9 (h : SqL K H p xs) (q : R) : tyV K "list" (.ref p) H /\ R:=⟨.inl ⟨rfl,xs,h⟩,q⟩
theorem zgs (h : H l = some (.lst xs)) (z : xs.length <= 1000) (q : ∀ H',Exc l H H' -> H' l = some (.lst (xs ++ [y])) -> Q .non H') : znk (.ref l) [y] H Q:=⟨l,xs,y,rfl,rfl,h,zgv z,q _ (Exc.upd l H _) zaB⟩
end
def zb0 (K : PySem.W.Frag) : List V -> Hp -> VK -> Prop:=fun xs H Q=>∃ p ys,xs = [.ref p] /\ ((SqL K H p ys /\ ∀ l,H l = none -> Q (.ref l) (upd H l (.tup ys))) \/ (SqT K H p ys /\ Q (.ref p) H))
theorem zch {X : Cx} : zaq X (.type "tuple") (zb0 X.K):=ziC
def ztx (K : PySem.W.Frag) : V -> Option Int -> Option Int -> Hp -> VK -> Prop:=fun x lo hi H Q=>zt0 K x lo hi H Q \/ ztO K x lo hi H Q
theorem zlW {X : Cx} : SlR X (ztx X.K):=zrn.or ztc
section
variable {K : PySem.W.Frag} {H H' H2 : Hp} {Q : VK} {QO : Option Int -> Hp -> Prop} {R : Prop} {v w y : V} {p l : Addr} {xs ys zs : List V} {ds es : List PyData} {m : Int} {σ : St} {te : TE} {tl th : TO} {r : V -> Option Int -> Option Int -> Hp -> VK -> Prop} {lo hi : Option Int}
theorem zgB (h : SqL K H p ys) (q : ∀ l H',H l = none -> zag H H' -> H' l = some (.tup ys) -> Q (.ref l) H') : zb0 K [.ref p] H Q:=⟨p,ys,rfl,.inl ⟨h,fun l hl=>q l _ hl (zag.upd hl) zaB⟩⟩
theorem zfB (h : Is K H v (.list ds)) (q : ∀ w H',zag H H' -> Is K H' w (.tuple ds) -> Q w H') : zb0 K [v] H Q:=by
 obtain ⟨a,xs,rfl,hs,t⟩:=zbk.mp h
 exact zgB hs fun l H' _ s e=>q _ H' s (zaY.mpr ⟨l,xs,rfl,.of e,IsAll.same s ds xs t⟩)
theorem zmx (h : Is K H v (.tuple ds)) (q : Q v H) : zb0 K [v] H Q:=by
 obtain ⟨a,xs,rfl,hs,t⟩:=zaY.mp h
 exact ⟨a,xs,rfl,.inr ⟨hs,q⟩⟩
theorem zpl (h : te σ H fun x H1=>tl σ H1 fun l H2=>th σ H2 fun u H3=>r x l u H3 Q) : tSl r te tl th σ H Q:=h
theorem zn1 (q : QO none H) : zm4 σ H QO:=q
theorem zrd (h : te σ H fun x H1=>∃ i,x = .int i /\ QO (some i) H1) : zsd te σ H QO:=h
theorem zoG {RI : Int -> Prop} (q : RI m) : ∃ i,V.int m = V.int i /\ RI i:=⟨m,rfl,q⟩
theorem zmG (h : SqL K H p xs) (q : ∀ l H',H l = none -> zag H H' -> H' l = some (.lst (zj4 xs lo hi)) -> Q (.ref l) H') : ztx K (.ref p) lo hi H Q:=.inl ⟨p,xs,rfl,h,fun l hl=>q l _ hl (zag.upd hl) zaB⟩
end
def TN (xs : List Rat) : PyData:=.tuple (xs.map N)
def LN (xs : List Rat) : PyData:=.list (xs.map N)
theorem zbW : ∀ xs : List Rat,ImmAll (xs.map N) = true
 | []=>by simp [ImmAll]
 | x :: xs=>by rw [List.map_cons,ImmAll,zmZ,zbW xs]; rfl
theorem zoR (xs : List Rat) : Imm (TN xs) = true:=by rw [TN,Imm]; exact zbW xs
theorem zlC : ∀ xs ys : List Rat,PyData.eqvAll (xs.map N) (ys.map N) = decide (xs = ys)
 | [],[]=>by simp [PyData.eqvAll]
 | [],y :: ys=>by simp [PyData.eqvAll]
 | x :: xs,[]=>by simp [PyData.eqvAll]
 | x :: xs,y :: ys=>by
   rw [List.map_cons,List.map_cons,PyData.eqvAll,zrT,zlC xs ys,Bool.eq_iff_iff,Bool.and_eq_true,decide_eq_true_eq,decide_eq_true_eq,decide_eq_true_eq,List.cons.injEq]
theorem zs1 (xs ys : List Rat) : PyData.eqv (TN xs) (TN ys) = decide (xs = ys):=by
 unfold TN
 rw [PyData.eqv,zlC]
section
variable {K : PySem.W.Frag} {H H' H2 : Hp} {Q : VK} {v w y : V} {p l : Addr} {vs : List V} {xs ys : List Rat} {m : Int} {σ : St}
theorem zsA {i : Nat} (t : IsAll K H vs (xs.map N)) (h : i < xs.length) : ∃ x,vs[i]? = some x /\ Is K H x (N (xs.getD i 0)):=by
 refine t.get ?_
 rw [List.getElem?_map,List.getD_eq_getElem?_getD,List.getElem?_eq_getElem h]
 rfl
theorem zf5 {i : Nat} {x : V} (t : IsAll K H vs (xs.map N)) (h : vs[i]? = some x) : i < xs.length /\ Is K H x (N (xs.getD i 0)):=by
 have hl:=t.length
 rw [List.length_map] at hl
 have hi : i < xs.length:=by
   rcases Nat.lt_or_ge i vs.length with z | z
   . lia
   . rw [List.getElem?_eq_none z] at h; cases h
 obtain ⟨x',e,hx⟩:=zsA t hi
 rw [h] at e
 cases e
 exact ⟨hi,hx⟩
theorem zqY (h : Is K H v (TN xs)) (h0 : 0 <= m) (h1 : m < xs.length) (q : ∀ x,Is K H x (N (xs.getD m.toNat 0)) -> Q x H) : rIx K v (.int m) H Q:=by
 obtain ⟨a,vs,rfl,hs,t⟩:=zaY.mp h
 obtain ⟨n,rfl⟩ : ∃ n : Nat,m = (n : Int):=⟨m.toNat,by lia⟩
 obtain ⟨x,e,hx⟩:=zsA (i:=n) t (by lia)
 exact zd1 hs (zdV e) (q x hx)
theorem zhr (h : Is K H v (LN xs)) (h0 : 0 <= m) (h1 : m < xs.length) (q : ∀ x,Is K H x (N (xs.getD m.toNat 0)) -> Q x H) : rIx K v (.int m) H Q:=by
 obtain ⟨a,vs,rfl,hs,t⟩:=zbk.mp h
 obtain ⟨n,rfl⟩ : ∃ n : Nat,m = (n : Int):=⟨m.toNat,by lia⟩
 obtain ⟨x,e,hx⟩:=zsA (i:=n) t (by lia)
 exact zed hs (zdV e) (q x hx)
theorem zp2 (h : Is K H v (LN xs)) (q : Q (.int xs.length) H) : zdd K [v] H Q:=by
 obtain ⟨a,vs,rfl,hs,t⟩:=zbk.mp h
 have:=t.length
 rw [List.length_map] at this
 exact zdZ hs (by rw [this]; exact q)
theorem zhM (h : H l = some (.lst vs)) (t : IsAll K H vs (xs.map N)) : Is K H (.ref l) (LN xs):=zbk.mpr ⟨l,vs,rfl,.of h,t⟩
theorem zeB : ∀ {xs : List Rat} {vs : List V},vs.length = xs.length -> (∀ i x,vs[i]? = some x -> Is K H x (N (xs.getD i 0))) -> IsAll K H vs (xs.map N)
 | [],vs,hl,_=>by
   have : vs = []:=List.eq_nil_of_length_eq_zero hl
   subst this
   exact .nil
 | x :: xs,[],hl,_=>by cases hl
 | x :: xs,u :: vs,hl,h=>by
   rw [List.map_cons]
   exact .cons (h 0 u rfl) (zeB (by simpa using hl) fun i y e=>h (i + 1) y e)
end
section
variable {K : PySem.W.Frag} {g : TG} {tt : TT} {te : TE} {src : List (Option Nat)} {σ : St} {H : Hp} {Q : VK} {a : Addr} {vs : List V} {n : Int} {tl : St} {o0 : Option V}
def zcK (H : Hp) (tl : St) (Rel : Nat -> V -> Hp -> Prop) (D : Addr) (i : Nat) (ys : List V) (σ' : St) (H' : Hp) : Prop :=
 (∃ o,σ' = o :: tl) /\ H D = none /\ zag H H' /\ H' D = some (.lst ys) /\ ys.length = i /\ ∀ j y,ys[j]? = some y -> Rel j y H'
theorem zcK.same {Rel : Nat -> V -> Hp -> Prop} {D : Addr} {i : Nat} {ys : List V} {σ' : St} {H' : Hp} (h : zcK H tl Rel D i ys σ' H') : zag H H':=h.2.2.1
theorem zbA {Rel : Nat -> V -> Hp -> Prop} {D : Addr} {i : Nat} {ys : List V} {σ' σ3 : St} {H1 H5 : Hp} {y : V} (inv : zcK H tl Rel D i ys σ' H1) (hi : i <= 1000) (hk : ∀ i v H1 H2,zaO H1 H2 -> Rel i v H1 -> Rel i v H2) (hσ : ∃ o,σ3 = o :: tl) (s : zag H1 H5) (r : Rel i y H5) : zk6 (zcK H tl Rel) D i σ3 y H5:=by
 obtain ⟨_,hn,s1,hD,hl,hr⟩:=inv
 have hD5:=s _ _ hD
 refine zgl hD5 (by lia) fun H6 E6 e6=>⟨hσ,hn,(s1.trans s).grow hn E6,e6,by simp [hl],fun j z hz=>?_⟩
 have k6 : zaO H5 H6:=E6.keep hD5
 rcases Nat.lt_or_ge j ys.length with hj | hj
 . rw [List.getElem?_append_left hj] at hz
   exact hk _ _ _ _ (s.keep.trans k6) (hr j z hz)
 . have hj' : j = ys.length:=by
     rcases Nat.lt_or_ge ys.length j with q | q
     . rw [List.getElem?_eq_none (by simp; lia)] at hz; cases hz
     . lia
   subst hj'
   rw [List.getElem?_append_right (Nat.le_refl _),Nat.sub_self] at hz
   cases hz
   rw [hl]
   exact hk _ _ _ _ k6 r
theorem zhv (hx : SqL K H a vs) (hsrc : za4 src σ = o0 :: tl) (Rel : Nat -> V -> Hp -> Prop) (hs : ∀ D i x ys o H1,vs[i]? = some x -> zcK H tl Rel D i ys (o :: tl) H1 -> zhb (zcK H tl Rel) g tt te D i x (o :: tl) H1)
   (hd : ∀ D ys H',H D = none -> zag H H' -> H' D = some (.lst ys) -> ys.length = vs.length -> (∀ j y,ys[j]? = some y -> Rel j y H') -> Q (.ref D) H') : zm6 K g tt te src σ (.ref a) H Q:=by
 refine zdG hx (zcK H tl Rel) (fun D H' n s e=>⟨⟨o0,hsrc⟩,n,s,e,rfl,fun j y z=>by simp at z⟩) (fun D i ys σ' H' h=>h.same.seq hx) ?_ fun D ys σ' H' ⟨_,n,s,e,hl,r⟩=>hd D ys H' n s e hl r
 rintro D i x ys σ' H' hx' h
 obtain ⟨⟨o,rfl⟩,_⟩:=id h
 exact hs D i x ys o H' hx' h
theorem zf6 (hx : SqT K H a vs) (hsrc : za4 src σ = o0 :: tl) (Rel : Nat -> V -> Hp -> Prop) (hs : ∀ D i x ys o H1,vs[i]? = some x -> zcK H tl Rel D i ys (o :: tl) H1 -> zhb (zcK H tl Rel) g tt te D i x (o :: tl) H1)
   (hd : ∀ D ys H',H D = none -> zag H H' -> H' D = some (.lst ys) -> ys.length = vs.length -> (∀ j y,ys[j]? = some y -> Rel j y H') -> Q (.ref D) H') : znr K g tt te src σ (.ref a) H Q:=by
 refine zmo hx (zcK H tl Rel) (fun D H' n s e=>⟨⟨o0,hsrc⟩,n,s,e,rfl,fun j y z=>by simp at z⟩) (fun D i ys σ' H' h=>h.same.sqT hx) ?_ fun D ys σ' H' ⟨_,n,s,e,hl,r⟩=>hd D ys H' n s e hl r
 rintro D i x ys σ' H' hx' h
 obtain ⟨⟨o,rfl⟩,_⟩:=id h
 exact hs D i x ys o H' hx' h
theorem zeR {xs : List Rat} : ∀ (i : Nat) (v : V) (H1 H2 : Hp),zaO H1 H2 -> Is K H1 v (N (xs.getD i 0)) -> Is K H2 v (N (xs.getD i 0)):=fun i v H1 H2 k h=>h.byN k
end
theorem zji {H H' : Hp} {l : Addr} (s : zag H H') (h : H' l = none) : H l = none:=by
 cases e : H l with
 | none=>rfl
 | some o=>rw [s _ _ e] at h; cases h
def TZ (ns : List Int) : PyData:=.tuple (ns.map PyData.int)
theorem zkL : ∀ ns : List Int,ImmAll (ns.map PyData.int) = true
 | []=>by simp [ImmAll]
 | n :: ns=>by rw [List.map_cons,ImmAll,zkL ns]; rfl
theorem ztn (ns : List Int) : Imm (TZ ns) = true:=by rw [TZ,Imm]; exact zkL ns
section
variable {K : PySem.W.Frag} {H H' H2 : Hp} {Q : VK} {v w y : V} {p l : Addr} {vs : List V} {ns : List Int} {rss : List (List Rat)} {m : Int} {σ : St}
theorem zdL : ∀ {ns : List Int} {vs : List V},IsAll K H vs (ns.map PyData.int) ↔ vs = ns.map V.int
 | [],vs=>by rw [List.map_nil,zbw]; rfl
 | n :: ns,vs=>by
   rw [List.map_cons,zaA,List.map_cons]
   constructor
   . rintro ⟨x,r,rfl,h,t⟩
     rw [zaR.mp h,zdL.mp t]
   . rintro rfl
     exact ⟨_,_,rfl,zaR.mpr rfl,zdL.mpr rfl⟩
theorem zuh : Is K H v (TZ ns) ↔ ∃ a,v = .ref a /\ SqT K H a (ns.map V.int):=by
 unfold TZ
 rw [zaY]
 constructor
 . rintro ⟨a,xs,e,h,t⟩
   rw [zdL.mp t] at h
   exact ⟨a,e,h⟩
 . rintro ⟨a,e,h⟩
   exact ⟨a,_,e,h,zdL.mpr rfl⟩
theorem zox (h : Is K H v (TZ ns)) (q : Q (.int ns.length) H) : zdd K [v] H Q:=zhy h (by rw [List.length_map]; exact q)
theorem znt {α : Type} {xs : List α} {x : α} (h : xs[xs.length - 1]? = some x) : atI xs (-1) = some x:=by
 have hl : 0 < xs.length:=by
   cases xs with
   | nil=>cases h
   | cons _ _=>simp
 unfold atI ixN
 rw [if_neg (by lia),if_pos (by lia)]
 show xs[((-1 : Int) + (xs.length : Int)).toNat]? = some x
 rw [show ((-1 : Int) + (xs.length : Int)).toNat = xs.length - 1 by lia]
 exact h
end
end L2
set_option Elab.async false
set_option linter.all false
set_option maxRecDepth 100000
namespace L2
open PySem PySem.Spec PyProof.Rows GM
theorem Inv.turnedL {X : Cx} {pins : List (Addr × Obj)} {σ : St} {H : Hp} {s : Shared} {h' : Heap} {t' : Nat} {ch : List Addr} (I : Inv X pins σ H s) (k : ∀ b o,b ∉ ch -> s.heap.get? b = some o -> h'.get? b = some o) (hf : ∀ b ∈ ch,zej X pins H b) : Inv X pins σ H { s with heap:=h',toks:=t' }:=by
 have nit : ∀ b u,H b = some u -> b ∉ ch:=fun b u e z=>by rw [(hf b z).1] at e; cases e
 refine I.step (g':=s.gens) (d':=s.drawn) (ch:=ch) (fun b hb=>⟨(hf b hb).2.2.2.1,(hf b hb).2.1,(hf b hb).2.2.2.2.1,(hf b hb).2.2.2.2.2⟩) (fun b o _ _ hc e _=>k b o hc e)
   (fun b o _ _ hc e _=>⟨o.slots,k b o hc e⟩) (fun _ _ _ _ n=>n) (fun b o hc e=>⟨o,k b o hc e⟩) (fun _ _ e=>e) (fun _ _ _ e=>e) (fun b ps e=>⟨#[],by rw [e]; simp⟩) (fun m hm=>?_) (fun b u e=>?_) I.bare
 . obtain ⟨o,es,ep,ho,r⟩:=hm
   exact ⟨o,es,ep,k _ o (fun z=>(hf _ z).2.1 rfl) ho,r⟩
 . refine (I.hok b u e).stay (fun c v hc q=>k c v ?_ q) (fun _ q=>q) fun _ _ q=>q
   rcases hc with z | z
   . rw [z]; exact nit b u e
   . exact nit c _ z
section
variable {prog : Program} {w : World} {A : Around} {E : Value -> Shared -> Prop} {s : Shared}
end
theorem zkg : bootBuiltins "enumerate" = some (.type "enumerate"):=by decide +kernel
section
variable {K : PySem.W.Frag} {ta : TA} {g : TG} {tb : TS} {D : zb7} {σ : St} {H : Hp} {a : Addr} {xs : List V}
end
end L2
set_option Elab.async false
set_option linter.all false
set_option maxRecDepth 100000
namespace L2
open PySem PySem.Spec PyProof.Rows GM
structure ZA (z TI TO i1 i2 : Addr) (f1 f2 : List Addr) : Prop where
 a1 : TI ≠ z
 a2 : TO ≠ z
 a3 : i1 ≠ z
 a4 : i2 ≠ z
 a5 : TI ≠ TO
 a6 : TI ≠ i1
 a7 : TI ≠ i2
 a8 : TO ≠ i1
 a9 : TO ≠ i2
 b0 : i1 ≠ i2
 b1 : z ∉ f1
 b2 : z ∉ f2
 b3 : TO ∉ f1
 b4 : TO ∉ f2
 b5 : i1 ∉ f2
 b6 : i2 ∉ f1
section
variable {prog : Program} {w : World} {A : Around} {E : Value -> Shared -> Prop} {s : Shared} {z TI TO i1 i2 : Addr} {f1 f2 : List Addr} {n1 n2 k : Nat} {P1 P2 : Nat -> Value -> Prop} {S1 S2 : Nat -> Heap -> Prop} {a b : Value}
end
abbrev zT1 (h : Heap) (a : Addr) : Heap:=h.push { cls:=.type "tuple_iterator",data:=.fields #[.ref a,.int 0 0] }
abbrev zT2 (h : Heap) (a b : Addr) : Heap:=(zT1 h a).push { cls:=.type "tuple_iterator",data:=.fields #[.ref b,.int 0 0] }
abbrev zT3 (h : Heap) (a b : Addr) : Heap:=(zT2 h a b).push { cls:=.type "tuple",data:=.seq #[.ref h.objs.size,.ref (zT1 h a).objs.size] }
abbrev zT4 (h : Heap) (a b : Addr) : Heap:=(zT3 h a b).push { cls:=.type "tuple",data:=.seq #[.none,.none] }
abbrev zT5 (h : Heap) (a b : Addr) : Heap:=(zT4 h a b).push { cls:=.type "zip",data:=.fields #[.none,.bool false,.bool false,.ref (zT2 h a b).objs.size,.ref (zT3 h a b).objs.size] }
section
variable {prog : Program} {w : World} {A : Around} {E : Value -> Shared -> Prop} {s : Shared}
end
section
variable {t u : Bool} {K : PySem.W.Frag} {ta : TA} {g : TG} {tb : TS} {tt : TT} {te : TE} {D : zb7} {σ : L2.St} {H : Hp} {Q : VK} {a b : Addr} {xs ys : List V} {src : List (Option Nat)} {o0 o0' : Option V} {tl : L2.St}
def zeK (H : Hp) (tl : L2.St) (Rel : Nat -> V -> Hp -> Prop) (D : Addr) (i : Nat) (zs : List V) (σ' : L2.St) (H' : Hp) : Prop :=
 (∃ o1 o2,σ' = o1 :: o2 :: tl) /\ H D = none /\ zag H H' /\ H' D = some (.lst zs) /\ zs.length = i /\ ∀ j y,zs[j]? = some y -> Rel j y H'
theorem ziW {Rel : Nat -> V -> Hp -> Prop} {D : Addr} {i : Nat} {zs : List V} {σ' σ3 : L2.St} {H1 H5 : Hp} {y : V} (inv : zeK H tl Rel D i zs σ' H1) (hi : i <= 1000) (hk : ∀ i v H1 H2,zaO H1 H2 -> Rel i v H1 -> Rel i v H2) (hσ : ∃ o1 o2,σ3 = o1 :: o2 :: tl) (s : zag H1 H5) (r : Rel i y H5) : zk6 (zeK H tl Rel) D i σ3 y H5:=by
 obtain ⟨_,hn,s1,hD,hl,hr⟩:=inv
 have hD5:=s _ _ hD
 refine zgl hD5 (by lia) fun H6 E6 e6=>⟨hσ,hn,(s1.trans s).grow hn E6,e6,by simp [hl],fun j z hz=>?_⟩
 have k6 : zaO H5 H6:=E6.keep hD5
 rcases Nat.lt_or_ge j zs.length with hj | hj
 . rw [List.getElem?_append_left hj] at hz
   exact hk _ _ _ _ (s.keep.trans k6) (hr j z hz)
 . have hj' : j = zs.length:=by
     rcases Nat.lt_or_ge zs.length j with q | q
     . rw [List.getElem?_eq_none (by simp; lia)] at hz; cases hz
     . lia
   subst hj'
   rw [List.getElem?_append_right (Nat.le_refl _),Nat.sub_self] at hz
   cases hz
   rw [hl]
   exact hk _ _ _ _ k6 r
end
end L2
set_option Elab.async false
set_option linter.all false
set_option maxRecDepth 100000
namespace L2
open PySem PySem.Spec PyProof.Rows GM
end L2
set_option Elab.async false
set_option linter.all false
set_option maxRecDepth 100000
namespace L2
open PySem PySem.Spec PyProof.Rows GM
def zje (K : PySem.W.Frag) : List V -> Hp -> VK -> Prop:=fun xs H Q=>∃ (p : Addr) (bs : List Bool),xs = [.ref p] /\ SqL K H p (bs.map V.bl) /\ Q (.bl (bs.all id)) H
theorem zkA : bootBuiltins "all" = some (.builtin "all"):=by decide +kernel
theorem zpT {bs : List Bool} : ∀ {us : List Value},zav (bs.map V.bl) us -> us = bs.map Value.bool:=by
 induction bs with
 | nil=>intro us r; rw [List.map_nil] at r; cases r; rfl
 | cons b bs ih =>
   intro us r
   rw [List.map_cons] at r
   cases r with
   | cons r1 r2 =>
     cases r1
     rw [List.map_cons,ih r2]
theorem zmj (bs : List Bool) : ((List.range bs.length).all fun i=>(bs[i]?).getD true) = bs.all id:=by
 rw [Bool.eq_iff_iff,List.all_eq_true,List.all_eq_true]
 constructor
 . intro h b hb
   obtain ⟨i,hi,rfl⟩:=List.getElem_of_mem hb
   have:=h i (List.mem_range.mpr hi)
   rw [List.getElem?_eq_getElem hi] at this
   exact this
 . intro h i hi
   rw [List.mem_range] at hi
   rw [List.getElem?_eq_getElem hi]
   exact h _ (List.getElem_mem hi)
open PyProof.V PySem.Calls in
theorem zeI {X : Cx} (hc : X.calm = true) : zaq X (.builtin "all") (zje X.K):=by
 intro pins s σ H xs us Q I r h
 obtain ⟨p,bs,rfl,hq,q⟩:=h
 obtain ⟨u,rfl,rx⟩:=zes r
 cases rx
 obtain ⟨its,r',pl,hz⟩:=I.list hq
 have hi : its = bs.map Value.bool:=zpT r'
 have hl : s.heap.IsList p its.toArray:=pl.isList
 have hlt : p < s.heap.objs.size:=by obtain ⟨_,e,_⟩:=hl; exact Heap.lt_size e
 refine call_all_walk (wpAny_pyIter_list hl ?_)
 refine ⟨s.heap.objs.size,[s.heap.objs.size,p],[s.heap.objs.size],its.toArray.size,_,_,fun i=>(bs[i]?).getD true,rfl,Walks.list (A:=X.A.in1) (I.ok.hd hc) _ p (Nat.ne_of_lt hlt) its.toArray,
   ⟨⟨_,Heap.get?_push_size _ rfl,rfl,rfl⟩,hl.push _⟩,fun i v s' Q' E' hP hQ=>?_,fun h' tk hk=>?_⟩
 . have hP : its.toArray[i]? = some v:=hP
   rw [hi] at hP
   simp only [List.getElem?_toArray,List.getElem?_map,Option.map_eq_some_iff] at hP
   obtain ⟨b,e,rfl⟩:=hP
   simp only [e,Option.getD_some] at hQ
   exact wpAny_truthy_bool hQ
 . have e : ((List.range its.toArray.size).all fun i=>(bs[i]?).getD true) = bs.all id:=by
     rw [List.size_toArray,hi,List.length_map]; exact zmj bs
   rw [e]
   exact ⟨.bl (bs.all id),H,I.kept (t':=tk) (fun b x e=>hk b x (fun hm=>by rw [List.mem_singleton.mp hm] at e; exact Nat.lt_irrefl _ (Heap.lt_size e)) (Heap.get?_push_of_some _ e)),rfl,q⟩
theorem zfN {K : PySem.W.Frag} {H : Hp} {Q : VK} {p : Addr} {bs : List Bool} (h : SqL K H p (bs.map V.bl)) (q : Q (.bl (bs.all id)) H) : zje K [.ref p] H Q:=⟨p,bs,rfl,h,q⟩
section
variable {t u : Bool} {K : PySem.W.Frag} {g : TG} {tt : TT} {te : TE} {σ : L2.St} {H : Hp} {Q : VK} {a b : Addr} {xs ys : List V} {src : List (Option Nat)} {o0 o0' : Option V} {tl : L2.St}
end
end L2
set_option Elab.async false
set_option linter.all false
set_option maxRecDepth 100000
namespace L2
open PySem PySem.Spec PyProof.Rows GM
def zl8 (K : PySem.W.Frag) : List V -> Hp -> VK -> Prop:=fun xs H Q=>∃ x tp S T d b,xs = [x,.ref tp] /\ SqT K H tp [.ty S,.ty T] /\ Is K H x d /\ PySem.W.kitAny K (.type (kindOf d)) [.type S,.type T] = some b /\ Q (.bl b) H
theorem zmv {X : Cx} : zaq X (.builtin "isinstance") (zl8 X.K):=by
 intro pins s σ H xs us Q I r h
 obtain ⟨x,tp,S,T,d,b,rfl,ht,hd,e,q⟩:=h
 obtain ⟨u,w',rfl,rx,rt⟩:=zgh r
 cases (show w' = Value.ref tp from rt)
 obtain ⟨tts,rv,⟨ot,ht1,ht2,n,ht3⟩,_⟩:=I.tuple ht
 obtain ⟨t1,t2,rfl,r1,r2⟩:=zgh rv
 cases (show t1 = Value.type S from r1)
 cases (show t2 = Value.type T from r2)
 obtain ⟨c,dd,da,sl⟩:=ot
 cases ht2
 cases ht3
 have fin : ∀ tk,EP X pins σ Q (.bool b) { s with toks:=tk }:=fun tk=>⟨.bl b,H,I.tok _,rfl,q⟩
 cases d with
 | none =>
   cases zeP.mp hd
   cases (show u = Value.none from rx)
   exact PySem.W.kia_tup PySem.W.kitx_none I.kIn True.intro ht1 e (fun z=>nomatch z) fin
 | bool y =>
   cases zce.mp hd
   cases (show u = Value.bool y from rx)
   exact PySem.W.kia_tup PySem.W.kitx_bool I.kIn True.intro ht1 e (fun z=>nomatch z) fin
 | int i =>
   cases zaR.mp hd
   obtain ⟨t,q⟩:=(show ∃ t,u = Value.int i t from rx)
   cases q
   exact PySem.W.kia_tup PySem.W.kitx_int I.kIn True.intro ht1 e (fun z=>nomatch z) fin
 | str y =>
   cases zcQ.mp hd
   obtain ⟨t,q⟩:=(show ∃ t,u = Value.str y t from rx)
   cases q
   exact PySem.W.kia_tup PySem.W.kitx_str I.kIn True.intro ht1 e (fun z=>nomatch z) fin
 | tuple ds =>
   obtain ⟨a,xs,e1,hq,_⟩:=zaY.mp hd
   subst e1
   cases (show u = Value.ref a from rx)
   obtain ⟨its,_,⟨o,h1,h2,_⟩,_⟩:=I.tuple hq
   exact PySem.W.kia_tup PySem.W.kitx_tuple I.kIn ⟨o,h1,h2⟩ ht1 e (fun z=>nomatch z) fin
 | list ds =>
   obtain ⟨a,xs,e1,hq,_⟩:=zbk.mp hd
   subst e1
   cases (show u = Value.ref a from rx)
   obtain ⟨its,_,⟨o,n,h1,h2,_⟩,_⟩:=I.list hq
   exact PySem.W.kia_tup PySem.W.kitx_list I.kIn ⟨o,h1,h2⟩ ht1 e (fun z=>nomatch z) fin
 | dict kv =>
   obtain ⟨a,kvs,e1,hq⟩:=zkt.mp hd
   subst e1
   cases (show u = Value.ref a from rx)
   obtain ⟨_,_,vs,_,o,es,ep,h1,h2,_⟩:=(show zbM X.prog X.w H s.heap a (.dK kvs) from I.hok a _ hq)
   exact PySem.W.kia_tup PySem.W.kitx_dict I.kIn ⟨o,h1,h2.1⟩ ht1 e (fun z=>nomatch z) fin
theorem zqU {K : PySem.W.Frag} (d : PyData) : PySem.W.kitAny K (.type (kindOf d)) [.type "list",.type "tuple"] = some (zi4 d || zd3 d):=by cases d <;> rfl
theorem zgu {K : PySem.W.Frag} {H : Hp} {Q : VK} {v : V} {tp : Addr} {d : PyData} (h : Is K H v d) (t : H tp = some (.tup [.ty "list",.ty "tuple"])) (q : Q (.bl (zi4 d || zd3 d)) H) : zl8 K [v,.ref tp] H Q :=
 ⟨v,tp,"list","tuple",d,_,rfl,.of t,h,zqU d,q⟩
section
variable {X : Cx} {tg : Expr}
def ztr (K : PySem.W.Frag) (tl : TE) : TI:=fun σ H R=>tl σ H fun x H1=>(∃ a,x = .ref a /\ (∃ xs,SqL K H1 a xs) /\ R (Itl K a) H1) \/ (∃ a,x = .ref a /\ (∃ xs,SqT K H1 a xs) /\ R (Itt K a) H1)
theorem zpz {l : Expr} {tl : TE} (hl : PE X l tl) : PI X tg l (ztr X.K tl):=by
 intro pins s σ H R I h
 refine thn (hl pins s σ H _ I h) fun v s1 ⟨x,H1,I1,r1,q1⟩=>?_
 rcases q1 with ⟨a,e,⟨xs,hq⟩,q⟩ | ⟨a,e,⟨xs,hq⟩,q⟩
 . subst e
   cases r1
   obtain ⟨its,rv,p,hz⟩:=I1.list hq
   refine wpAny_pyIter_list p.isList ?_
   refine ⟨s1.heap.objs.size,[s1.heap.objs.size],_,_,H1,rfl,I1.kept (t':=s1.toks) fun b o e=>Heap.get?_push_of_some _ e,zjh a _,⟨_,Heap.get?_push_size _ rfl,rfl,rfl⟩,fun b hb=>?_,q⟩
   have e : b = s1.heap.objs.size:=by simpa using hb
   subst e
   exact I1.fpOk (Nat.le_refl _) (I1.hok.fresh (Nat.le_refl _))
 . subst e
   cases r1
   obtain ⟨its,rv,p,hz⟩:=I1.tuple hq
   refine wpAny_pyIter_tuple (show s1.heap.IsTuple a its.toArray from p) ?_
   refine ⟨s1.heap.objs.size,[s1.heap.objs.size],_,_,H1,rfl,I1.kept (t':=s1.toks) fun b o e=>Heap.get?_push_of_some _ e,zhC a _,⟨_,Heap.get?_push_size _ rfl,rfl,rfl⟩,fun b hb=>?_,q⟩
   have e : b = s1.heap.objs.size:=by simpa using hb
   subst e
   exact I1.fpOk (Nat.le_refl _) (I1.hok.fresh (Nat.le_refl _))
end
section
variable {K : PySem.W.Frag} {g : TG} {tt : TT} {te ta tb' tc : TE} {tb : TS} {D : zb7} {src : List (Option Nat)} {σ : St} {H : Hp} {Q : VK} {r r' : R2}
theorem zpG (h : ta σ H fun x H1=>zm6 K g tt te src σ x H1 Q \/ znr K g tt te src σ x H1 Q) : zh0 src (ztr K ta) g tt te σ H Q:=h
theorem zrz (h : te σ H fun x H1=>zs3 K g tb D σ x H1 \/ zt1 K g tb D σ x H1) : zrC (ztr K te) g tb D σ H:=h
theorem zo3 (h : ta σ H fun x H1=>tb' σ H1 fun y H2=>r x y H2 fun z H3=>∃ k,z = .bl k /\ (if k = true then tc σ H3 fun w' H4=>r' y w' H4 Q else Q (.bl false) H3)) : zqk r r' ta tb' tc σ H Q:=h
theorem ztw {b : Bool} {P : Bool -> Prop} (h : P b) : ∃ k,V.bl b = .bl k /\ P k:=⟨b,rfl,h⟩
end
def SwD (a b : Rat) (xs : List Rat) : PyData:=.tuple [R a b,TN xs]
theorem znb (a b : Rat) (xs : List Rat) : Imm (SwD a b xs) = true:=by rw [SwD,Imm,ImmAll,ImmAll,ImmAll,zoU,zoR]; rfl
theorem zr1 {x y : Rat} (h : N x = N y) : x = y:=by
 have h' : PyData.tuple [.int x.num,.int (x.den : Int)] = PyData.tuple [.int y.num,.int (y.den : Int)]:=h
 injection h' with h1
 injection h1 with h2 h3
 injection h2 with h4
 injection h3 with h5 _
 injection h5 with h6
 exact Rat.ext h4 (by lia)
theorem zsj {K : PySem.W.Frag} {H : Hp} {us : List V} {ds : List PyData} {i : Nat} {x : V} (t : IsAll K H us ds) (h : us[i]? = some x) : i < ds.length /\ Is K H x (ds.getD i .none):=by
 have hl:=t.length
 have hi : i < ds.length:=by
   rcases Nat.lt_or_ge i ds.length with z | z
   . exact z
   . rw [List.getElem?_eq_none (by lia)] at h; cases h
 obtain ⟨y,e,k⟩:=t.get (i:=i) (d:=ds.getD i .none) (by rw [List.getD_eq_getElem?_getD,List.getElem?_eq_getElem hi]; rfl)
 rw [e] at h
 cases h
 exact ⟨hi,k⟩
theorem zuk (a b c d : Rat) (xs ys : List Rat) : PyData.eqv (SwD a b xs) (SwD c d ys) = (decide (a = c) && decide (b = d) && decide (xs = ys)):=by
 unfold SwD
 rw [PyData.eqv,PyData.eqvAll,PyData.eqvAll,PyData.eqvAll,ztP,zs1]
 simp
end L2
set_option Elab.async false
set_option linter.all false
set_option maxRecDepth 100000
namespace L2
open PySem PySem.Spec PyProof.Rows GM
def zsZ (K : PySem.W.Frag) (a : Addr) : It :=
 ⟨fun i H=>∃ xs x,SqL K H a xs /\ xs[i]? = some x,fun i H y H'=>∃ t x,y = .ref t /\ H t = none /\ (∀ xs,SqL K H a xs -> xs[i]? = some x) /\ H' = upd H t (.tup [.int (i : Int),x]),fun i H=>∃ xs,SqL K H a xs /\ xs.length <= i⟩
theorem zlP {P : Program} {w : World} {K : PySem.W.Frag} {elts : List Expr} {k1} {tpos : Pos} (a e it : Addr) (hne : e ≠ it) : zkv P w K (.Tuple elts k1 tpos) (zsZ K a) [e,it] e (fun i h=>(∃ old,IsEnum h e it (i : Int) old) /\ h.IsListIter it a i) where
 mem:=by simp
 obj:=fun i h st b hb=>by
   obtain ⟨⟨old,he⟩,o,eo,c,d⟩:=st
   rcases List.mem_cons.mp hb with rfl | hb
   . exact ⟨_,he,fun v z=>by cases (show Data.fields _ = Data.cell v from z)⟩
   . rw [List.mem_singleton.mp hb]
     exact ⟨o,eo,fun v z=>by rw [d] at z; cases z⟩
 keep:=fun i h h' st k=>⟨let ⟨old,he⟩:=st.1; ⟨old,k e (by simp) _ he⟩,st.2.at fun o eo=>k it (by simp) o eo⟩
 item:=by
   intro X hP hw hK hc i pins s σ H E I hf st hg
   subst hP hw hK
   obtain ⟨⟨old,he⟩,st⟩:=st
   obtain ⟨xs,x,hq,hx⟩:=hg
   obtain ⟨its,rv,p,hz⟩:=I.list hq
   obtain ⟨u,hu,ru⟩:=rv.get hx
   have p' : s.heap.IsList a its.toArray:=p.isList
   have hai : a ≠ it:=fun z=>by
     subst z
     obtain ⟨o,e1,c1,_⟩:=st
     obtain ⟨o',e2,c2,_⟩:=p'
     rw [e1] at e2; cases e2
     rw [c1] at c2; exact absurd c2 (by decide)
   have hae : e ≠ a:=fun z=>by
     subst z
     obtain ⟨o',e2,c2,_⟩:=p'
     rw [he] at e2; cases e2
     exact absurd (show Value.type "enumerate" = Value.type "list" from c2) (by decide)
   have hlt : i < its.toArray.size:=by
     rcases Nat.lt_or_ge i its.length with z | z
     . simpa using z
     . rw [List.getElem?_eq_none z] at hu; cases hu
   refine wpAny_pyNext_enum_itemD (Draws.list (A:=X.A.in1) (I.ok.hd hc) it a hai its.toArray) he ⟨st,p'⟩ hlt hne (by simp [hne,hae]) fun v h1 tk hv ho hs1 hT hsz hk=>?_
   have hvu : v = u:=by
     have hv' : its[i]? = some v:=by simpa using hv
     rw [hu] at hv'; exact (Option.some.inj hv').symm
   subst hvu
   have I1 : Inv X pins σ (upd H s.heap.objs.size (.tup [.int (i : Int),x])) { s with heap:=s.heap.push { cls:=.type "tuple",data:=.seq ([.int (i : Int) tk,v] : List Value).toArray },toks:=tk + 1 } :=
     I.laid (fun b o q=>Heap.get?_push_of_some _ q) (Nat.le_refl _) (show zbM X.prog X.w _ _ _ (.tup [.int (i : Int),x]) from ⟨zfZ (by simp),_,.cons ⟨_,rfl⟩ (.cons ru .nil),IsTup.new _ _⟩)
   have lt1 : ∀ b ∈ [e,it],b < s.heap.objs.size:=fun b hb=>by
     rcases List.mem_cons.mp hb with rfl | hb
     . exact Heap.lt_size he
     . rw [List.mem_singleton.mp hb]
       obtain ⟨o,eo,_⟩:=st
       exact Heap.lt_size eo
   have hf1 : ∀ b ∈ [e,it],zej X pins (upd H s.heap.objs.size (.tup [.int (i : Int),x])) b:=fun b hb=>⟨by rw [zaG (Nat.ne_of_lt (lt1 b hb))]; exact (hf b hb).1,(hf b hb).2⟩
   refine ⟨_,rfl,wpAny_letOwnedTupleGo_enum ho fun h2 he2 hs2=>?_⟩
   refine ⟨.ref s.heap.objs.size,_,Inv.turnedL (s:={ s with heap:=s.heap.push { cls:=.type "tuple",data:=.seq ([.int (i : Int) tk,v] : List Value).toArray },toks:=tk + 1 }) (ch:=[e,it]) I1 (fun b o hb q=>?_) hf1,rfl,⟨_,x,rfl,I.hok.fresh (Nat.le_refl _),fun ys hy=>by rw [I.list_inj hy hq]; exact hx,rfl⟩,⟨⟨_,by simpa using he2⟩,hs1.1.at fun o eo=>(hs2.2 it (Ne.symm hne)).trans eo⟩,fun b hb=>(hf1 b hb).1⟩
   have hbe : b ≠ e:=fun z=>hb (by simp [z])
   have hbi : b ≠ it:=fun z=>hb (by simp [z])
   refine (hs2.2 b hbe).trans ?_
   by_cases hb2 : b = s.heap.objs.size
   . subst hb2
     rw [Heap.get?_push_size _ rfl] at q
     cases q
     exact hT
   . exact hk b o hbe hbi (by rw [Heap.get?_push_ne _ _ _ hb2] at q; exact q)
 done:=by
   intro X hP hw hK hc i pins s σ H E I hf st hg
   subst hP hw hK
   obtain ⟨⟨old,he⟩,st⟩:=st
   obtain ⟨xs,hq,hx⟩:=hg
   obtain ⟨its,rv,p,hz⟩:=I.list hq
   have p' : s.heap.IsList a its.toArray:=p.isList
   have hl:=rv.length
   have hT : s.TypeIs (.ref e) "enumerate":=⟨_,he,rfl⟩
   unfold pyNext
   refine wpAny_bind (wpAny_attempt (wpAny_callSpecial?_slot (name:=Str.ofString "__next__") hT F.slot_enumerate_next (wpAny_call_entry F.slot_enumerate_next hT F.entry_enumerate_next ?_ (F.args_enumerate_next_1 _))))
   show wpAny _ _ (field (.ref e) 2 >>= _) _ _ _; refine wpAny_bind (wpAny_field he rfl (x:=.ref it) rfl ?_)
   refine wpAny_bind (wpAny_nextOf_list_end (A:=X.A.in1) (I.ok.hd hc) st p' (by simp; lia) fun h' y he' hx'=>?_)
   obtain ⟨o,ho,hcl⟩:=hx'
   refine wpAny_bind (wpAny_isInstance (T:="StopIteration") (b:=true) ⟨o,ho,hcl⟩ isSubtype_stop (wpAny_pure ⟨rfl,?_⟩))
   obtain ⟨f0,f1,f2,f3,f4,f5⟩:=hf it (by simp)
   exact I.turned (t':=s.toks) (fun b o hb e=>he' b o hb e) f0 f1 f3 f4 f5
 self:=fun _ _ _ _ _ st h=>let ⟨_,he⟩:=st.1; wpAny_pyIter_enum he h
def zpV (K : PySem.W.Frag) (ta : TA) : TI:=fun σ H R=>ta σ H fun vs H1=>∃ a,vs = [.ref a] /\ (∃ xs,SqL K H1 a xs) /\ R (zsZ K a) H1
theorem zpn {X : Cx} {elts : List Expr} {k1} {tpos p pos : Pos} {l : Expr} {ta : TA} (hg : Gl X "enumerate") (hm : X.mg "enumerate" = none) (ha : PA X [l] ta) (hs : starEach [l] X.env = [(false,eval l X.env)]:=by rfl) :
   PI X (.Tuple elts k1 tpos) (.Call (.Name "enumerate" p) [l] [] pos) (zpV X.K ta):=by
 intro pins s σ H R I h
 refine Call_ (zfA I hg hm zkg (PyProof.Rows.callWith_type1 (thn (ha pos pins s σ H _ I h) fun us s1 ⟨vs,H1,I1,r1,q1⟩=>?_) hs rfl))
 obtain ⟨a,rfl,⟨xs,hq⟩,q⟩:=q1
 obtain ⟨u,rfl,ru⟩:=zes r1
 cases ru
 obtain ⟨its,rv,p,hz⟩:=I1.list hq
 refine call_enumerate_list p.isList fun h' he hit _ kp=>?_
 refine wpAny_pyIter_enum he ?_
 refine ⟨s1.heap.objs.size + 1,[s1.heap.objs.size + 1,s1.heap.objs.size],_,_,H1,rfl,I1.kept (t':=s1.toks) kp,zlP a (s1.heap.objs.size + 1) s1.heap.objs.size (Nat.succ_ne_self _),⟨⟨_,he⟩,hit⟩,fun b hb=>?_,q⟩
 have hb' : s1.heap.objs.size <= b:=by
   rcases List.mem_cons.mp hb with rfl | hb
   . lia
   . rw [List.mem_singleton.mp hb]; exact Nat.le_refl _
 exact I1.fpOk hb' (I1.hok.fresh hb')
def zoM (K : PySem.W.Frag) (g : TG) (tt : TT) (te : TE) (src : List (Option Nat)) (σ : St) (vs : List V) (H1 : Hp) (Q : VK) : Prop:=∃ a,vs = [.ref a] /\ (∃ xs,SqL K H1 a xs) /\
 ∀ D,H1 D = none -> zfw g tt te (zsZ K a) D (za4 src σ) (upd H1 D (.lst [])) (fun H'=>Q (.ref D) H')
section
variable {K : PySem.W.Frag} {ta : TA} {g : TG} {tb : TS} {tt c : TT} {te : TE} {D : zb7} {σ : St} {H : Hp} {Q : VK} {a : Addr} {xs : List V} {src : List (Option Nat)} {o0 o0' : Option V} {tl : St}
theorem zoe (h : ta σ H fun vs H1=>zoM K g tt te src σ vs H1 Q) : zh0 src (zpV K ta) g tt te σ H Q:=h
theorem zpA (hx : SqL K H a xs) (hsrc : za4 src σ = o0 :: o0' :: tl) (Rel : Nat -> V -> Hp -> Prop) (hk : ∀ i v H1 H2,zaO H1 H2 -> Rel i v H1 -> Rel i v H2)
   (hs : ∀ D i x zs o1 o2 H1 c,xs[i]? = some x -> zeK H tl Rel D i zs (o1 :: o2 :: tl) H1 -> H1 c = some (.tup [.int (i : Int),x]) -> zhb (zeK H tl Rel) g tt te D i (.ref c) (o1 :: o2 :: tl) H1)
   (hd : ∀ D zs H',H D = none -> zag H H' -> H' D = some (.lst zs) -> zs.length = xs.length -> (∀ j y,zs[j]? = some y -> Rel j y H') -> Q (.ref D) H') : zoM K g tt te src σ [.ref a] H Q:=by
 refine ⟨a,rfl,⟨xs,hx⟩,fun D hD=>⟨fun i m σ' H'=>i + m = xs.length /\ ∃ zs,zeK H tl Rel D i zs σ' H',⟨xs.length,by lia,[],⟨o0,o0',hsrc⟩,hD,zag.upd hD,zaB,rfl,fun j y z=>by simp at z⟩,?_⟩⟩
 rintro i m σ' H' ⟨him,zs,inv⟩
 have hq1:=inv.2.2.1.seq hx
 by_cases hm : m = 0
 . have e : i = xs.length:=by lia
   subst e
   obtain ⟨_,n,s,e,hl,r⟩:=inv
   exact .inl ⟨⟨xs,hq1,Nat.le_refl _⟩,hd D zs H' n s e hl r⟩
 . have hi : i < xs.length:=by lia
   refine .inr ⟨⟨xs,xs[i],hq1,by simp [hi]⟩,fun σ2 H2=>∃ zs,zeK H tl Rel D (i + 1) zs σ2 H2,fun σ2 H2 h=>⟨m - 1,by lia,by lia,h⟩,?_⟩
   rintro v H2 ⟨c,x,rfl,hn,hx',rfl⟩
   obtain ⟨⟨o1,o2,rfl⟩,n,s,e,hl,r⟩:=inv
   have su:=zag.upd (o:=.tup [.int (i : Int),x]) hn
   exact hs D i x zs o1 o2 _ c (hx' xs hq1) ⟨⟨o1,o2,rfl⟩,n,s.trans su,su _ _ e,hl,fun j y hy=>hk _ _ _ _ su.keep (r j y hy)⟩ zaB
def znC (Pv : Nat -> St -> Hp -> Prop) (m : Nat) (tb : TS) (D : zb7) (σ' : St) (H1 : Hp) : Prop :=
 ∃ M : St -> Hp -> Prop,(∀ σ2 H2,M σ2 H2 -> ∃ m',m' < m /\ Pv m' σ2 H2) /\ tb { D with nx:=M,ct:=M,bk:=D.nx } σ' H1
theorem zn6 (Pv : Nat -> St -> Hp -> Prop) (m0 : Nat) (h0 : Pv m0 σ H) (hs : ∀ m σ' H',Pv m σ' H' -> c σ' H' fun b H1=>if b = true then znC Pv m tb D σ' H1 else D.nx σ' H1) : zmJ c tb D σ H:=⟨Pv,⟨m0,h0⟩,hs⟩
theorem zoV {Pv : Nat -> St -> Hp -> Prop} {m : Nat} {σ' : St} {H1 : Hp} (h : tb { D with nx:=fun σ2 H2=>∃ m',m' < m /\ Pv m' σ2 H2,ct:=fun σ2 H2=>∃ m',m' < m /\ Pv m' σ2 H2,bk:=D.nx } σ' H1) : znC Pv m tb D σ' H1:=⟨_,fun _ _ q=>q,h⟩
def zqj (K : PySem.W.Frag) (x : V) (H : Hp) (Q : Bool -> Hp -> Prop) : Prop:=∃ k,ztL K x H k /\ Q k H
def zuv (K : PySem.W.Frag) (te : TE) : TT:=fun σ H Q=>te σ H fun x H'=>zqj K x H' Q
theorem zmi {X : Cx} {e : Expr} {t : TE} (h : PE X e t) (he : ∀ whole,isTrue e X.env whole = (do let v <- whole; standAt e.pos; holding [v] (truthy v)):=by intro _; rfl) : PT X e (zuv X.K t):=zp0 h he
theorem zsW {QB : Bool -> Hp -> Prop} (h : te σ H fun x H'=>zqj K x H' QB) : zuv K te σ H QB:=h
theorem zq8 {QB : Bool -> Hp -> Prop} {v : V} {ds : List PyData} (h : Is K H v (.tuple ds)) (q : QB (!ds.isEmpty) H) : zqj K v H QB:=by
 obtain ⟨p,us,rfl,hs,t⟩:=zaY.mp h
 have hl:=t.length
 refine ⟨_,.inr (.inl ⟨us,hs,rfl⟩),?_⟩
 have e : us.isEmpty = ds.isEmpty:=by
   cases us <;> cases ds <;> simp_all
 rw [e]; exact q
theorem zrK {QB : Bool -> Hp -> Prop} {v : V} {ds : List PyData} (h : Is K H v (.list ds)) (q : QB (!ds.isEmpty) H) : zqj K v H QB:=by
 obtain ⟨p,us,rfl,hs,t⟩:=zbk.mp h
 have hl:=t.length
 refine ⟨_,.inl ⟨us,hs,rfl⟩,?_⟩
 have e : us.isEmpty = ds.isEmpty:=by
   cases us <;> cases ds <;> simp_all
 rw [e]; exact q
end
theorem znc : ∀ (ys : List V) (us : List Value),ys.length = us.length -> (∀ (i : Nat) y u,ys[i]? = some y -> us[i]? = some u -> zaJ y u) -> zav ys us
 | [],[],_,_=>.nil
 | [],_ :: _,h,_=>by simp at h
 | _ :: _,[],h,_=>by simp at h
 | y :: ys,u :: us,h,r=>.cons (r 0 y u rfl rfl) (znc ys us (by simpa using h) fun i y u h1 h2=>r (i + 1) y u h1 h2)
def vz (l : List Nat) : List V:=l.map fun (w : Nat)=>V.int (w : Int)
theorem zel (l : List Nat) : (vz l).length = l.length:=List.length_map ..
def rLR (vs : List V) (H1 : Hp) (Q : VK) : Prop:=∃ j : Int,vs = [.int j] /\ 0 <= j /\ j <= 1000 /\ ∀ l,H1 l = none -> Q (.ref l) (upd H1 l (.lst (vz (List.range j.toNat))))
def zhR (ta : TA) : TE:=fun σ H Q=>ta σ H fun vs H1=>rLR vs H1 Q
theorem zjU {X : Cx} {a : Expr} {ta : TA} {p p2 pos pos2 : Pos} (hc : X.calm = true) (hg : Gl X "list") (hm : X.mg "list" = none) (hg2 : Gl X "range") (hm2 : X.mg "range" = none) (ha : PA X [a] ta) (hs : starEach [a] X.env = [(false,eval a X.env)]:=by rfl)
   (hs2 : starEach [Expr.Call (.Name "range" p2) [a] [] pos2] X.env = [(false,eval (.Call (.Name "range" p2) [a] [] pos2) X.env)]:=by rfl) : PE X (.Call (.Name "list" p) [.Call (.Name "range" p2) [a] [] pos2] [] pos) (zhR ta):=by
 intro pins s σ H Q I h
 refine Call_ (zfA I hg hm zm1 ?_)
 refine PyProof.Rows.callWith_type1 ?_ hs2 rfl
 rw [hs2]
 show wpAny _ _ (spliced ((false,eval _ X.env) :: backTo pos [])) _ _ s
 refine Calls.spliced_cons ?_
 refine Call_ (zfA I hg2 hm2 boot_range (PyProof.Rows.callWith_type1 (thn (ha pos2 pins s σ H _ I h) fun us s1 ⟨vs,H1,I1,r1,q1⟩=>?_) hs rfl))
 obtain ⟨j,e,j0,j1,q⟩:=q1
 subst e
 obtain ⟨u,rfl,ru⟩:=zes r1
 obtain ⟨t,rfl⟩:=ru
 refine call_range_1 ?_
 refine Calls.spliced_nil ?_
 have I2 : Inv X pins σ H1 { s1 with heap:=s1.heap.push { cls:=.type "range",data:=.fields #[.int 0 s1.toks,.int j t,.int 1 (s1.toks + 1)] },toks:=s1.toks + 1 + 1 }:=I1.kept fun b o e=>Heap.get?_push_of_some _ e
 refine call_list_range (n:=j.toNat) (I1.ok.hd hc) (IsRange.new ..) (small_one (by lia) (by lia) (by lia) (by lia)) (by rw [rangeSize_one]; split <;> lia) (by lia) fun h' tk acc c hk hD hI=>?_
 refine ⟨.ref _,_,I2.laid (t':=tk) hk (Nat.le_refl _) ?_,rfl,q _ (I2.hok.fresh (Nat.le_refl _))⟩
 refine ⟨zfZ (by rw [zel,List.length_range]; lia),acc.toList,c,znc _ _ (by rw [zel,List.length_range,Array.length_toList,hI.1]) fun i y u hy hu=>?_,by simpa using hD⟩
 have hu' : acc[i]? = some u:=by simpa using hu
 obtain ⟨t',e'⟩:=hI.2 i u hu'
 have hi : i < j.toNat:=by
   have:=(Array.getElem?_eq_some_iff.mp hu').1
   rw [hI.1] at this; exact this
 have hy' : y = V.int (i : Int):=by
   unfold vz at hy
   rw [List.getElem?_map,List.getElem?_range hi] at hy
   exact (Option.some.inj hy).symm
 subst hy'
 exact ⟨t',by rw [e']; congr 1; lia⟩
theorem zjK {ta : TA} {σ : St} {H : Hp} {Q : VK} (h : ta σ H fun vs H1=>rLR vs H1 Q) : zhR ta σ H Q:=h
theorem znH {n : Nat} {H : Hp} {Q : VK} (hn : n <= 1000) (q : ∀ l H',H l = none -> zag H H' -> H' l = some (.lst (vz (List.range n))) -> Q (.ref l) H') : rLR [V.int (n : Int)] H Q :=
 ⟨_,rfl,by lia,by lia,fun l hl=>q l _ hl (zag.upd hl) (by rw [Int.toNat_natCast]; exact zaB)⟩
theorem zqo (w : Nat) (l : List Nat) : inV (.int (w : Int)) (vz l) = decide (w ∈ l):=by
 unfold inV vz
 induction l with
 | nil=>rfl
 | cons x l ih =>
   rw [List.map_cons,List.any_cons,ih]
   show ((x : Int) == (w : Int) || _) = _
   by_cases h : w = x
   . subst h; simp
   . have h' : ¬ (x : Int) = (w : Int):=fun z=>h (by lia)
     simp [h,h']
theorem znA (l : List Nat) : (vz l).all zgd = true:=by
 unfold vz
 rw [List.all_eq_true]
 intro y hy
 obtain ⟨w,_,rfl⟩:=List.mem_map.mp hy
 rfl
section
variable {K : PySem.W.Frag} {H H' : Hp} {Q : VK} {v : V} {p : Addr} {l : List Nat} {w : Nat}
theorem zmh (h : SqT K H p (vz l)) (q : Q (.bl (!decide (w ∈ l))) H) : rIn K true (.int (w : Int)) (.ref p) H Q:=⟨p,vz l,rfl,.inr h,rfl,znA l,by rw [zqo]; exact q⟩
theorem zqD (h : SqL K H p (vz l)) (q : Q (.bl (decide (w ∈ l))) H) : rIn K false (.int (w : Int)) (.ref p) H Q:=⟨p,vz l,rfl,.inl h,rfl,znA l,by rw [zqo]; exact q⟩
def TW (l : List Nat) : PyData:=TZ (l.map fun (w : Nat)=>(w : Int))
theorem zsk : Is K H v (TW l) ↔ ∃ a,v = .ref a /\ SqT K H a (vz l):=by
 unfold TW vz
 rw [zuh,List.map_map]
 exact Iff.rfl
theorem zoy (l : List Nat) : Imm (TW l) = true:=ztn _
def TWs (ws : List (List Nat)) : PyData:=.tuple (ws.map TW)
theorem zeD : ∀ ws : List (List Nat),ImmAll (ws.map TW) = true
 | []=>rfl
 | w :: ws=>by rw [List.map_cons,ImmAll,zoy,zeD ws]; rfl
theorem zrs (ws : List (List Nat)) : Imm (TWs ws) = true:=by rw [TWs,Imm]; exact zeD ws
theorem zlT {i : Nat} {x : V} (h : (vz l)[i]? = some x) : ∃ hi : i < l.length,x = .int ((l[i] : Nat) : Int):=by
 have hi : i < l.length:=by
   rcases Nat.lt_or_ge i l.length with z | z
   . exact z
   . rw [List.getElem?_eq_none (by rw [zel]; exact z)] at h; cases h
 refine ⟨hi,?_⟩
 unfold vz at h
 rw [List.getElem?_map,List.getElem?_eq_getElem hi] at h
 exact (Option.some.inj h).symm
def GD (a b : Rat) (xs : List Rat) : PyData:=.tuple [N (1 - zbv xs),TWs (zbj a b xs),SwD a b (zbf a b xs)]
def zrr (h : Rat) (ws : List (List Nat)) (xs : List Rat) : PyData:=.tuple [N h,TWs ws,TN xs]
theorem zkJ (h : Rat) (ws : List (List Nat)) (xs : List Rat) : Imm (zrr h ws xs) = true:=by rw [zrr,Imm,ImmAll,ImmAll,ImmAll,ImmAll,zmZ,zrs,zoR]; rfl
def zsg (a b : Rat) (xs : List Rat) (k : Nat) : PyData:=zrr (zaF a b xs (k + 1)) (zbj a b (zaP a b xs k)) (zaP a b xs (k + 1))
def zd4 (a b : Rat) (xs : List Rat) (n : Nat) : List PyData:=(List.range n).map (zsg a b xs)
theorem zh4 {α : Type} (f : α -> PyData) (hf : ∀ x,Imm (f x) = true) : ∀ l : List α,ImmAll (l.map f) = true
 | []=>rfl
 | x :: l=>by rw [List.map_cons,ImmAll,hf,zh4 f hf l]; rfl
theorem IsAll.snoc {vs : List V} {ds : List PyData} {d : PyData} (h : IsAll K H vs ds) (k : Is K H v d) : IsAll K H (vs ++ [v]) (ds ++ [d]):=h.append (.cons k .nil)
theorem zeq {l : List Nat} {i : Nat} (h : i < l.length) : l.take (i + 1) = l.take i ++ [l[i]]:=by
 rw [List.take_add_one,List.getElem?_eq_getElem h]; rfl
theorem zoB (h : Is K H v (TW l)) (q : Q (.int (l.length : Int)) H) : zdd K [v] H Q:=zox h (by rw [List.length_map]; exact q)
end
theorem zoa (a b : Rat) (xs : List Rat) (n : Nat) : (zd4 a b xs n).length = n:=by simp [zd4]
theorem zfc (a b : Rat) (xs : List Rat) (n : Nat) : zd4 a b xs (n + 1) = zd4 a b xs n ++ [zsg a b xs n]:=by
 unfold zd4
 rw [List.range_succ,List.map_append]; rfl
theorem zj3 (a b : Rat) (xs : List Rat) (n : Nat) : ImmAll (zd4 a b xs n) = true:=zh4 _ (fun k=>zkJ _ _ _) _
theorem zpe {ps : List Rat} {l : List Nat} {w : Nat} (h : ¬ ps.getD w 0 < 1) : zah ps (l ++ [w]) = zah ps l ++ [w]:=by
 unfold zah; rw [List.filter_append,List.filter_cons,decide_eq_false h]; rfl
theorem znV {ps : List Rat} {l : List Nat} {w : Nat} (h : ps.getD w 0 < 1) : zah ps (l ++ [w]) = zah ps l:=by
 unfold zah; rw [List.filter_append,List.filter_cons,decide_eq_true h]; exact List.append_nil _
theorem znR {wave l : List Nat} {w : Nat} (h : ¬ w ∈ wave) : zat (l ++ [w]) wave = zat l wave ++ [w]:=by
 unfold zat; rw [List.filter_append]; simp [List.filter_cons,h]
theorem zlZ {wave l : List Nat} {w : Nat} (h : w ∈ wave) : zat (l ++ [w]) wave = zat l wave:=by
 unfold zat; rw [List.filter_append]; simp [List.filter_cons,h]
theorem zm0 (l : List Nat) (w : Nat) : vz (l ++ [w]) = vz l ++ [V.int (w : Int)]:=by unfold vz; rw [List.map_append]; rfl
theorem zn8 {xs : List Rat} {j : Nat} (h : j < xs.length) : (za5 xs).getD j 0 = xs.getD j 0 + (1 - zbv xs):=by
 unfold za5
 rw [List.getD_eq_getElem?_getD,List.getElem?_map,List.getElem?_eq_getElem h,List.getD_eq_getElem?_getD,List.getElem?_eq_getElem h]; rfl
theorem zg7 : ∀ ds : List PyData,(∀ d ∈ ds,PyData.eqv d d = true) -> PyData.eqvAll ds ds = true
 | [],_=>by simp [PyData.eqvAll]
 | d :: ds,h=>by rw [PyData.eqvAll,h d (List.mem_cons_self ..),zg7 ds fun e he=>h e (List.mem_cons_of_mem _ he)]; rfl
theorem ztG {ds : List PyData} (h : ∀ d ∈ ds,PyData.eqv d d = true) : PyData.eqv (.list ds) (.list ds) = true:=by rw [PyData.eqv]; exact zg7 ds h
theorem zuO (a b : Rat) (xs : List Rat) : PyData.eqv (SwD a b xs) (SwD a b xs) = true:=by rw [zuk]; simp
theorem zpD {P : PyData -> Prop} {a b : PyData} (ha : P a) (hb : P b) : ∀ d ∈ [a,b],P d:=fun d hd=>by
 simp only [List.mem_cons,List.not_mem_nil,or_false] at hd
 rcases hd with rfl | rfl
 . exact ha
 . exact hb
def Sh (n : Nat) (d : PyData) : Prop:=d.canLay0 = true /\ d.depth <= n
theorem zl1 {n : Nat} : ∀ ds : List PyData,(∀ d ∈ ds,Sh n d) -> PyData.canLayAll0 ds = true /\ PyData.depthAll ds <= n
 | [],_=>by simp [PyData.canLayAll0,PyData.depthAll]
 | d :: ds,h=>by
   have h1:=h d (List.mem_cons_self ..)
   have h2:=zl1 ds fun e he=>h e (List.mem_cons_of_mem _ he)
   rw [PyData.canLayAll0,PyData.depthAll,h1.1,h2.1]
   exact ⟨rfl,by have:=h1.2; have:=h2.2; lia⟩
theorem zjN {n : Nat} {ds : List PyData} (h : ∀ d ∈ ds,Sh n d) : Sh (n + 1) (.tuple ds):=by
 have:=zl1 ds h
 unfold Sh
 rw [PyData.canLay0,PyData.depth]
 exact ⟨this.1,by have:=this.2; lia⟩
theorem ztq {n : Nat} {ds : List PyData} (h : ∀ d ∈ ds,Sh n d) : Sh (n + 1) (.list ds):=by
 have:=zl1 ds h
 unfold Sh
 rw [PyData.canLay0,PyData.depth]
 exact ⟨this.1,by have:=this.2; lia⟩
theorem Sh.mono {m n : Nat} {d : PyData} (h : Sh m d) (e : m <= n) : Sh n d:=⟨h.1,Nat.le_trans h.2 e⟩
theorem Sh.shaped {n : Nat} {d : PyData} (h : Sh n d) (e : n <= 64) : PySem.SeqAt.shaped d = true:=by
 unfold PySem.SeqAt.shaped
 rw [h.1,Bool.true_and]
 exact decide_eq_true (Nat.le_trans h.2 e)
theorem zpb (i : Int) : Sh 1 (.int i):=⟨by simp [PyData.canLay0],by simp [PyData.depth]⟩
theorem zsR (x : Rat) : Sh 2 (N x):=zjN (zpD (zpb _) (zpb _))
theorem ztX (xs : List Rat) : Sh 3 (TN xs):=zjN fun d hd=>by
 obtain ⟨x,_,rfl⟩:=List.mem_map.mp hd
 exact zsR x
theorem zuI (a b : Rat) (xs : List Rat) : Sh 5 (SwD a b xs):=zjN (zpD ((zjN (zpD (zsR a) (zsR b))).mono (by decide)) ((ztX xs).mono (by decide)))
theorem zmY {K : PySem.W.Frag} {H : Hp} {Q : VK} {v w : V} {d : PyData} {n : Nat} (h : Is K H v d) (k : Is K H w d) (s : Sh n d) (e : n <= 64) (r : PyData.eqv d d = true) (q : Q (.bl false) H) : zeU K v w H Q:=zoS h k (s.shaped e) (s.shaped e) (by rw [r]; exact q)
theorem zi7 {K : PySem.W.Frag} {H : Hp} : ∀ {ds : List PyData} {vs : List V},vs.length = ds.length -> (∀ i x,vs[i]? = some x -> Is K H x (ds.getD i .none)) -> IsAll K H vs ds
 | [],[],_,_=>.nil
 | [],_ :: _,h,_=>by simp at h
 | _ :: _,[],h,_=>by simp at h
 | d :: ds,v :: vs,h,e=>.cons (e 0 v rfl) (zi7 (by simpa using h) fun i x hx=>e (i + 1) x hx)
end L2
set_option Elab.async false
set_option linter.all false
set_option maxRecDepth 100000
namespace L2
open PySem PySem.Spec PyProof.Rows GM
def zpt (K : PySem.W.Frag) : List V -> Hp -> VK -> Prop:=fun xs H Q=>∃ (p : Addr) (ns : List Int),xs = [.ref p] /\ SqL K H p (ns.map V.int) /\ 0 < ns.length /\ ∀ M,M ∈ ns -> (∀ t ∈ ns,t <= M) -> Q (.int M) H
theorem zqh : bootBuiltins "max" = some (.builtin "max"):=by decide +kernel
open PyProof.V PySem.Calls in
theorem zoj {X : Cx} (hc : X.calm = true) : zaq X (.builtin "max") (zpt X.K):=by
 intro pins s σ H xs us Q I r h
 obtain ⟨p,ns,rfl,hq,hne,q⟩:=h
 obtain ⟨u,rfl,rx⟩:=zes r
 cases rx
 obtain ⟨its,r',pl,hz⟩:=I.list hq
 have hI:=zmB r'
 have hL : s.heap.IsList p its.toArray:=pl.isList
 obtain ⟨zs,hx⟩:=hI.allInts.items
 have hn : numsOf its.toArray.toList = ns:=by rw [show its.toArray.toList = its from rfl,hI.numsOf]
 rw [hx] at hL hn
 rw [nums_intItems] at hn
 have hsz : zs.size = ns.length:=by rw [<- hn,List.length_map,Array.length_toList]
 refine max_intList (I.ok.hd hc) hL (by lia) fun v h' tk hv hk=>?_
 obtain ⟨t,rfl⟩:=intItems_at hv
 obtain ⟨h1,h2⟩:=argBest_gt (numAt zs) (zs.size - 1)
 refine ⟨.int _,H,I.kept (t':=tk) hk,⟨_,rfl⟩,q _ ?_ fun a ha=>?_⟩
 . rw [numAt_eq,hn]
   exact GM.getD_mem (by lia)
 . obtain ⟨j,hj,rfl⟩:=List.getElem_of_mem ha
   have:=h2 j (by lia)
   rw [numAt_eq,hn,List.getD_eq_getElem?_getD,List.getElem?_eq_getElem hj] at this
   exact this
theorem zqt {K : PySem.W.Frag} {H : Hp} {Q : VK} {p : Addr} {ns : List Int} (h : SqL K H p (ns.map V.int)) (hn : 0 < ns.length) (q : ∀ M,M ∈ ns -> (∀ t ∈ ns,t <= M) -> Q (.int M) H) : zpt K [.ref p] H Q:=⟨p,ns,rfl,h,hn,q⟩
section
variable {K : PySem.W.Frag} {H H' : Hp} {Q : VK} {D : zb7} {σ : St} {td ty tv : TE} {a : Addr} {kvs : List (Key × V)} {k : Int} {v : V}
end
end L2
set_option Elab.async false
set_option linter.all false
set_option maxRecDepth 100000
namespace L2
open PySem PySem.Spec PyProof.Rows GM
section
variable {K : PySem.W.Frag} {ta : TA} {g : TG} {tt : TT} {te : TE} {σ : St} {H : Hp} {Q : VK} {a : Addr} {xs : List V} {src : List (Option Nat)}
end
end L2
set_option Elab.async false
set_option linter.all false
set_option maxRecDepth 100000
namespace L2
open PySem PySem.Spec PyProof.Rows GM
section
variable {K : PySem.W.Frag} {H : Hp} {Q : VK} {v w : V} {ds : List PyData} {n : Nat} {l b : Addr} {xs zs : List V}
theorem znx (b : Bool) : Sh 1 (.bool b):=⟨by simp [PyData.canLay0],by simp [PyData.depth]⟩
end
theorem ziV {K : PySem.W.Frag} {H : Hp} {Q : VK} {v : V} {ds : List PyData} {d : PyData} (h : Is K H v (.list (ds ++ [d]))) (q : ∀ x,Is K H x d -> Q x H) : rIx K v (.int (-1)) H Q:=by
 obtain ⟨a,xs,rfl,hs,t⟩:=zbk.mp h
 have hl:=t.length
 rw [List.length_append,List.length_singleton] at hl
 obtain ⟨x,e1,hx⟩:=t.get (i:=ds.length) (d:=d) (by rw [List.getElem?_append_right (Nat.le_refl _),Nat.sub_self]; rfl)
 exact zed hs (znt (by rw [hl]; exact e1)) (q x hx)
end L2
set_option Elab.async false
set_option linter.all false
set_option maxRecDepth 100000
namespace L2
open PySem PySem.Spec PyProof.Rows GM
section
open PyProof.V PySem.Calls PySem.W
variable {prog : Program} {w : World} {A : Around} {E : Value -> Shared -> Prop} {s : Shared}
end
abbrev zM1 (h : Heap) (a : Addr) : Heap:=h.push { cls:=.type "tuple_iterator",data:=.fields #[.ref a,.int 0 0] }
abbrev zM2 (h : Heap) (a b : Addr) : Heap:=(zM1 h a).push { cls:=.type "list_iterator",data:=.fields #[.ref b,.int 0 0] }
abbrev zM3 (h : Heap) (a b : Addr) : Heap:=(zM2 h a b).push { cls:=.type "tuple",data:=.seq #[.ref h.objs.size,.ref (zM1 h a).objs.size] }
abbrev zM4 (h : Heap) (a b : Addr) : Heap:=(zM3 h a b).push { cls:=.type "tuple",data:=.seq #[.none,.none] }
abbrev zM5 (h : Heap) (a b : Addr) : Heap:=(zM4 h a b).push { cls:=.type "zip",data:=.fields #[.none,.bool false,.bool false,.ref (zM2 h a b).objs.size,.ref (zM3 h a b).objs.size] }
section
variable {prog : Program} {w : World} {A : Around} {E : Value -> Shared -> Prop} {s : Shared}
end
section
variable {X : Cx} {x : Str} {G : Value} {b₀ : Stmt} {body suite : List Stmt} {np hpos pos : Pos} {tb : (St -> XK) -> TS} {th : TS}
end
end L2
set_option Elab.async false
set_option linter.all false
set_option maxRecDepth 100000
namespace L2
open PySem PySem.Spec PyProof.Rows GM
section
variable {K : PySem.W.Frag} {H : Hp} {Q : VK} {p : Addr} {ns : List Int}
end
end L2
namespace L2
open PySem PySem.Spec PyProof.Rows GM
def zl (l : List Nat) : List Int:=l.map fun (w : Nat)=>(w : Int)
end L2
namespace L2
open PySem PySem.Spec PyProof.Rows GM
end L2
set_option Elab.async false
set_option linter.all false
set_option maxRecDepth 100000
namespace L2
open PySem PySem.Spec PyProof.Rows GM
def zj2 (K : PySem.W.Frag) : List V -> Hp -> VK -> Prop:=fun xs H Q=>zl8 K xs H Q \/ ∃ (p tp : Addr) (S T : String) (kvs : List (List Key × V)) (b : Bool),xs = [.ref p,.ref tp] /\ SqT K H tp [.ty S,.ty T] /\ H p = some (.dT kvs) /\ PySem.W.kitAny K (.type "dict") [.type S,.type T] = some b /\ Q (.bl b) H
theorem zk7 {X : Cx} : zaq X (.builtin "isinstance") (zj2 X.K):=by
 intro pins s σ H xs us Q I r h
 rcases h with h | h
 . exact zmv pins s σ H xs us Q I r h
 . obtain ⟨p,tp,S,T,kvs,b,rfl,ht,hp,e,q⟩:=h
   obtain ⟨u,w',rfl,rx,rt⟩:=zgh r
   cases (show w' = Value.ref tp from rt)
   cases (show u = Value.ref p from rx)
   obtain ⟨tts,rv,⟨ot,ht1,ht2,n,ht3⟩,_⟩:=I.tuple ht
   obtain ⟨t1,t2,rfl,r1,r2⟩:=zgh rv
   cases (show t1 = Value.type S from r1)
   cases (show t2 = Value.type T from r2)
   obtain ⟨c,dd,da,sl⟩:=ot
   cases ht2
   cases ht3
   obtain ⟨_,_,vs,_,o,es,ep,h1,h2,_⟩:=(show zbM X.prog X.w H s.heap p (.dT kvs) from I.hok p _ hp)
   exact PySem.W.kia_tup PySem.W.kitx_dict I.kIn ⟨o,h1,h2.1⟩ ht1 e (fun z=>nomatch z) fun tk=>⟨.bl b,H,I.tok _,rfl,q⟩
theorem znQ {K : PySem.W.Frag} {H : Hp} {Q : VK} {p tp : Addr} {kvs : List (List Key × V)} (h : H p = some (.dT kvs)) (t : H tp = some (.tup [.ty "list",.ty "tuple"])) (q : Q (.bl false) H) : zj2 K [.ref p,.ref tp] H Q :=
 .inr ⟨p,tp,"list","tuple",kvs,false,rfl,.of t,h,rfl,q⟩
abbrev zN1 (h : Heap) (a : Addr) : Heap:=h.push { cls:=.type "list_iterator",data:=.fields #[.ref a,.int 0 0] }
abbrev zN2 (h : Heap) (a b : Addr) : Heap:=(zN1 h a).push { cls:=.type "tuple_iterator",data:=.fields #[.ref b,.int 0 0] }
abbrev zN3 (h : Heap) (a b : Addr) : Heap:=(zN2 h a b).push { cls:=.type "tuple",data:=.seq #[.ref h.objs.size,.ref (zN1 h a).objs.size] }
abbrev zN4 (h : Heap) (a b : Addr) : Heap:=(zN3 h a b).push { cls:=.type "tuple",data:=.seq #[.none,.none] }
abbrev zN5 (h : Heap) (a b : Addr) : Heap:=(zN4 h a b).push { cls:=.type "zip",data:=.fields #[.none,.bool false,.bool false,.ref (zN2 h a b).objs.size,.ref (zN3 h a b).objs.size] }
section
variable {prog : Program} {w : World} {A : Around} {E : Value -> Shared -> Prop} {s : Shared}
end
def zoz : List V -> Hp -> VK -> Prop:=fun xs H Q=>∃ i j,xs = [.int i,.int j] /\ Q (.int (if i < j then j else i)) H
theorem zmk {X : Cx} (hc : X.calm = true) : zaq X (.builtin "max") zoz:=zoo hc
theorem zqx {i j : Int} {H : Hp} {Q : VK} (q : ∀ m : Int,i <= m -> j <= m -> (m = i \/ m = j) -> Q (.int m) H) : zoz [.int i,.int j] H Q:=⟨i,j,rfl,by
 split
 . exact q j (by lia) (by lia) (.inr rfl)
 . exact q i (by lia) (by lia) (.inl rfl)⟩
end L2
set_option Elab.async false
set_option linter.all false
set_option maxRecDepth 100000
namespace L2
open PySem PySem.Spec PyProof.Rows GM
def ExO (ex : Addr) (C : Value) : HO:=.ext fun h=>∃ oe,h.get? ex = some oe /\ ziT C oe
def zrR (K : PySem.W.Frag) (G : Value) (i : Nat) (tb : (St -> XK) -> TS) (th : Addr -> Value -> TS) : TS:=fun D σ H=>∃ W : St -> XK,tb W D σ H /\ ∀ σ' C o H',W σ' C o H' -> PySem.W.exmOne K C G = some true /\
 ∀ ex,H' ex = none -> th ex C { nx:=fun σ2 H2=>H2 ex = none -> D.nx (σ2.set i none) (upd H2 ex (ExO ex C)),rt:=D.rt,bk:=fun σ2 H2=>D.bk (σ2.set i none) H2,ct:=fun σ2 H2=>D.ct (σ2.set i none) H2 } (σ'.set i (some (.ref ex))) H'
theorem Inv.adopt {X : Cx} {pins pins' : List (Addr × Obj)} {σ σ1 : St} {H H1 : Hp} {s s0 : Shared} {ex : Addr} {oe : Obj} {C : Value} (I : Inv (X.inExc (X.pn ++ pins) ex oe) pins' σ H s) (I1 : Inv X pins σ1 H1 s0) (c : ziT C oe) (hs : X.stack = X.env :: X.outer) (hf : X.env.frame = some X.env.locals)
   (fresh : ∀ b o,s0.heap.get? b = some o -> H1 b = none -> b ∉ frs X.stack -> b ≠ ex) : Inv X pins σ (upd H ex (ExO ex C)) s:=by
 obtain ⟨he,hn,nl,nf,nc⟩:=I.pin (ex,oe) (List.mem_append_left _ (List.mem_append_right _ (List.mem_singleton.mpr rfl)))
 have J:=Inv.ofExc I1.ok I
 have ne : ∀ b u,H b = some u -> b ≠ ex:=fun b u e z=>by subst z; rw [hn] at e; cases e
 have nfr : ∀ b,b ∈ frs X.stack -> b ≠ ex:=fun b hb z=>by
   subst z
   rw [hs] at hb
   unfold frs at hb
   rw [List.filterMap_cons,hf] at hb
   rcases List.mem_cons.mp hb with z | z
   . exact nl z
   . exact nf z
 refine ⟨I1.ok,J.os,J.bare,⟨J.base.keep,J.base.slot,fun b u e z hx=>?_,J.base.there,fun b xs q=>?_,fun b o xs q=>?_,fun b ps q=>?_⟩,J.loc,J.cell,?_,fun x c' e=>?_,fun p hp=>?_,fun b o e=>?_,J.len⟩
 . obtain ⟨o',e1⟩:=I1.base.there b u e hx
   have z1:=I1.base.free b u e z hx
   have : b ≠ ex:=by
     by_cases hb : b ∈ frs X.stack
     . exact nfr b hb
     . exact fresh b o' e1 z1 hb
   rw [zaG this]
   exact J.base.free b u e z hx
 . have:=J.base.tups b xs q
   rw [zaG (ne b _ this)]; exact this
 . have:=J.base.frzs b o xs q
   rw [zaG (ne b _ this)]; exact this
 . obtain ⟨ms,this⟩:=J.base.tbls b ps q
   exact ⟨ms,by rw [zaG (ne b _ this)]; exact this⟩
 . rw [zaG (Ne.symm nl)]; exact J.free
 . have : c' ≠ ex:=fun z=>by
     subst z
     obtain ⟨v,o,e1,e2⟩:=J.cell x _ e
     have : (some oe : Option Obj) = some o:=he.symm.trans e1
     cases this
     exact nc v e2
   rw [zaG this]; exact J.freeC x c' e
 . obtain ⟨a1,a2,a3,a4,a5⟩:=J.pin p hp
   obtain ⟨b1,b2,b3,b4,b5⟩:=I1.pin p hp
   have : p.1 ≠ ex:=by
     by_cases hb : p.1 ∈ frs X.stack
     . exact nfr _ hb
     . exact fresh _ _ b1 b2 hb
   exact ⟨a1,by rw [zaG this]; exact a2,a3,a4,a5⟩
 . by_cases hb : b = ex
   . subst hb
     rw [zaB] at e
     cases e
     exact ⟨⟨oe,he,c⟩,⟨oe,he⟩,fun h1 h2 ⟨o1,z1,z2⟩ k=>⟨o1,k o1 z1,z2⟩⟩
   . rw [zaG hb] at e
     exact (J.hok b o e).stay (fun _ _ _ q=>q) (fun c q=>by rw [zaG (zaQ q hn)]; exact q) fun c xs q=>by rw [zaG (zaQ q hn)]; exact q
section
variable {X : Cx} {x n : Str} {G : Value} {i : Nat} {b₀ : Stmt} {body suite : List Stmt} {np hpos pos : Pos} {tb : (St -> XK) -> TS} {th : Addr -> Value -> TS}
theorem zqE (hs : X.stack = X.env :: X.outer) (hf : X.env.frame = some X.env.locals) (hN : X.N.Nodup) (hi : X.N[i]? = some n) (hl : X.env.scope.names.lookup n = some .local) (hg : Gl X x) (hG : X.mg x = some G)
   (hb : ∀ (W : St -> XK) (pn : List (Addr × Obj)) (E' : Value -> Shared -> Prop),znB (CX1 X.prog X.w) (X.at pn E') W -> PSs (X.at pn E') body (tb W))
   (hh : ∀ (pn : List (Addr × Obj)) (ex : Addr) (C : Value) (oe : Obj),ziT C oe -> PSs (X.inExc pn ex oe) (b₀ :: suite) (th ex C)) (hdb : (x == ("__debug__" : Str)) = false:=by decide) :
   PS X (.Try body [.ExceptHandler (some (.Name x np)) (some n) (b₀ :: suite) hpos] [] [] pos) (zrR X.K G i tb th):=by
 intro pins s σ H D I h
 obtain ⟨W,hB,hH⟩:=h
 refine wpAny_Try_except ?_
 have I':=I.toAt fun e s1=>∃ σ1 H1 s0,Inv X pins σ1 H1 s0 /\ CX1 X.prog X.w X.stack H1 s0 (W σ1) e s1
 have key:=hb W (X.pn ++ pins) (fun e s1=>∃ σ1 H1 s0,Inv X pins σ1 H1 s0 /\ CX1 X.prog X.w X.stack H1 s0 (W σ1) e s1) (fun pins1 σ1 H1 s0 e s1 I1 q=>⟨σ1,H1,s0,I1.ofAt,q⟩) [] s σ H D I' hB
 refine wpAny_mono key (fun f s1 hq=>?_) fun e s1 he=>?_
 . cases f with
   | next=>obtain ⟨σ',H',J,q⟩:=hq; exact wpAny_execs_nil ⟨σ',H',J.ofAt,q⟩
   | brk=>obtain ⟨σ',H',J,q⟩:=hq; exact ⟨σ',H',J.ofAt,q⟩
   | cont=>obtain ⟨σ',H',J,q⟩:=hq; exact ⟨σ',H',J.ofAt,q⟩
   | ret u=>obtain ⟨v,σ',H',J,r,q⟩:=hq; exact ⟨v,σ',H',J.ofAt,r,q⟩
 obtain ⟨σ1,H1,s0,I1,ex,C,H',B,rfl,os,bare,un,hok,F,ov,q⟩:=he
 obtain ⟨hm,hS⟩:=hH σ1 C none H' q
 have hfs : ∀ b ∈ frs X.stack,H1 b = none /\ ∃ o,s0.heap.get? b = some o /\ ∀ vs,o.data ≠ .fields vs:=fun b hb=>⟨I1.stkFree b hb,(I1.stack.mem hb).2⟩
 have hfr:=I.ok.frames.trans (congrArg some hs)
 have hex : H' ex = none:=by
   obtain ⟨_,_,_,_,_,_,_,_,_,_,_,_,_,be,_⟩:=F
   cases z : H' ex with
   | none=>rfl
   | some o =>
     obtain ⟨u,e1⟩:=ov.trk ex o z
     rw [be] at e1
     cases e1
 have fresh : ∀ b o,s0.heap.get? b = some o -> H1 b = none -> b ∉ frs X.stack -> b ≠ ex:=fun b o e z nf q=>by
   obtain ⟨_,_,_,_,_,_,_,_,_,_,_,_,_,be,_⟩:=F
   subst q
   rw [ov.old b o e z nf] at be
   cases be
 have st1:=F.st
 rw [hs] at F
 have exc : ∀ {h4 : Heap},Fly B (X.env :: X.outer) ex C .none h4 -> s1.heap.UpToSlots h4 -> ∃ oe,h4.get? ex = some oe /\ ziT C oe /\ Inv (X.inExc (X.pn ++ pins) ex oe) [] σ1 H' { s1 with heap:=h4 }:=fun {h4} F4 sm=>by
   have J : Inv X pins σ1 H' { s1 with heap:=h4 }:=I1.call' (s':={ s1 with heap:=h4 }) (ch:=[]) os (ov.un un hfs F4.st sm) (ov.hok hok st1 F4.st) bare (fun _ z=>nomatch z)
   obtain ⟨_,_,oe,vs,T,oT,ts,he,hc,hd,h1,h2,hdi,_⟩:=F4
   refine ⟨oe,he,⟨hc,⟨vs,hd,h2⟩,hdi⟩,J.toExc he hex (fun z=>?_) (fun z=>?_) fun v z=>?_⟩
   . obtain ⟨m,⟨o,es,ep,ho,hdd,_⟩,_⟩:=J.loc
     rw [<- z] at ho
     have : (some oe : Option Obj) = some o:=he.symm.trans ho
     cases this
     rw [hd] at hdd
     cases hdd
   . obtain ⟨_,o,ho,nr⟩:=J.funs.mem z
     have : (some oe : Option Obj) = some o:=he.symm.trans ho
     cases this
     exact nr vs hd
   . rw [hd] at z; cases z
 refine F.note hfr hf fun h2 F2 sm2=>F2.land fun h3 F3 sm3=>?_
 obtain ⟨oe3,g3,x3,K3⟩:=exc F3 (sm2.trans sm3)
 refine wpAny_handleBy_cons (codeAny_handlers_test (zf3 K3 hg hG ?_ hdb)) (by intro z; cases z)
 have LT : PySem.W.Looks (model X.prog X.w) h3 (typeOf (.ref ex)) C:=x3.cls ▸ (PySem.W.Looks.ld g3).andThen .now
 refine (PySem.W.exm_one (h:=h3) K3.kIn LT hm).here ?_
 refine codeAny_handlers_suite_as ?_
 refine F3.land fun h4 F4 sm4=>?_
 obtain ⟨oe,g4,x4,K4⟩:=exc F4 ((sm2.trans sm3).trans sm4)
 refine zen (X:=X.inExc (X.pn ++ pins) ex oe) K4 hN hi (.inl hl) (v:=.ref ex) rfl (fun s5 K5=>?_) (.inr hl)
 refine wpAny_mono (hh _ ex C oe x4 [] s5 _ H' _ K5 (hS ex hex)) (fun f s6 h6=>?_) fun _ _ z=>z.elim
 show wpAny (model X.prog X.w) X.A (do bindName X.env n .none; unbindBehindTheSuite X.env n hpos) _ _ _
 cases f with
 | next=>obtain ⟨σ',H6,J,q6⟩:=h6; exact (J.adopt I1 x4 hs hf fresh).gone hN hi hl fun s7 J7=>⟨_,_,J7,q6 (J.pin (ex,oe) (List.mem_append_left _ (List.mem_append_right _ (List.mem_singleton.mpr rfl)))).2.1⟩
 | brk=>obtain ⟨σ',H6,J,q6⟩:=h6; exact (J.ofExc I.ok).gone hN hi hl fun s7 J7=>⟨_,H6,J7,q6⟩
 | cont=>obtain ⟨σ',H6,J,q6⟩:=h6; exact (J.ofExc I.ok).gone hN hi hl fun s7 J7=>⟨_,H6,J7,q6⟩
 | ret u=>obtain ⟨v,σ',H6,J,r,q6⟩:=h6; exact (J.ofExc I.ok).gone hN hi hl fun s7 J7=>⟨v,_,H6,J7,r,q6⟩
end
def zhX (K : PySem.W.Frag) : List V -> Hp -> VK -> Prop:=fun xs H Q=>∃ (ex C' : Addr) (b : Bool),H ex = some (ExO ex (.ref C')) /\ ExcCls K C' /\
 ((∃ D,xs = [.ref ex,.ref D] /\ PySem.W.kitOne K (.ref C') (.ref D) = some b) \/ (∃ T,xs = [.ref ex,.ty T] /\ PySem.W.kitOne K (.ref C') (.type T) = some b) \/
   ∃ (tp : Addr) (cs : List Addr),xs = [.ref ex,.ref tp] /\ SqT K H tp (cs.map V.ref) /\ PySem.W.kitAny K (.ref C') (cs.map Value.ref) = some b) /\ Q (.bl b) H
theorem zgf : ∀ {cs : List Addr} {us : List Value},zav (cs.map V.ref) us -> us = cs.map Value.ref
 | [],_,.nil=>rfl
 | c :: cs,_,.cons r1 r2=>by rw [zgf r2,List.map_cons,show _ = Value.ref c from r1]
theorem zh5 {X : Cx} : zaq X (.builtin "isinstance") (zhX X.K):=by
 intro pins s σ H xs us Q I r h
 obtain ⟨ex,C',b,hx,c,h,q⟩:=h
 obtain ⟨⟨oe,e,oc⟩,_,_⟩:=I.hok ex _ hx
 obtain ⟨vs,d,_⟩:=oc.fld
 have J : PySem.W.InstAt s.heap ex oe C' none:=⟨e,oc.cls,by unfold PySem.W.notCls; rw [d],by rw [oc.dict]; trivial⟩
 have fin : ∀ tk,EP X pins σ Q (.bool b) { s with toks:=tk }:=fun tk=>⟨.bl b,H,I.tok _,rfl,q⟩
 rcases h with ⟨D,rfl,k⟩ | ⟨T,rfl,k⟩ | ⟨tp,cs,rfl,ht,k⟩
 . obtain ⟨u,w',rfl,rx,rt⟩:=zgh r
   cases (show u = Value.ref ex from rx)
   cases (show w' = Value.ref D from rt)
   exact PySem.W.kia_one (zim c) I.kIn J k (fun z=>nomatch z) fin
 . obtain ⟨u,w',rfl,rx,rt⟩:=zgh r
   cases (show u = Value.ref ex from rx)
   cases (show w' = Value.type T from rt)
   exact PySem.W.kia_one (zim c) I.kIn J k (fun z=>nomatch z) fin
 . obtain ⟨u,w',rfl,rx,rt⟩:=zgh r
   cases (show u = Value.ref ex from rx)
   cases (show w' = Value.ref tp from rt)
   obtain ⟨its,rv,⟨ot,ht1,ht2,n,ht3⟩,_⟩:=I.tuple ht
   have:=zgf rv
   subst this
   obtain ⟨cl,dd,da,sl⟩:=ot
   cases ht2
   cases ht3
   exact PySem.W.kia_tup (zim c) I.kIn J ht1 k (fun z=>nomatch z) fin
section
variable {K : PySem.W.Frag} {G : Value} {i : Nat} {tb : (St -> XK) -> TS} {th : Addr -> Value -> TS} {D : zb7} {σ : St} {H : Hp} {Q : VK} {ex C' tp : Addr} {b : Bool} {cs : List Addr}
theorem zrb (W : St -> XK) (h : tb W D σ H) (k : ∀ σ' C o H',W σ' C o H' -> PySem.W.exmOne K C G = some true /\
   ∀ ex,H' ex = none -> th ex C { nx:=fun σ2 H2=>H2 ex = none -> D.nx (σ2.set i none) (upd H2 ex (ExO ex C)),rt:=D.rt,bk:=fun σ2 H2=>D.bk (σ2.set i none) H2,ct:=fun σ2 H2=>D.ct (σ2.set i none) H2 } (σ'.set i (some (.ref ex))) H') : zrR K G i tb th D σ H:=⟨W,h,k⟩
theorem zog {D' : Addr} (h : H ex = some (ExO ex (.ref C'))) (c : ExcCls K C') (k : PySem.W.kitOne K (.ref C') (.ref D') = some b) (q : Q (.bl b) H) : zhX K [.ref ex,.ref D'] H Q:=⟨ex,C',b,h,c,.inl ⟨D',rfl,k⟩,q⟩
theorem zll : ∀ {cs : List Addr},(∀ c ∈ cs,PySem.W.kitOne K (.ref C') (.ref c) = some false) -> PySem.W.kitAny K (.ref C') (cs.map Value.ref) = some false
 | [],_=>rfl
 | c :: cs,h=>by
   rw [List.map_cons,PySem.W.kitAny,h c (List.mem_cons_self ..)]
   exact zll fun c hc=>h c (List.mem_cons_of_mem _ hc)
theorem zn9 (h : H ex = some (ExO ex (.ref C'))) (c : ExcCls K C') (t : SqT K H tp (cs.map V.ref)) (k : ∀ c ∈ cs,PySem.W.kitOne K (.ref C') (.ref c) = some false) (q : Q (.bl false) H) : zhX K [.ref ex,.ref tp] H Q:=⟨ex,C',false,h,c,.inr (.inr ⟨tp,cs,rfl,t,zll k⟩),q⟩
end
end L2
set_option Elab.async false
set_option linter.all false
set_option maxRecDepth 100000
namespace L2
open PySem PySem.Spec PyProof.Rows GM
structure Rp (n m : Nat) (d : PyData) : Prop where
 sh : Sh n d
 si : d.showable = true
 is : d.intsShort 13 = true
 wt : d.weight <= m
section
variable {K : PySem.W.Frag} {H : Hp} {Q : VK} {v : V} {d : PyData} {x y : Str}
end
end L2
set_option Elab.async false
set_option linter.all false
set_option maxRecDepth 100000
namespace L2
open PySem PySem.Spec PyProof.Rows GM
theorem zny : ∀ {ts : List Str} {us : List Value},zav (ts.map V.str) us -> ∃ l : List (Str × Tok),us = strValues l /\ l.map (·.1) = ts
 | [],us,h=>by
   cases h
   exact ⟨[],rfl,rfl⟩
 | t :: ts,us,h=>by
   cases h with
   | cons r rr =>
     obtain ⟨tk,rfl⟩:=r
     obtain ⟨l,e1,e2⟩:=zny rr
     exact ⟨(t,tk) :: l,by rw [e1]; rfl,by rw [List.map_cons,e2]⟩
section
variable {K : PySem.W.Frag} {H H' : Hp} {Q : VK} {D : zb7} {σ : St} {g : TG} {tb : TS} {ta td ty : TE} {tA : TA} {v : V} {d : PyData} {a : Addr} {kvs : List (Key × V)} {x : Str} {i : Int} {xs : List V}
theorem zfb {R : Prop} (q : R) : tyV K "str" (.str x) H /\ R:=⟨rfl,q⟩
end
end L2
set_option Elab.async false
set_option linter.all false
set_option maxRecDepth 100000
namespace L2
open PySem PySem.Spec PyProof.Rows GM
def zhf (ds : List Nat) : Nat:=ds.foldl (fun acc d=>acc * 10 + d) 0
def zaT (n : Nat) : List Nat:=if h : n < 10 then [n] else zaT (n / 10) ++ [n % 10]
termination_by n
decreasing_by omega
theorem zcv {n : Nat} (h : n < 10) : zaT n = [n]:=by rw [zaT,dif_pos h]
theorem zdS {n : Nat} (h : 10 <= n) : zaT n = zaT (n / 10) ++ [n % 10]:=by rw [zaT,dif_neg (by omega)]
theorem zeX : ∀ d,d < 10 -> (Nat.digitChar d).toNat = 48 + d:=by decide
theorem ziz (n : Nat) : (Nat.toDigits 10 n).map Char.toNat = (zaT n).map (48 + ·):=by
 induction n using Nat.strongRecOn with
 | ind n ih =>
   by_cases h : n < 10
   . rw [Nat.toDigits_of_lt_base h,zcv h,List.map_cons,List.map_nil,zeX n h]
     rfl
   . rw [Nat.toDigits_of_base_le (by decide) (by omega),zdS (by omega),List.map_append,List.map_append,ih (n / 10) (by omega),List.map_cons,List.map_nil,zeX _ (by omega)]
     rfl
theorem zdR (n : Nat) : zaT n ≠ []:=by
 by_cases h : n < 10
 . rw [zcv h]; simp
 . rw [zdS (by omega)]; simp
theorem zcb (n : Nat) : ∀ d ∈ zaT n,d < 10:=by
 induction n using Nat.strongRecOn with
 | ind n ih =>
   intro d hd
   by_cases h : n < 10
   . rw [zcv h,List.mem_singleton] at hd; omega
   . rw [zdS (by omega),List.mem_append,List.mem_singleton] at hd
     rcases hd with z | z
     . exact ih _ (by omega) d z
     . omega
theorem zfV (n : Nat) : zhf (zaT n) = n:=by
 induction n using Nat.strongRecOn with
 | ind n ih =>
   by_cases h : n < 10
   . rw [zcv h]; simp [zhf]
   . rw [zdS (by omega)]
     unfold zhf
     rw [List.foldl_append]
     have:=ih (n / 10) (by omega)
     unfold zhf at this
     rw [this]
     show n / 10 * 10 + n % 10 = n
     omega
theorem zqc {l m : List Nat} (h : l ≠ []) : (l ++ m).head? = l.head?:=by
 cases l with
 | nil=>exact absurd rfl h
 | cons a l=>rfl
theorem zky {α β : Type} {f : α -> β} (hf : ∀ a b,f a = f b -> a = b) : ∀ {l m : List α},l.map f = m.map f -> l = m
 | [],[],_=>rfl
 | [],_ :: _,h=>by simp at h
 | _ :: _,[],h=>by simp at h
 | a :: l,b :: m,h=>by
   rw [List.map_cons,List.map_cons] at h
   rw [hf _ _ (List.cons.inj h).1,zky hf (List.cons.inj h).2]
theorem zjj (n : Nat) : (zaT n).head? = some 0 -> n = 0:=by
 induction n using Nat.strongRecOn with
 | ind n ih =>
   intro hz
   by_cases h : n < 10
   . rw [zcv h] at hz
     simpa using hz
   . rw [zdS (by omega),zqc (zdR _)] at hz
     have:=ih (n / 10) (by omega) hz
     omega
theorem zi3 (n : Nat) (h : (zaT n).head? = some 0) : (zaT n).length = 1:=by
 rw [zjj n h,zcv (by decide)]; rfl
theorem zlq {n k : Nat} (hk : 1 <= k) (h : n < 10 ^ k) : (zaT n).length <= k:=by
 induction k generalizing n with
 | zero=>omega
 | succ k ih =>
   by_cases z : n < 10
   . rw [zcv z]; simp
   . rw [zdS (by omega),List.length_append,List.length_singleton]
     have hk1 : 1 <= k:=by
       rcases Nat.eq_zero_or_pos k with e | e
       . subst e; simp at h; omega
       . exact e
     have:=ih hk1 (n:=n / 10) (by rw [Nat.pow_succ] at h; omega)
     omega
def zaW (n : Nat) : Str:=⟨((zaT n).map (48 + ·)).toArray⟩
theorem znh (n : Nat) : Str.ofString (toString (n : Int)) = zaW n:=by
 have e : toString (n : Int) = toString n:=rfl
 rw [e,Str.ofString_eq_toList,Nat.toString_eq_ofList_toDigits]
 unfold zaW
 rw [String.toList_ofList,ziz]
theorem zo7 {m n : Nat} (h : zaW m = zaW n) : m = n:=by
 have e : (zaT m).map (48 + ·) = (zaT n).map (48 + ·):=by
   have:=congrArg (fun s : Str=>s.cps.toList) h
   simpa [zaW] using this
 have : zaT m = zaT n:=zky (fun a b z=>by simpa using z) e
 rw [<- zfV m,<- zfV n,this]
def zdq (c : Nat) : List (List Nat) -> List Nat
 | []=>[]
 | [x]=>x
 | x :: y :: r=>x ++ c :: zdq c (y :: r)
theorem zhV (c : Nat) : ∀ ts : List Str,(Str.join ⟨#[c]⟩ ts).cps.toList = zdq c (ts.map fun t=>t.cps.toList)
 | []=>rfl
 | [x]=>rfl
 | x :: y :: r=>by
   have ih:=zhV c (y :: r)
   show (x ++ ⟨#[c]⟩ ++ Str.join ⟨#[c]⟩ (y :: r)).cps.toList = _
   show (x.cps ++ #[c] ++ (Str.join ⟨#[c]⟩ (y :: r)).cps).toList = _
   rw [Array.toList_append,Array.toList_append,ih]
   simp [zdq]
theorem zh2 {c : Nat} : ∀ {a b x y : List Nat},c ∉ a -> c ∉ b -> a ++ c :: x = b ++ c :: y -> a = b /\ x = y
 | [],[],x,y,_,_,h=>⟨rfl,by simpa using h⟩
 | [],b :: bs,x,y,_,hb,h=>by
   have : c = b:=by simpa using (List.cons.inj h).1
   exact absurd (by rw [this]; simp) hb
 | a :: as,[],x,y,ha,_,h=>by
   have : a = c:=by simpa using (List.cons.inj h).1
   exact absurd (by rw [this]; simp) ha
 | a :: as,b :: bs,x,y,ha,hb,h=>by
   have h1:=(List.cons.inj h).1
   have h2 : as ++ c :: x = bs ++ c :: y:=(List.cons.inj h).2
   have:=zh2 (fun z=>ha (List.mem_cons_of_mem _ z)) (fun z=>hb (List.mem_cons_of_mem _ z)) h2
   exact ⟨by rw [h1,this.1],this.2⟩
theorem zjq {c : Nat} : ∀ {xs ys : List (List Nat)},xs ≠ [] -> ys ≠ [] -> (∀ x ∈ xs,c ∉ x) -> (∀ y ∈ ys,c ∉ y) -> zdq c xs = zdq c ys -> xs = ys
 | [],_,h,_,_,_,_=>absurd rfl h
 | _,[],_,h,_,_,_=>absurd rfl h
 | [x],[y],_,_,_,_,h=>by rw [show x = y from h]
 | [x],y :: z :: r,_,_,hx,_,h=>by
   have h : x = y ++ c :: zdq c (z :: r):=h
   exact absurd (by rw [h]; simp) (hx x (by simp))
 | x :: z :: r,[y],_,_,_,hy,h=>by
   have h : x ++ c :: zdq c (z :: r) = y:=h
   exact absurd (by rw [<- h]; simp) (hy y (by simp))
 | x :: z :: r,y :: w :: s,_,_,hx,hy,h=>by
   have h : x ++ c :: zdq c (z :: r) = y ++ c :: zdq c (w :: s):=h
   obtain ⟨h1,h2⟩:=zh2 (hx x (by simp)) (hy y (by simp)) h
   rw [h1,zjq (by simp) (by simp) (fun v hv=>hx v (List.mem_cons_of_mem _ hv)) (fun v hv=>hy v (List.mem_cons_of_mem _ hv)) h2]
theorem zpC (x y : Str) : Txt.split x y ≠ []:=by
 unfold Txt.split
 split
 . simp
 . split
   . simp
   . rw [PySem.StrLaws.partsBetween_eq]
     obtain ⟨p,r,e⟩:=PySem.StrLaws.partsFrom_ne x y.length 0 (Builtin.Str.occurrences x y 0 x.length (x.length + 1))
     rw [e]; simp
theorem ze8 {c : Nat} {ts : List Str} (ne : ts ≠ []) (h : ∀ t ∈ ts,c ∉ t.cps.toList) : Txt.split (Str.join ⟨#[c]⟩ ts) ⟨#[c]⟩ = ts:=by
 have e1:=PySem.StrLaws.join_split (Str.join ⟨#[c]⟩ ts) ⟨#[c]⟩
 have e2:=congrArg (fun s : Str=>s.cps.toList) e1
 simp only [zhV] at e2
 have e3:=zjq (by simpa using zpC _ _) (by simpa using ne) (fun x hx=>by
   obtain ⟨t,ht,rfl⟩:=List.mem_map.mp hx
   exact PySem.StrLaws.split_free _ c t ht) (fun x hx=>by
   obtain ⟨t,ht,rfl⟩:=List.mem_map.mp hx
   exact h t ht) e2
 exact zky (fun a b z=>Str.ext' (Array.toList_inj.mp z)) e3
set_option maxHeartbeats 2000000
theorem zfW : typeLookup (.type "str") "__int__" = pure none:=by rw [typeLookup_type,builtinLookup_eq_fast]; kernel_rfl
theorem zev : typeLookup (.type "str") "__index__" = pure none:=by rw [typeLookup_type,builtinLookup_eq_fast]; kernel_rfl
theorem zeo : typeLookup (.type "str") "__trunc__" = pure none:=by rw [typeLookup_type,builtinLookup_eq_fast]; kernel_rfl
theorem zdh {α : Type} {p : α -> Bool} : ∀ {l : List α},(∀ c ∈ l,p c = true) -> l.takeWhile p = l
 | [],_=>rfl
 | c :: l,h=>by rw [List.takeWhile_cons,if_pos (h c (List.mem_cons_self ..)),zdh fun d hd=>h d (List.mem_cons_of_mem _ hd)]
theorem zlJ {f : Array Nat × Bool -> Nat -> Option (Array Nat × Bool)} (hf : ∀ a b d,d < 10 -> f (a,b) (48 + d) = some (a.push d,true)) : ∀ (ds : List Nat) (a : Array Nat) (b : Bool),(∀ d ∈ ds,d < 10) -> List.foldlM f (a,b) (ds.map (48 + ·)) = some (a ++ ds.toArray,b || !ds.isEmpty)
 | [],a,b,_=>by simp
 | d :: ds,a,b,h=>by
   rw [List.map_cons,List.foldlM_cons,hf a b d (h d (List.mem_cons_self ..))]
   show List.foldlM f (a.push d,true) (ds.map (48 + ·)) = _
   rw [zlJ hf ds _ _ fun e he=>h e (List.mem_cons_of_mem _ he)]
   simp
theorem zpq {p : Nat -> Bool} (hp : ∀ d,d < 10 -> p (48 + d) = false) (ds : List Nat) (h : ∀ d ∈ ds,d < 10) (pre : List Nat) (ne : ds ≠ []) : ((pre ++ ds.map (48 + ·)).reverse.dropWhile p).reverse = pre ++ ds.map (48 + ·):=by
 obtain ⟨l,d,rfl⟩ : ∃ l d,ds = l ++ [d]:=⟨ds.dropLast,ds.getLast ne,(List.dropLast_concat_getLast ne).symm⟩
 rw [List.map_append,List.map_cons,List.map_nil,<- List.append_assoc,List.reverse_append,List.reverse_singleton,List.singleton_append,List.dropWhile_cons,hp d (h d (by simp))]
 simp
theorem zmb : ∀ d,d < 10 -> (48 + d == 32 || decide (9 <= 48 + d) && decide (48 + d <= 13)) = false:=by decide
theorem ziN (x : Str) (u : Tok) (ds : List Nat) (ne : ds ≠ []) (hd : ∀ d ∈ ds,d < 10) (hlead : ds.head? = some 0 -> ds.length = 1) (hx : x.cps.toList = ds.map (48 + ·)) (hl : ds.length <= 640) :
   Meets (Builtin.«int.__new__» ⟨[.type "int",.str x u],[]⟩) (Made.int (zhf ds)).spec :=
 Meets.of_wp fun prog w A R s hs=>by
   have hasc : x.cps.all (· < 128) = true:=by
     rw [<- Array.all_toList,hx,List.all_eq_true]
     intro c hc
     obtain ⟨d,h1,rfl⟩:=List.mem_map.mp hc
     have:=hd d h1
     exact decide_eq_true (by omega)
   have h0 : ∀ c ∈ ds.map (48 + ·),(c != 0) = true:=fun c hc=>by
     obtain ⟨d,h1,rfl⟩:=List.mem_map.mp hc
     simp
   obtain ⟨hp,g,d,tk,os⟩:=s
   have f1:=F.conv_sub_int
   have f2:=F.madeHere_int
   have f3:=zfW
   have f4:=zev
   have f5:=zeo
   iterate 48 (any_goals (first | assumption | wp_step))
   show wpAny _ _ (pure (some (if (x.cps.all fun x=>decide (x < 128)) = true then x.cps.toList else Unicode.numberText x.cps.toList))) _ _ _
   rw [if_pos hasc,hx]
   refine wpAny_pure ?_
   dsimp only
   k_delta "intFromText"
   have hseen : (ds.map (48 + ·)).takeWhile (fun c=>c != 0) = ds.map (48 + ·):=zdh h0
   dsimp only
   rw [hseen,if_pos (by rw [List.length_map]; exact hl)]
   refine wpAny_bind (wpAny_pure ?_)
   show wpAny _ _ _ _ _ _
   k_delta "readNumeral"
   k_delta "isBlank"
   k_delta "prefixBase?"
   k_delta "numeralDigits?"
   k_delta "digitValue?"
   have hdw : List.dropWhile (fun c=>c == 32 || decide (9 <= c) && decide (c <= 13)) (ds.map (48 + ·)) = ds.map (48 + ·):=by
     cases ds with
     | nil=>rfl
     | cons d ds=>rw [List.map_cons,List.dropWhile_cons,zmb d (hd d (List.mem_cons_self ..))]; rfl
   rw [hdw]
   have hbr:=zpq (p:=fun c=>c == 32 || decide (9 <= c) && decide (c <= 13)) zmb ds hd [] ne
   rw [List.nil_append] at hbr
   cases ds with
   | nil=>exact absurd rfl ne
   | cons d0 zbO =>
     have hd0:=hd d0 (List.mem_cons_self ..)
     have hsz : ¬ ((#[] ++ (d0 :: zbO).toArray).size > 6000):=by simp; simp at hl; omega
     have fin : wpAny (model prog w) A.in1 (mkInt ((zhf (d0 :: zbO) : Nat) : Int)) (fun a s'=>wpAny (model prog w) A.in1 (ret a) (fun fin s'=>∃ v,fin = Fin.done (Flow.ret v) /\ R (Except.ok (Flow.ret v)) s') (fun e s'=>R (Except.error e) s') s') (fun e s'=>R (Except.error e) s') { heap:=hp,gens:=g,drawn:=d,toks:=tk,os:=os }:=by
       repeat (any_goals (first | assumption | wp_step))
       exact ⟨_,rfl,hs⟩
     have hval : Array.foldl (fun acc d=>acc * 10 + d) 0 (#[] ++ (d0 :: zbO).toArray) = zhf (d0 :: zbO):=by simp [zhf]
     have hbr2 : ((List.dropWhile (fun c=>c == 32 || decide (9 <= c) && decide (c <= 13)) ((48 + d0) :: zbO.map (48 + ·)).reverse).reverse) = (d0 :: zbO).map (48 + ·):=hbr
     clear h0 hx hasc hseen hdw hs f1 f2 f3 f4 f5 hbr
     rw [List.map_cons]
     by_cases hz : d0 = 0
     . have hr : zbO = []:=by
         have:=hlead (by rw [hz]; rfl)
         cases zbO with
         | nil=>rfl
         | cons _ _=>simp at this
       subst hr hz
       dsimp only [Nat.reduceAdd] at hbr2 ⊢
       simp only [beq_iff_eq,Nat.reduceEqDiff,Bool.or_self,Bool.false_eq_true,if_false,ite_false,List.map_nil] at hbr2 ⊢
       rw [hbr2,zlJ ?hf [0] #[] false hd]
       case hf =>
         intro a b d h
         rcases (show d = 0 \/ d = 1 \/ d = 2 \/ d = 3 \/ d = 4 \/ d = 5 \/ d = 6 \/ d = 7 \/ d = 8 \/ d = 9 by omega) with rfl | rfl | rfl | rfl | rfl | rfl | rfl | rfl | rfl | rfl <;> rfl
       simp only [Option.bind_eq_bind,Option.bind_some,List.isEmpty_cons,Bool.not_false,Bool.or_true,if_true,if_pos,bne_self_eq_false,Bool.and_false,Bool.false_and,Bool.false_eq_true,if_false,decide_eq_false hsz,Bool.and_false]
       rw [hval]
       exact fin
     . rcases (show d0 = 1 \/ d0 = 2 \/ d0 = 3 \/ d0 = 4 \/ d0 = 5 \/ d0 = 6 \/ d0 = 7 \/ d0 = 8 \/ d0 = 9 by omega) with rfl | rfl | rfl | rfl | rfl | rfl | rfl | rfl | rfl
       all_goals
         dsimp only [Nat.reduceAdd] at hbr2 ⊢
         simp only [beq_iff_eq,Nat.reduceEqDiff,Bool.or_self,Bool.false_eq_true,if_false,ite_false]
         rw [hbr2,zlJ ?hf _ #[] false hd]
         case hf =>
           intro a b d h
           rcases (show d = 0 \/ d = 1 \/ d = 2 \/ d = 3 \/ d = 4 \/ d = 5 \/ d = 6 \/ d = 7 \/ d = 8 \/ d = 9 by omega) with rfl | rfl | rfl | rfl | rfl | rfl | rfl | rfl | rfl | rfl <;> rfl
         simp only [Option.bind_eq_bind,Option.bind_some,List.isEmpty_cons,Bool.not_false,Bool.or_true,if_true,if_pos,bne_self_eq_false,Bool.and_false,Bool.false_and,Bool.false_eq_true,if_false,decide_eq_false hsz,Bool.and_false]
         rw [hval]
         exact fin
set_option maxHeartbeats 200000
theorem zpy {prog : Program} {w : World} {A : Around} {E : Value -> Shared -> Prop} {s : Shared} {x y : Str} {t u : Tok} {Q : Value -> Shared -> Prop} (hy : (y.length == 0) = false)
   (hq : ∀ (l : List (Str × Tok)) (h' : Heap) (k c : Nat),l.map (·.1) = Txt.split x y -> (∀ b o,s.heap.get? b = some o -> h'.get? b = some o) -> h'.get? s.heap.objs.size = some { cls:=.type "list",dict:=none,data:=.seq (strValues l).toArray c,slots:=#[] } -> Q (.ref s.heap.objs.size) { s with heap:=h',toks:=k })
   (hsz : x.length <= sizeLine) (hsz2 : (Txt.split x y).length <= sizeLine) :
   wpAny (model prog w) A (call (.builtin "str.split") [.str x t,.str y u]) Q E s:=by
 cases h1 : (decide (x.length < y.length) || decide (Builtin.Str.strKind x < Builtin.Str.strKind y))
 . cases hf : (Builtin.Str.occurrences x y 0 x.length (x.length + 1)).isEmpty
   . refine call_meets F.slot_str_split (typeIs_str _ _ _) F.entry_str_split (F.args_str_split_2 _ _) (meets_str_split_sep x y t u h1 hy hf hsz (by unfold Txt.split at hsz2; rw [if_neg (ne_true_of_eq_false h1),if_neg (ne_true_of_eq_false hf)] at hsz2; exact hsz2)) ?_
     show wants Q E _ { s with toks:=_,heap:=s.heap.push { cls:=.type "list",data:=.seq (strsFrom s.toks (Builtin.Str.partsBetween x (Builtin.Str.occurrences x y 0 x.length (x.length + 1)) y.length)).toArray } }
     rw [strsFrom_eq]
     exact hq (numbered s.toks _) _ _ _ ((numbered_texts _ _).trans ((if_neg (ne_true_of_eq_false h1)).trans (if_neg (ne_true_of_eq_false hf))).symm) (fun b o e=>Heap.get?_push_of_some _ e) (Heap.get?_push_size _ rfl)
   . exact call_meets F.slot_str_split (typeIs_str _ _ _) F.entry_str_split (F.args_str_split_2 _ _) (meets_str_split_not_found x y t u h1 hy hf)
       (hq [(x,t)] _ s.toks _ ((if_neg (ne_true_of_eq_false h1)).trans (if_pos hf)).symm (fun b o e=>Heap.get?_push_of_some _ e) (Heap.get?_push_size _ rfl))
 . exact call_meets F.slot_str_split (typeIs_str _ _ _) F.entry_str_split (F.args_str_split_2 _ _) (meets_str_split_cannot_occur x y t u h1)
     (hq [(x,t)] _ s.toks _ (if_pos h1).symm (fun b o e=>Heap.get?_push_of_some _ e) (Heap.get?_push_size _ rfl))
theorem zjd : ∀ l : List (Str × Tok),zav ((l.map (·.1)).map V.str) (strValues l)
 | []=>.nil
 | (x,t) :: l=>.cons ⟨t,rfl⟩ (zjd l)
def zgr : V -> List V -> Hp -> VK -> Prop:=fun x vs H Q=>∃ (s y : Str),x = .str s /\ vs = [.str y] /\ (y.length == 0) = false /\ s.length <= sizeLine /\ (Txt.split s y).length <= sizeLine /\ ∀ l,H l = none -> Q (.ref l) (upd H l (.lst ((Txt.split s y).map V.str)))
theorem zhF {X : Cx} : MtM X "str.split" zgr:=by
 intro pins s σ H x vs v us Q I rx rv h
 obtain ⟨z,y,rfl,rfl,hy,h1,h2,q⟩:=h
 obtain ⟨t,rfl⟩:=rx
 obtain ⟨u,rfl,ru⟩:=rv.one
 obtain ⟨t2,rfl⟩:=ru
 refine zpy hy (fun l h' k c hl kp e=>?_) h1 h2
 refine ⟨.ref s.heap.objs.size,_,I.laid (t':=k) kp (Nat.le_refl _) (show zbM X.prog X.w _ h' _ (.lst ((Txt.split z y).map V.str)) from ⟨by rw [List.length_map]; exact h2,strValues l,c,?_,e⟩),rfl,q _ (I.hok.fresh (Nat.le_refl _))⟩
 rw [<- hl]
 exact zjd l
def zub : List V -> Hp -> VK -> Prop:=fun xs H Q=>∃ n : Nat,xs = [.str (zaW n)] /\ (zaT n).length <= 640 /\ Q (.int (n : Int)) H
theorem zom {X : Cx} : zaq X (.type "int") zub:=by
 intro pins s σ H xs us Q I r h
 obtain ⟨n,rfl,hl,q⟩:=h
 obtain ⟨u,rfl,rx⟩:=zes r
 obtain ⟨t,rfl⟩:=rx
 have g:=ziN (zaW n) t (zaT n) (zdR n) (zcb n) (zi3 n) (by simp [zaW]) hl
 rw [zfV] at g
 exact call_int_1 g (show (Made.int (n : Int)).post _ s from ⟨rfl,⟨.int (n : Int),H,I.tok _,⟨_,rfl⟩,q⟩⟩)
def Its (x : Str) : It where
 go:=fun i _=>i < x.length
 yld:=fun i H v H'=>H' = H /\ ∃ c,x.cps[i]? = some c /\ v = .str ⟨#[c]⟩
 stop:=fun i _=>x.length <= i
theorem zoL {P : Program} {w : World} {K : PySem.W.Frag} {tg : Expr} (x : Str) (t : Tok) (it : Addr) : zkv P w K tg (Its x) [it] it (fun i h=>h.IsStrIter it "str_ascii_iterator" x t i) where
 mem:=by simp
 obj:=fun i h st b hb=>by
   have e : b = it:=by simpa using hb
   subst e
   obtain ⟨o,e,c,d⟩:=st
   exact ⟨o,e,fun v z=>by rw [d] at z; cases z⟩
 keep:=fun i h h' st k=>by
   obtain ⟨o,e,c,d⟩:=st
   exact ⟨o,k it (by simp) o e,c,d⟩
 item:=by
   intro X hP hw hK hc i pins s σ H E I hf st hg
   subst hP hw hK
   have hg : i < x.cps.size:=hg
   obtain ⟨f0,f1,f2,f3,f4,f5⟩:=hf it (by simp)
   refine wpAny_pyNext_ascii_item st (c:=x.cps[i]) (by simp [hg]) fun h' st' sb=>?_
   have I1 : Inv X pins σ H { s with heap:=h',toks:=s.toks + 1 }:=I.turned (t':=s.toks + 1) (fun b o hb e=>(sb.2 b hb).trans e) f0 f1 f3 f4 f5
   obtain ⟨o,e,c,d⟩:=id st'
   exact ⟨_,rfl,znD (s:={ s with heap:=h',toks:=s.toks + 1 }) e c d (by decide) ⟨.str ⟨#[x.cps[i]]⟩,H,I1,⟨_,rfl⟩,⟨rfl,_,by simp [hg],rfl⟩,st',fun b hb=>(hf b hb).1⟩⟩
 done:=by
   intro X hP hw hK hc i pins s σ H E I hf st hg
   subst hP hw hK
   have hg : x.cps.size <= i:=hg
   obtain ⟨f0,f1,f2,f3,f4,f5⟩:=hf it (by simp)
   exact wpAny_pyNext_ascii_end (I.ok.hd hc) st (by simp; omega) fun h' eb=>⟨rfl,I.turned (t':=s.toks) (fun b o hb e=>eb b o hb e) f0 f1 f3 f4 f5⟩
 self:=fun _ _ _ _ _ st h=>wpAny_pyIter_striter_ascii st h
end L2
set_option Elab.async false
set_option linter.all false
set_option maxRecDepth 100000
namespace L2
open PySem PySem.Spec PyProof.Rows GM
def zt5 (ta : TE) : TI:=fun σ H R=>ta σ H fun v H1=>∃ x : Str,v = .str x /\ x.cps.all (· < 128) = true /\ R (Its x) H1
theorem zsC {X : Cx} {tg l : Expr} {ta : TE} (hl : PE X l ta) : PI X tg l (zt5 ta):=by
 intro pins s σ H R I h
 refine thn (hl pins s σ H _ I h) fun v s1 ⟨y,H1,I1,r1,q1⟩=>?_
 obtain ⟨x,rfl,ha,q⟩:=q1
 obtain ⟨t,rfl⟩:=r1
 refine wpAny_pyIter_ascii ha ?_
 refine ⟨s1.heap.objs.size,[s1.heap.objs.size],_,_,H1,rfl,I1.kept (t':=s1.toks) fun b o e=>Heap.get?_push_of_some _ e,zoL x t _,⟨_,Heap.get?_push_size _ rfl,rfl,rfl⟩,fun b hb=>?_,q⟩
 have e : b = s1.heap.objs.size:=by simpa using hb
 subst e
 exact I1.fpOk (Nat.le_refl _) (I1.hok.fresh (Nat.le_refl _))
def zr7 (g : TG) (tt : TT) (te : TE) (src : List (Option Nat)) (σ : St) (v : V) (H1 : Hp) (Q : VK) : Prop :=
 ∃ x : Str,v = .str x /\ x.cps.all (· < 128) = true /\ ∀ D,H1 D = none -> zfw g tt te (Its x) D (za4 src σ) (upd H1 D (.lst [])) (fun H'=>Q (.ref D) H')
section
variable {K : PySem.W.Frag} {g : TG} {tt : TT} {te ta : TE} {src : List (Option Nat)} {σ : St} {H : Hp} {Q : VK}
theorem zl5 (h : ta σ H fun x H1=>zr7 g tt te src σ x H1 Q) : zh0 src (zt5 ta) g tt te σ H Q:=h
theorem zlS {x : Str} (ha : x.cps.all (· < 128) = true) (Pv : Addr -> Nat -> List V -> St -> Hp -> Prop) (h0 : ∀ D H',H D = none -> zag H H' -> H' D = some (.lst []) -> Pv D 0 [] (za4 src σ) H')
   (hs : ∀ D (i : Nat) c ys σ' H',x.cps[i]? = some c -> Pv D i ys σ' H' -> zhb Pv g tt te D i (.str ⟨#[c]⟩) σ' H') (hd : ∀ D ys σ' H',Pv D x.length ys σ' H' -> Q (.ref D) H') : zr7 g tt te src σ (.str x) H Q:=by
 refine ⟨x,rfl,ha,fun D hD=>zhO (N:=x.length) Pv (fun i v=>∃ c,x.cps[i]? = some c /\ v = .str ⟨#[c]⟩) (h0 D _ hD (zag.upd hD) zaB) (fun i ys σ' H' hp hi=>hi) (fun i ys σ' H' hp hi=>hi) (fun i ys σ' H' v H2 hp hy=>⟨hy.1,hy.2⟩)
   (fun i v ys σ' H' hi hit hp=>?_) (hd D)⟩
 obtain ⟨c,hc,rfl⟩:=hit
 exact hs D i c ys σ' H' hc hp
end
def TJ:=St -> Hp -> Str -> (Str -> Hp -> Prop) -> Prop
def PJ (X : Cx) (es : List Expr) (tj : TJ) : Prop:=∀ (pins : List (Addr × Obj)) (s : Shared) (σ : St) (H : Hp) (Q : VK) (acc : Str),Inv X pins σ H s -> tj σ H acc (fun out H1=>Q (.str out) H1) ->
 Joins (model X.prog X.w) X.A X.xe (evalEach es X.env) acc (fun out s1=>out.length <= sizeLine /\ EP X pins σ Q (.str out s1.toks) { s1 with toks:=s1.toks + 1 }) s
def zsn : TJ:=fun σ H acc Q=>acc.length <= sizeLine /\ Q acc H
def zso (x : Str) (tj : TJ) : TJ:=fun σ H acc Q=>(acc ++ x).length <= sizeLine /\ tj σ H (acc ++ x) Q
def zr9 (te : TE) (tj : TJ) : TJ:=fun σ H acc Q=>te σ H fun v H1=>∃ y : Str,v = .str y /\ y.length <= sizeLine /\ (acc ++ y).length <= sizeLine /\ tj σ H1 (acc ++ y) Q
def zmN (tj : TJ) : TE:=fun σ H Q=>tj σ H Str.empty (fun out H1=>Q (.str out) H1)
section
variable {X : Cx} {es : List Expr} {e v1 v2 : Expr} {te : TE} {tj : TJ} {pos pp : Pos} {x : Str}
theorem zpY : PJ X [] zsn:=fun pins s σ H Q acc I h=>⟨h.1,.str acc,H,I.tok _,⟨_,rfl⟩,h.2⟩
theorem zma {j} (h : PJ X es tj) : PJ X (.Constant (.str x) j pos :: es) (zso x tj):=by
 intro pins s σ H Q acc I q
 show wpAny _ _ (eval (.Constant (.str x) j pos) X.env) _ _ s
 exact Calls.Constant_str ⟨x,_,rfl,q.1,h pins _ σ H Q (acc ++ x) (I.tok _) q.2⟩
theorem zjZ (he : PE X e te) (h : PJ X es tj) : PJ X (.FormattedValue e (-1) none pos :: es) (zr9 te tj):=by
 intro pins s σ H Q acc I q
 show wpAny _ _ (eval (.FormattedValue e (-1) none pos) X.env) _ _ s
 refine wpAny_FormattedValue_plain (thn (he pins s σ H _ I q) fun v s1 ⟨y,H1,I1,r1,q1⟩=>?_)
 obtain ⟨z,rfl,hz,hl,q⟩:=q1
 obtain ⟨t,rfl⟩:=r1
 exact wpAny_formatField_str ⟨z,_,rfl,hl,h pins _ σ H1 Q (acc ++ z) I1 q⟩ ⟨z,_,rfl,hl,h pins _ σ H1 Q (acc ++ z) (I1.tok _) q⟩ hz
theorem zne (h : PJ X (v1 :: v2 :: es) tj) : PE X (.JoinedStr (v1 :: v2 :: es) pos) (zmN tj):=fun pins s σ H Q I q=>wpAny_JoinedStr (h pins s σ H Q Str.empty I q)
end
section
variable {σ : St} {H : Hp} {Q : VK} {QS : Str -> Hp -> Prop} {te : TE} {tj : TJ} {acc x y : Str}
theorem zm3 (h : tj σ H Str.empty (fun out H1=>Q (.str out) H1)) : zmN tj σ H Q:=h
theorem zo9 (h1 : (acc ++ x).length <= sizeLine) (h : tj σ H (acc ++ x) QS) : zso x tj σ H acc QS:=⟨h1,h⟩
theorem zni (h : te σ H fun v H1=>∃ y : Str,v = .str y /\ y.length <= sizeLine /\ (acc ++ y).length <= sizeLine /\ tj σ H1 (acc ++ y) QS) : zr9 te tj σ H acc QS:=h
theorem zsp (h1 : acc.length <= sizeLine) (h : QS acc H) : zsn σ H acc QS:=⟨h1,h⟩
end
def zp4 : List V -> Hp -> VK -> Prop:=fun xs H Q=>∃ z : Str,xs = [.str z] /\ z.length <= sizeLine /\ Q (.int z.length) H
theorem znE {X : Cx} : zaq X (.builtin "len") zp4:=zjF
def zhK : List V -> Hp -> VK -> Prop:=fun xs H Q=>∃ i : Int,xs = [.int i] /\ i.natAbs.log2 < 1920 /\ Q (.str (toString i)) H
theorem zdr {X : Cx} : zaq X (.type "str") zhK:=zkB
def zs6 : R2:=fun x y H Q=>∃ i j : Str,x = .str i /\ y = .str j /\ Q (.bl (!(Builtin.Str.occurrences j i 0 j.length 1).isEmpty)) H
theorem zsH {X : Cx} : OpR X (compareOp .In) zs6:=zn5
def zkm (K : PySem.W.Frag) : V -> List V -> Hp -> VK -> Prop:=fun x vs H Q=>∃ (sep : Str) (l : Addr) (ts : List Str) (B : Nat),x = .str sep /\ vs = [.ref l] /\ SqL K H l (ts.map V.str) /\ (∀ y ∈ ts,y.length <= B) /\ ts.length * B + ts.length * sep.length <= 16777216 /\ Q (.str (Str.join sep ts)) H
theorem zkV {X : Cx} : MtM X "str.join" (zkm X.K):=by
 intro pins s σ H x vs v us Q I rx rv h
 obtain ⟨sep,l,ts,B,rfl,rfl,hl,hB,hz,q⟩:=h
 obtain ⟨tk,rfl⟩:=rx
 obtain ⟨u,rfl,ru⟩:=rv.one
 cases ru
 obtain ⟨its,r,p,_⟩:=I.list hl
 obtain ⟨lt,rfl,e2⟩:=zny r
 refine SC.join p.isList e2 ?_ (fun t' k=>⟨.str _,H,I.tok _,⟨_,rfl⟩,?_⟩)
 . unfold JoinOk
   rw [StrLaws.joinFits hB hz]
   rfl
 . rw [show Txt.join sep ts = Str.join sep ts from StrLaws.glued_eq_join sep ts]
   exact q
section
variable {K : PySem.W.Frag} {H H' : Hp} {Q : VK} {a : Addr} {x y : Str} {ts : List Str} {n : Nat} {i : Int}
theorem zlv {B : Nat} (h : SqL K H a (ts.map V.str)) (hB : ∀ y ∈ ts,y.length <= B) (hz : ts.length * B + ts.length * x.length <= 16777216) (q : Q (.str (Str.join x ts)) H) : zkm K (.str x) [.ref a] H Q:=⟨x,a,ts,B,rfl,rfl,h,hB,hz,q⟩
theorem zih (hy : (y.length == 0) = false) (h1 : x.length <= sizeLine) (h2 : (Txt.split x y).length <= sizeLine) (q : ∀ l H',H l = none -> zag H H' -> H' l = some (.lst ((Txt.split x y).map V.str)) -> Q (.ref l) H') : zgr (.str x) [.str y] H Q :=
 ⟨x,y,rfl,rfl,hy,h1,h2,fun l hl=>q l _ hl (zag.upd hl) zaB⟩
theorem zgg (h : i.natAbs.log2 < 1920) (q : Q (.str (toString i)) H) : zhK [.int i] H Q:=⟨i,rfl,h,q⟩
theorem zrf (h : x.length <= sizeLine) (q : Q (.int x.length) H) : zp4 [.str x] H Q:=⟨x,rfl,h,q⟩
theorem ztv (q : Q (.bl (!(Builtin.Str.occurrences y x 0 y.length 1).isEmpty)) H) : zs6 (.str x) (.str y) H Q:=⟨x,y,rfl,rfl,q⟩
theorem zlA (hx : PyData.strOk x = true) (hy : PyData.strOk y = true) (q : Q (.bl (x == y)) H) : zig K (.str x) (.str y) H Q :=
 ztC (d:=.str x) (e:=.str y) (zcQ.mpr rfl) (zcQ.mpr rfl) (by simp [PySem.SeqAt.shaped,PyData.canLay0,PyData.depth,hx]) (by simp [PySem.SeqAt.shaped,PyData.canLay0,PyData.depth,hy]) (by rw [PyData.eqv]; exact q)
theorem zew (hx : PyData.strOk x = true) (hy : PyData.strOk y = true) (q : Q (.bl (!(x == y))) H) : zeU K (.str x) (.str y) H Q :=
 zoS (d:=.str x) (e:=.str y) (zcQ.mpr rfl) (zcQ.mpr rfl) (by simp [PySem.SeqAt.shaped,PyData.canLay0,PyData.depth,hx]) (by simp [PySem.SeqAt.shaped,PyData.canLay0,PyData.depth,hy]) (by rw [PyData.eqv]; exact q)
end
def ztf : Str:=⟨#[48,49,50,51,52,53,54,55,56,57]⟩
theorem zta : ∀ d,d < 10 -> (!(Builtin.Str.occurrences ztf ⟨#[48 + d]⟩ 0 ztf.length 1).isEmpty) = true:=by decide +kernel
end L2
set_option Elab.async false
set_option linter.all false
set_option maxRecDepth 100000
namespace L2
open PySem PySem.Spec PyProof.Rows GM
open PySem.StrLaws PySem.Builtin PySem.Builtin.Str
theorem zbs (x y : Str) : (x ++ y).cps.toList = x.cps.toList ++ y.cps.toList:=by
 show (x.cps ++ y.cps).toList = _
 simp
theorem zou {x : Str} {c : Nat} (h : c ∉ x.cps.toList) : Txt.partition x ⟨#[c]⟩ = (x,Str.empty,Str.empty):=by
 unfold Txt.partition
 rcases StrLaws.occ_head x ⟨#[c]⟩ 1 (Nat.le_refl 1) with ⟨h0,hn⟩ | ⟨i,r,h0,hi,hn⟩
 . rw [h0]
 . exact absurd (List.mem_of_getElem? ((subAt_one x c i).mp hi)) h
theorem zrN {a b : Str} {c : Nat} (h : c ∉ a.cps.toList) : Txt.partition (a ++ ⟨#[c]⟩ ++ b) ⟨#[c]⟩ = (a,⟨#[c]⟩,b):=by
 have hx : (a ++ ⟨#[c]⟩ ++ b).cps.toList = a.cps.toList ++ (c :: b.cps.toList):=by rw [zbs,zbs]; simp
 have hl : (a ++ ⟨#[c]⟩ ++ b).length = (a ++ ⟨#[c]⟩ ++ b).cps.toList.length:=by simp [Str.length]
 have hat : StrLaws.At (a ++ ⟨#[c]⟩ ++ b) ⟨#[c]⟩ (a ++ ⟨#[c]⟩ ++ b).length a.cps.toList.length:=(subAt_one _ c _).mpr (by rw [hx]; simp)
 unfold Txt.partition
 rcases StrLaws.occ_head (a ++ ⟨#[c]⟩ ++ b) ⟨#[c]⟩ 1 (Nat.le_refl 1) with ⟨h0,hn⟩ | ⟨i,r,h0,hi,hn⟩
 . exact absurd hat (hn _)
 . have e : i = a.cps.toList.length:=by
     rcases Nat.lt_trichotomy i a.cps.toList.length with z | z | z
     . have:=(subAt_one _ c i).mp hi
       rw [hx,List.getElem?_append_left z] at this
       exact absurd (List.mem_of_getElem? this) h
     . exact z
     . exact absurd hat (hn _ z)
   subst e
   rw [h0]
   show (strSub _ 0 _,_,strSub _ _ _) = _
   congr 1
   . refine Str.ext' (Array.toList_inj.mp ?_)
     rw [strSub_toList,hx]
     simp
   . congr 1
     refine Str.ext' (Array.toList_inj.mp ?_)
     rw [strSub_toList,hl,hx]
     have e2 : ((⟨#[c]⟩ : Str)).length = 1:=rfl
     rw [e2,show a.cps.toList ++ c :: b.cps.toList = (a.cps.toList ++ [c]) ++ b.cps.toList by simp,show a.cps.toList.length + 1 = (a.cps.toList ++ [c]).length by simp,List.drop_left,List.take_of_length_le]
     simp only [List.length_append]
     omega
theorem zmL {x : Str} {c : Nat} : Txt.startswith x ⟨#[c]⟩ = decide (x.cps.toList[0]? = some c):=by
 have:=subAt_one x c 0
 rw [Bool.eq_iff_iff,decide_eq_true_eq,<- this]
 unfold Txt.startswith
 show _ ↔ (_ /\ _)
 rw [Bool.and_eq_true,decide_eq_true_eq]
theorem zos {x : Str} {c : Nat} : sliceText (⟨#[c]⟩ ++ x) (some 1) none = x:=by
 rw [sliceText_from ⟨by decide,by rw [zbs]; simp; omega⟩]
 refine Str.ext' (Array.toList_inj.mp ?_)
 rw [zbs]
 simp
 exact List.take_of_length_le (by simp)
def zbX (z : Int) : Str:=if z < 0 then ⟨#[45]⟩ ++ zaW z.natAbs else zaW z.natAbs
theorem zfJ (z : Int) : Str.ofString (toString z) = zbX z:=by
 cases z with
 | ofNat n =>
   unfold zbX
   rw [if_neg (by simp)]
   exact znh n
 | negSucc n =>
   unfold zbX
   rw [if_pos (Int.negSucc_lt_zero n)]
   have e : toString (Int.negSucc n) = "-" ++ toString (n + 1):=rfl
   have e2:=znh (n + 1)
   have e3 : toString ((n + 1 : Nat) : Int) = toString (n + 1):=rfl
   rw [e3] at e2
   rw [e]
   show _ = _ ++ zaW (n + 1)
   rw [<- e2,Str.ofString_eq_toList,Str.ofString_eq_toList]
   refine Str.ext' (Array.toList_inj.mp ?_)
   rw [zbs,String.toList_append]
   simp
def zbg (r : Rat) : Str:=if r.den = 1 then zbX r.num else zbX r.num ++ ⟨#[47]⟩ ++ zaW r.den
theorem zkn {n c : Nat} (h : c < 48) : c ∉ (zaW n).cps.toList:=by
 intro hc
 unfold zaW at hc
 simp only [List.mem_map] at hc
 obtain ⟨d,_,e⟩:=hc
 omega
theorem zkK {n c : Nat} (h : 57 < c) : c ∉ (zaW n).cps.toList:=by
 intro hc
 unfold zaW at hc
 simp only [List.mem_map] at hc
 obtain ⟨d,hd,e⟩:=hc
 have:=zcb n d hd
 omega
theorem zpE {c e : Nat} (h : c ≠ e) : c ∉ (⟨#[e]⟩ : Str).cps.toList:=by simp [h]
theorem zjD {x y : Str} {c : Nat} (h1 : c ∉ x.cps.toList) (h2 : c ∉ y.cps.toList) : c ∉ (x ++ y).cps.toList:=by
 rw [zbs,List.mem_append]
 exact fun z=>z.elim h1 h2
theorem zfH {z : Int} {c : Nat} (h : c < 48 /\ c ≠ 45 \/ 57 < c) : c ∉ (zbX z).cps.toList:=by
 have hn : c ∉ (zaW z.natAbs).cps.toList:=by
   rcases h with h | h
   . exact zkn h.1
   . exact zkK h
 unfold zbX
 split
 . exact zjD (zpE (by omega)) hn
 . exact hn
theorem zkq {r : Rat} {c : Nat} (h : c < 45 \/ 57 < c) : c ∉ (zbg r).cps.toList:=by
 have hn : c ∉ (zaW r.den).cps.toList:=by
   rcases h with h | h
   . exact zkn (by omega)
   . exact zkK h
 unfold zbg
 split
 . exact zfH (by omega)
 . exact zjD (zjD (zfH (by omega)) (zpE (by omega))) hn
set_option maxHeartbeats 2000000
theorem ziO (x : Str) (u : Tok) (ds : List Nat) (ne : ds ≠ []) (hd : ∀ d ∈ ds,d < 10) (hlead : ds.head? = some 0 -> ds.length = 1) (hx : x.cps.toList = 45 :: ds.map (48 + ·)) (hl : ds.length <= 639) :
   Meets (Builtin.«int.__new__» ⟨[.type "int",.str x u],[]⟩) (Made.int (-(zhf ds : Int))).spec :=
 Meets.of_wp fun prog w A R s hs=>by
   have hasc : x.cps.all (· < 128) = true:=by
     rw [<- Array.all_toList,hx,List.all_eq_true]
     intro c hc
     rcases List.mem_cons.mp hc with rfl | hc
     . rfl
     obtain ⟨d,h1,rfl⟩:=List.mem_map.mp hc
     have:=hd d h1
     exact decide_eq_true (by omega)
   have h0 : ∀ c ∈ 45 :: ds.map (48 + ·),(c != 0) = true:=fun c hc=>by
     rcases List.mem_cons.mp hc with rfl | hc
     . rfl
     obtain ⟨d,h1,rfl⟩:=List.mem_map.mp hc
     simp
   obtain ⟨hp,g,d,tk,os⟩:=s
   have f1:=F.conv_sub_int
   have f2:=F.madeHere_int
   have f3:=zfW
   have f4:=zev
   have f5:=zeo
   iterate 48 (any_goals (first | assumption | wp_step))
   show wpAny _ _ (pure (some (if (x.cps.all fun x=>decide (x < 128)) = true then x.cps.toList else Unicode.numberText x.cps.toList))) _ _ _
   rw [if_pos hasc,hx]
   refine wpAny_pure ?_
   dsimp only
   k_delta "intFromText"
   have hseen : (45 :: ds.map (48 + ·)).takeWhile (fun c=>c != 0) = 45 :: ds.map (48 + ·):=zdh h0
   dsimp only
   rw [hseen,if_pos (by rw [List.length_cons,List.length_map]; omega)]
   refine wpAny_bind (wpAny_pure ?_)
   show wpAny _ _ _ _ _ _
   k_delta "readNumeral"
   k_delta "isBlank"
   k_delta "prefixBase?"
   k_delta "numeralDigits?"
   k_delta "digitValue?"
   have hdw : List.dropWhile (fun c=>c == 32 || decide (9 <= c) && decide (c <= 13)) (45 :: ds.map (48 + ·)) = 45 :: ds.map (48 + ·):=rfl
   rw [hdw]
   have hbr:=zpq (p:=fun c=>c == 32 || decide (9 <= c) && decide (c <= 13)) zmb ds hd [] ne
   rw [List.nil_append] at hbr
   cases ds with
   | nil=>exact absurd rfl ne
   | cons d0 zbO =>
     have hd0:=hd d0 (List.mem_cons_self ..)
     have hsz : ¬ ((#[] ++ (d0 :: zbO).toArray).size > 6000):=by simp; simp at hl; omega
     have fin : wpAny (model prog w) A.in1 (mkInt (-((zhf (d0 :: zbO) : Nat) : Int))) (fun a s'=>wpAny (model prog w) A.in1 (ret a) (fun fin s'=>∃ v,fin = Fin.done (Flow.ret v) /\ R (Except.ok (Flow.ret v)) s') (fun e s'=>R (Except.error e) s') s') (fun e s'=>R (Except.error e) s') { heap:=hp,gens:=g,drawn:=d,toks:=tk,os:=os }:=by
       repeat (any_goals (first | assumption | wp_step))
       exact ⟨_,rfl,hs⟩
     have hval : Array.foldl (fun acc d=>acc * 10 + d) 0 (#[] ++ (d0 :: zbO).toArray) = zhf (d0 :: zbO):=by simp [zhf]
     have hbr2 : ((List.dropWhile (fun c=>c == 32 || decide (9 <= c) && decide (c <= 13)) ((48 + d0) :: zbO.map (48 + ·)).reverse).reverse) = (d0 :: zbO).map (48 + ·):=hbr
     clear h0 hx hasc hseen hdw hs f1 f2 f3 f4 f5 hbr
     rw [List.map_cons]
     by_cases hz : d0 = 0
     . have hr : zbO = []:=by
         have:=hlead (by rw [hz]; rfl)
         cases zbO with
         | nil=>rfl
         | cons _ _=>simp at this
       subst hr hz
       dsimp only [Nat.reduceAdd] at hbr2 ⊢
       simp only [beq_iff_eq,Nat.reduceEqDiff,Bool.or_self,Bool.false_eq_true,if_false,ite_false,List.map_nil] at hbr2 ⊢
       rw [hbr2,zlJ ?hf [0] #[] false hd]
       case hf =>
         intro a b d h
         rcases (show d = 0 \/ d = 1 \/ d = 2 \/ d = 3 \/ d = 4 \/ d = 5 \/ d = 6 \/ d = 7 \/ d = 8 \/ d = 9 by omega) with rfl | rfl | rfl | rfl | rfl | rfl | rfl | rfl | rfl | rfl <;> rfl
       simp only [Option.bind_eq_bind,Option.bind_some,List.isEmpty_cons,Bool.not_false,Bool.or_true,if_true,if_pos,bne_self_eq_false,Bool.and_false,Bool.false_and,Bool.false_eq_true,if_false,decide_eq_false hsz,Bool.and_false]
       rw [hval]
       exact fin
     . rcases (show d0 = 1 \/ d0 = 2 \/ d0 = 3 \/ d0 = 4 \/ d0 = 5 \/ d0 = 6 \/ d0 = 7 \/ d0 = 8 \/ d0 = 9 by omega) with rfl | rfl | rfl | rfl | rfl | rfl | rfl | rfl | rfl
       all_goals
         dsimp only [Nat.reduceAdd] at hbr2 ⊢
         simp only [beq_iff_eq,Nat.reduceEqDiff,Bool.or_self,Bool.false_eq_true,if_false,ite_false]
         rw [hbr2,zlJ ?hf _ #[] false hd]
         case hf =>
           intro a b d h
           rcases (show d = 0 \/ d = 1 \/ d = 2 \/ d = 3 \/ d = 4 \/ d = 5 \/ d = 6 \/ d = 7 \/ d = 8 \/ d = 9 by omega) with rfl | rfl | rfl | rfl | rfl | rfl | rfl | rfl | rfl | rfl <;> rfl
         simp only [Option.bind_eq_bind,Option.bind_some,List.isEmpty_cons,Bool.not_false,Bool.or_true,if_true,if_pos,bne_self_eq_false,Bool.and_false,Bool.false_and,Bool.false_eq_true,if_false,decide_eq_false hsz,Bool.and_false]
         rw [hval]
         exact fin
set_option maxHeartbeats 200000
def zmQ : List V -> Hp -> VK -> Prop:=fun xs H Q=>∃ z : Int,xs = [.str (zbX z)] /\ (zaT z.natAbs).length <= 639 /\ Q (.int z) H
theorem zjt {X : Cx} : zaq X (.type "int") zmQ:=by
 intro pins s σ H xs us Q I r h
 obtain ⟨z,rfl,hl,q⟩:=h
 by_cases hz : z < 0
 . obtain ⟨u,rfl,rx⟩:=zes r
   obtain ⟨t,rfl⟩:=rx
   have g:=ziO (zbX z) t (zaT z.natAbs) (zdR _) (zcb _) (zi3 _) (by unfold zbX; rw [if_pos hz,zbs]; simp [zaW]) hl
   rw [zfV] at g
   have e : -((z.natAbs : Nat) : Int) = z:=by omega
   rw [e] at g
   exact call_int_1 g (show (Made.int z).post _ s from ⟨rfl,⟨.int z,H,I.tok _,⟨_,rfl⟩,q⟩⟩)
 . refine zom pins s σ H _ us Q I r ⟨z.natAbs,?_,by omega,?_⟩
   . unfold zbX; rw [if_neg hz]
   . rw [show ((z.natAbs : Nat) : Int) = z by omega]; exact q
def zpP : V -> List V -> Hp -> VK -> Prop:=fun x vs H Q=>∃ (s y : Str),x = .str s /\ vs = [.str y] /\ (y.length == 0) = false /\ s.length <= sizeLine /\ ∀ l,H l = none -> Q (.ref l) (upd H l (.tup [.str (Txt.partition s y).1,.str (Txt.partition s y).2.1,.str (Txt.partition s y).2.2]))
theorem zq9 {X : Cx} : MtM X "str.partition" zpP:=by
 intro pins s σ H x vs v us Q I rx rv h
 obtain ⟨z,y,rfl,rfl,hy,h1,q⟩:=h
 obtain ⟨t,rfl⟩:=rx
 obtain ⟨u,rfl,ru⟩:=rv.one
 obtain ⟨t2,rfl⟩:=ru
 refine call_meets F.slot_str_partition (typeIs_str _ _ _) F.entry_str_partition (F.args_str_partition_2 _ _) (meets_str_partition z y t t2 hy h1) ?_
 unfold Txt.partition at q
 revert q
 cases occurrences z y 0 z.length 1 with
 | nil =>
   intro q
   refine ⟨.ref s.heap.objs.size,_,I.laid (t':=s.toks + 1) (fun b ob q=>Heap.get?_push_of_some _ q) (Nat.le_refl _) ?_,rfl,q _ (I.hok.fresh (Nat.le_refl _))⟩
   exact ⟨by show 3 <= sizeLine; decide,_,.cons ⟨_,rfl⟩ (.cons ⟨_,rfl⟩ (.cons ⟨_,rfl⟩ .nil)),IsTup.new _ _⟩
 | cons i r =>
   intro q
   refine ⟨.ref s.heap.objs.size,_,I.laid (t':=s.toks + 1 + 1) (fun b ob q=>Heap.get?_push_of_some _ q) (Nat.le_refl _) ?_,rfl,q _ (I.hok.fresh (Nat.le_refl _))⟩
   exact ⟨by show 3 <= sizeLine; decide,_,.cons ⟨_,rfl⟩ (.cons ⟨_,rfl⟩ (.cons ⟨_,rfl⟩ .nil)),IsTup.new _ _⟩
def zjS : V -> List V -> Hp -> VK -> Prop:=fun x vs H Q=>∃ (s y : Str),x = .str s /\ vs = [.str y] /\ Q (.bl (Txt.startswith s y)) H
theorem zot {X : Cx} : MtM X "str.startswith" zjS:=by
 intro pins s σ H x vs v us Q I rx rv h
 obtain ⟨z,y,rfl,rfl,q⟩:=h
 obtain ⟨t,rfl⟩:=rx
 obtain ⟨u,rfl,ru⟩:=rv.one
 obtain ⟨t2,rfl⟩:=ru
 exact SC.startswith ⟨.bl _,H,I,rfl,q⟩
def zrm (K : PySem.W.Frag) : V -> Option Int -> Option Int -> Hp -> VK -> Prop:=fun x lo hi H Q=>ztx K x lo hi H Q \/ ∃ s : Str,x = .str s /\ s.length <= sizeLine /\ Q (.str (sliceText s lo hi)) H
theorem zpv {X : Cx} : SlR X (zrm X.K):=by
 refine zlW.or ?_
 intro pins s σ H x v vl vu lo hi sl Q I rx hs pl pu h
 obtain ⟨z,rfl,hz,q⟩:=h
 obtain ⟨t,rfl⟩:=rx
 refine ⟨"str",_,F.slot_str_getitem.lookup,typeIs_str _ _ _,?_⟩
 have key : ∀ l u : Option (Int × Tok),vl = partValue l -> vu = partValue u -> lo = l.map (·.1) -> hi = u.map (·.1) -> wpAny (model X.prog X.w) X.A (getItem (.str z t) (.ref sl)) (EP X pins σ Q) X.xe s:=by
   intro l u e1 e2 e3 e4
   subst e1 e2 e3 e4
   refine wpAny_getItem_str_slice (l:=l) (u:=u) (st:=none) hs rfl ?_
   have hle : (sliceText z (l.map (·.1)) (u.map (·.1))).length <= z.length:=Txt.slice_le z _ _
   unfold sliceMade
   unfold sliceText at q hle
   unfold slicePicked
   split
   . rename_i hc
     have hc : ((1 : Int) == 1 && (strSliceIndices (l.map (·.1)) (u.map (·.1)) 1 z.length).length == z.length) = true:=hc
     rw [if_pos hc] at q
     exact ⟨.str z,H,I,⟨_,rfl⟩,q⟩
   . rename_i hc
     have hc : ¬ ((1 : Int) == 1 && (strSliceIndices (l.map (·.1)) (u.map (·.1)) 1 z.length).length == z.length) = true:=hc
     rw [if_neg hc] at q hle
     exact ⟨Nat.le_trans hle hz,.str _,H,I.tok _,⟨_,rfl⟩,q⟩
 cases pl with
 | none=>cases pu with
   | none=>exact key none none rfl rfl rfl rfl
   | int j tj=>exact key none (some (j,tj)) rfl rfl rfl rfl
 | int i ti=>cases pu with
   | none=>exact key (some (i,ti)) none rfl rfl rfl rfl
   | int j tj=>exact key (some (i,ti)) (some (j,tj)) rfl rfl rfl rfl
section
variable {K : PySem.W.Frag} {H H' : Hp} {Q : VK} {a : Addr} {x y : Str} {xs : List V} {z : Int} {lo hi : Option Int}
theorem zj8 (hl : (zaT z.natAbs).length <= 639) (q : Q (.int z) H) : zmQ [.str (zbX z)] H Q:=⟨z,rfl,hl,q⟩
theorem zkQ {p1 p2 p3 : Str} (hy : (y.length == 0) = false) (h1 : x.length <= sizeLine) (e : Txt.partition x y = (p1,p2,p3)) (q : ∀ l H',H l = none -> zag H H' -> H' l = some (.tup [.str p1,.str p2,.str p3]) -> Q (.ref l) H') : zpP (.str x) [.str y] H Q :=
 ⟨x,y,rfl,rfl,hy,h1,fun l hl=>by rw [e]; exact q l _ hl (zag.upd hl) zaB⟩
theorem zoi (q : Q (.bl (Txt.startswith x y)) H) : zjS (.str x) [.str y] H Q:=⟨x,y,rfl,rfl,q⟩
theorem ztb (h : x.length <= sizeLine) (q : Q (.str (sliceText x lo hi)) H) : zrm K (.str x) lo hi H Q:=.inr ⟨x,rfl,h,q⟩
end
def zsl (i j : Int) : Prop:=0 <= j /\ j <= 1000 /\ Bd 4000 i
theorem zqB {X : Cx} : OpR X (binaryOp .Pow) (rI zsl fun i j=>.int (i ^ j.toNat)):=opI fun i j _ _ _ _ _ hc q=>pow_int hc.1 (by
 have hb : Builtin.Int.intBits i <= 4000:=intBits_le hc.2.2.1
 have h1 : (Builtin.Int.intBits i : Int) * j <= 4000 * j:=Int.mul_le_mul_of_nonneg_right (by omega) hc.1
 have h2:=hc.2.1
 omega) q
theorem zrB {X : Cx} {e : Expr} {i j v : Int} {k2 : Nat} {p2 pos : Pos} (he : PE X e (tC (.int i))) (hc : zsl i j) (hv : i ^ j.toNat = v) : PE X (.BinOp e .Pow (.Constant (.int j) k2 p2) pos) (tC (.int v)):=by
 subst hv
 exact fun pins s σ H Q I h=>(zam zqB he zaf : PE X _ _) pins s σ H Q I ⟨i,j,rfl,rfl,hc,h⟩
end L2
namespace G
open PySem PySem.Spec PyProof.Rows L2 GM
local macro_rules | `(tactic| walk_at "sc")=>`(tactic| exact ⟨rfl,rfl,rfl,by decide +kernel,rfl,by decide +kernel,by decide +kernel⟩)
def top (i : Nat) : Stmt:=PySem.Challenge.pw_glowflock_k55_swarms_written_and_read.main.body.getD i (.Pass ⟨0,0,0,0⟩)
abbrev zfk : Stmt:=top 8
abbrev zfz : List Str:=["thing"]
abbrev zdA:=zfz
theorem zk3 : zal zfz zdA (zae zfk):=by walk_at "sc"
abbrev zbJ : Stmt:=top 9
abbrev zcN : List Str:=["one","other","rest"]
abbrev zbb : List Str:=["one","other"]
theorem za7 : zal zcN zbb (zae zbJ):=by walk_at "sc"
abbrev zee : Stmt:=top 10
abbrev zd9 : List Str:=["thing"]
abbrev zda:=zd9
theorem zkf : zal zd9 zda (zae zee):=by walk_at "sc"
abbrev zmD : Stmt:=top 11
abbrev zpx : List Str:=["one","other","shared","top","divisor"]
abbrev zjI : List Str:=["one","other"]
theorem zhp : zal zpx zjI (zae zmD):=by walk_at "sc"
abbrev zjA : Stmt:=top 12
abbrev zkl : List Str:=["one","other"]
abbrev zhi:=zkl
theorem zpX : zal zkl zhi (zae zjA):=by walk_at "sc"
abbrev zkk : Stmt:=top 13
abbrev zm5 : List Str:=["one","other","first","second"]
abbrev zhl : List Str:=["one","other"]
theorem ziv : zal zm5 zhl (zae zkk):=by walk_at "sc"
abbrev zmE : Stmt:=top 14
abbrev zlX : List Str:=["one","other"]
abbrev zjQ:=zlX
theorem zqr : zal zlX zjQ (zae zmE):=by walk_at "sc"
abbrev zeh : Stmt:=top 19
abbrev zex : List Str:=["a"]
abbrev zc6:=zex
theorem zjR : zal zex zc6 (zae zeh):=by walk_at "sc"
abbrev ze9 : Stmt:=top 20
abbrev zfh : List Str:=["b"]
abbrev zdP:=zfh
theorem zlL : zal zfh zdP (zae ze9):=by walk_at "sc"
abbrev zer : Stmt:=top 21
abbrev zei : List Str:=["a","b"]
abbrev zcV:=zei
theorem zkp : zal zei zcV (zae zer):=by walk_at "sc"
abbrev zgK : Stmt:=top 22
abbrev zgM : List Str:=["thing"]
abbrev zeH:=zgM
theorem zl7 : zal zgM zeH (zae zgK):=by walk_at "sc"
abbrev zhS : Stmt:=top 23
abbrev zkW : List Str:=["rule","many","factor","shift","done"]
abbrev zgm : List Str:=["rule","many"]
theorem zcH : zal zkW zgm (zae zhS):=by walk_at "sc"
abbrev zet : Stmt:=top 24
abbrev zep : List Str:=["push","x"]
abbrev zc7:=zep
theorem zj0 : zal zep zc7 (zae zet):=by walk_at "sc"
abbrev zft : Stmt:=top 28
abbrev zfr : List Str:=["thing"]
abbrev zdN:=zfr
theorem zlB : zal zfr zdN (zae zft):=by walk_at "sc"
abbrev zct : Stmt:=top 29
abbrev zcq : List Str:=["thing"]
abbrev zcw:=zcq
theorem ziE : zal zcq zcw (zae zct):=by walk_at "sc"
abbrev zfi : Stmt:=top 30
abbrev zfd : List Str:=["rule","phases"]
abbrev zdz:=zfd
theorem zkC : zal zfd zdz (zae zfi):=by walk_at "sc"
abbrev zfm : Stmt:=top 31
abbrev zhZ : List Str:=["phases","told","phase"]
abbrev zdM : List Str:=["phases"]
theorem zc1 : zal zhZ zdM (zae zfm):=by walk_at "sc"
abbrev zcy : Stmt:=top 32
abbrev zcA : List Str:=["worms","phases"]
abbrev zcs:=zcA
theorem ziL : zal zcA zcs (zae zcy):=by walk_at "sc"
abbrev zgF : Stmt:=top 33
abbrev zhP : List Str:=["swarm","wait","phases","left","waves","wave","push","worm","anew"]
abbrev zkx : List Str:=["swarm"]
theorem zb1 : zal zhP zkx (zae zgF):=by walk_at "sc"
abbrev zgo : Stmt:=top 35
abbrev zjg : List Str:=["swarm","many","rows","hour","stand","done","told"]
abbrev zeL : List Str:=["swarm","many"]
theorem zbq : zal zjg zeL (zae zgo):=by walk_at "sc"
abbrev zia : Stmt:=top 36
abbrev zlp : List Str:=["swarm","many","rows","last"]
abbrev zf4 : List Str:=["swarm","many"]
theorem zgD : zal zlp zf4 (zae zia):=by walk_at "sc"
abbrev zdi : Stmt:=top 40
abbrev ze7 : List Str:=["number","top","bottom"]
abbrev zcd : List Str:=["number"]
theorem zcO : zal ze7 zcd (zae zdi):=by walk_at "sc"
abbrev zbR : Stmt:=top 41
abbrev zbS : List Str:=["numbers"]
abbrev zb5:=zbS
theorem zhe : zal zbS zb5 (zae zbR):=by walk_at "sc"
abbrev zdH : Stmt:=top 42
abbrev zfO : List Str:=["swarm","rule","worms"]
abbrev zcz : List Str:=["swarm"]
theorem zdk : zal zfO zcz (zae zdH):=by walk_at "sc"
abbrev zbG : Stmt:=top 43
abbrev zbF : List Str:=["text","most"]
abbrev zbE:=zbF
theorem zgx : zal zbF zbE (zae zbG):=by walk_at "sc"
abbrev zeA : Stmt:=top 44
abbrev zg9 : List Str:=["text","parts"]
abbrev zcZ : List Str:=["text"]
theorem zga : zal zg9 zcZ (zae zeA):=by walk_at "sc"
abbrev zbx : Stmt:=top 45
abbrev zb9 : List Str:=["text","most","parts","top","told"]
abbrev zbt : List Str:=["text","most"]
theorem zbn : zal zb9 zbt (zae zbx):=by walk_at "sc"
abbrev zbU : Stmt:=top 46
abbrev zbY : List Str:=["words","most"]
abbrev zcr:=zbY
theorem ziF : zal zbY zcr (zae zbU):=by walk_at "sc"
abbrev zfx : Stmt:=top 47
abbrev zfs : List Str:=["text","between"]
abbrev zdJ:=zfs
theorem zld : zal zfs zdJ (zae zfx):=by walk_at "sc"
abbrev zd0 : Stmt:=top 48
abbrev zdO : List Str:=["text"]
abbrev zdD:=zdO
theorem zls : zal zdO zdD (zae zd0):=by walk_at "sc"
abbrev zdC : Stmt:=top 49
abbrev zfF : List Str:=["text","lines","rule"]
abbrev zcp : List Str:=["text"]
theorem zdf : zal zfF zcp (zae zdC):=by walk_at "sc"
abbrev zgp : Stmt:=top 51
abbrev ziP : List Str:=["_law_script","_law_k","_law_cell"]
abbrev zeT : List Str:=["_law_script","_law_k"]
theorem zfa : zal ziP zeT (zae zgp):=by walk_at "sc"
abbrev zfn : Stmt:=top 52
abbrev zhG : List Str:=["_law_pen_here","_law_many","_law_digit","_law_mixed"]
abbrev zdF : List Str:=["_law_pen_here","_law_many"]
theorem zea : zal zhG zdF (zae zfn):=by walk_at "sc"
abbrev zgH : Stmt:=top 53
abbrev zja : List Str:=["_law_top","_law_bottom","_law_one","_law_other"]
abbrev zeO : List Str:=["_law_top","_law_bottom"]
theorem zfv : zal zja zeO (zae zgH):=by walk_at "sc"
abbrev zfg : Stmt:=top 54
abbrev zij : List Str:=["_law_pen_here","_law_bottom","_law_top","_law_under","_law_more"]
abbrev zdB : List Str:=["_law_pen_here"]
theorem zbL : zal zij zdB (zae zfg):=by walk_at "sc"
abbrev zdE : Stmt:=top 55
abbrev zgb : List Str:=["_law_pen_here","_law_many","_law_same","_law_way","_law_found","_law_k","_law_bottom"]
abbrev zco : List Str:=["_law_pen_here","_law_many"]
theorem zbi : zal zgb zco (zae zdE):=by walk_at "sc"
abbrev zek : Stmt:=top 56
abbrev zeu : List Str:=["_law_one"]
abbrev zc4:=zeu
theorem zjB : zal zeu zc4 (zae zek):=by walk_at "sc"
abbrev zcT : Stmt:=top 57
abbrev zcS : List Str:=["_law_some"]
abbrev zc3:=zcS
theorem zkr : zal zcS zc3 (zae zcT):=by walk_at "sc"
abbrev zb6 : Stmt:=top 58
abbrev zdt : List Str:=["_law_pen_here","_law_size","_law_top","_law_k","_law_bottom"]
abbrev zbu : List Str:=["_law_pen_here"]
theorem zaD : zal zdt zbu (zae zb6):=by walk_at "sc"
abbrev zfj : Stmt:=top 59
abbrev zfp : List Str:=["_law_swarm"]
abbrev zdI:=zfp
theorem zkU : zal zfp zdI (zae zfj):=by walk_at "sc"
abbrev zdj : Stmt:=top 60
abbrev ze3 : List Str:=["_law_text_here","_law_caught","e"]
abbrev zcc : List Str:=["_law_text_here"]
theorem zbZ : zal ze3 zcc (zae zdj):=by walk_at "sc"
abbrev zk8 : Stmt:=top 61
abbrev zqd : List Str:=["_law_script","_law_k","_law_pen_here","_law_turn","_law_one","_law_rule_here","_law_first","_law_later","_law_swarm","_law_text_here"]
abbrev zmO : List Str:=["_law_script"]
theorem zdm : zal zqd zmO (zae zk8):=by walk_at "sc"
set_option genInjectivity false in
structure Ad where
 is_whole : Addr
 fd_is_whole : FuncData
 greatest_divisor : Addr
 fd_greatest_divisor : FuncData
 is_number : Addr
 fd_is_number : FuncData
 plus : Addr
 fd_plus : FuncData
 minus : Addr
 fd_minus : FuncData
 times : Addr
 fd_times : FuncData
 less : Addr
 fd_less : FuncData
 is_factor : Addr
 fd_is_factor : FuncData
 is_shift : Addr
 fd_is_shift : FuncData
 make_rule : Addr
 fd_make_rule : FuncData
 is_rule : Addr
 fd_is_rule : FuncData
 pushes : Addr
 fd_pushes : FuncData
 pushed_by : Addr
 fd_pushed_by : FuncData
 is_phase : Addr
 fd_is_phase : FuncData
 are_phases : Addr
 fd_are_phases : FuncData
 swarm_of : Addr
 fd_swarm_of : FuncData
 greatest : Addr
 fd_greatest : FuncData
 at_the_end : Addr
 fd_at_the_end : FuncData
 glow : Addr
 fd_glow : FuncData
 history : Addr
 fd_history : FuncData
 behind : Addr
 fd_behind : FuncData
 show_number : Addr
 fd_show_number : FuncData
 show_numbers : Addr
 fd_show_numbers : FuncData
 show_swarm : Addr
 fd_show_swarm : FuncData
 is_whole_text : Addr
 fd_is_whole_text : FuncData
 number_in : Addr
 fd_number_in : FuncData
 is_number_text : Addr
 fd_is_number_text : FuncData
 numbers_in : Addr
 fd_numbers_in : FuncData
 parts_of : Addr
 fd_parts_of : FuncData
 lines_of : Addr
 fd_lines_of : FuncData
 read_swarm : Addr
 fd_read_swarm : FuncData
 law_pen : Addr
 fd_law_pen : FuncData
 law_draw : Addr
 fd_law_draw : FuncData
 law_low : Addr
 fd_law_low : FuncData
 law_rule : Addr
 fd_law_rule : FuncData
 law_phases : Addr
 fd_law_phases : FuncData
 law_shown : Addr
 fd_law_shown : FuncData
 law_words : Addr
 fd_law_words : FuncData
 law_any_number : Addr
 fd_law_any_number : FuncData
 law_text : Addr
 fd_law_text : FuncData
 law_refusal : Addr
 fd_law_refusal : FuncData
 law : Addr
 fd_law : FuncData
 C_NoSwarm : Addr
 C_NoRule : Addr
 C_NoText : Addr
 C_GlowError : Addr
 k_NOUGHT : Addr
 k_ONE : Addr
 k_GREATEST_FACTOR : Addr
structure Dn (K : PySem.W.Frag) (mg : Str -> Option Value) (n : Str) (st : Stmt) (ps : List Str) (f : Addr) (fd : FuncData) : Prop where
 F : Fun K n n st f fd
 g : mg n = some (.ref f)
 b : zib K fd ps []
section
variable {X : Cx} {x : Str} {f : Addr} {fd : FuncData} {ps : List Str} {sp : Sp} {j k : Nat} {e : Expr} {es : List Expr} {t : TA} {pos pp : Pos} {st : Stmt} {CX : CXT}
theorem pcx {E : XK} (F : zaM X.prog X.w X.K X.mg X.base CX k f fd ps sp) (hr : zdb j X.A) (D : Dn X.K X.mg x st ps f fd) (hx : zgL CX X E) (ha : PA X (e :: es) t) (hj : k <= j:=by decide) (hg : Gl X x:=by exact rfl)
   (hdb : (x == ("__debug__" : Str)) = false:=by decide) (he : starEach (e :: es) X.env = (false,eval e X.env) :: starEach es X.env:=by rfl) (hpl : (backTo pos (starEach es X.env)).any (·.1) = false:=by rfl) :
   PE X (.Call (.Name x pp) (e :: es) [] pos) (zlt sp [] E t):=znj F (hr.mono hj) hg D.g D.F.kp D.b .nil hx ha hdb he hpl
theorem pcl (F : zaM X.prog X.w X.K X.mg X.base CX0 k f fd ps sp) (hr : zdb j X.A) (D : Dn X.K X.mg x st ps f fd) (ha : PA X (e :: es) t) (hj : k <= j:=by decide) (hg : Gl X x:=by exact rfl)
   (hdb : (x == ("__debug__" : Str)) = false:=by decide) (he : starEach (e :: es) X.env = (false,eval e X.env) :: starEach es X.env:=by rfl) (hpl : (backTo pos (starEach es X.env)).any (·.1) = false:=by rfl) :
   PE X (.Call (.Name x pp) (e :: es) [] pos) (zlt sp [] E0 t):=znj F (hr.mono hj) hg D.g D.F.kp D.b .nil zuB ha hdb he hpl
theorem pix {ta : TE} {i : Int} {kd} (ha : PE X e ta) : PE X (.Subscript e (.Constant (.int i) kd pp) pos) (tOp (rIx X.K) ta (tC (.int i))):=zd8 zcl ha zaf (fun _ _=>rfl)
theorem zuN {K : PySem.W.Frag} {ta : TE} {i : Int} {kd} (hr : IxR X (rIx K)) (ha : PE X e ta) : PE X (.Subscript e (.Constant (.int i) kd pp) pos) (tOp (rIx K) ta (tC (.int i))):=zd8 hr ha zaf (fun _ _=>rfl)
theorem pst (i : Nat) {te : TE} (hN : X.N.Nodup) (he : PE X e te) (hi : X.N[i]? = some x:=by exact rfl) (hx : Loc X.env.scope x:=by first | exact Or.inl rfl | exact Or.inr rfl) (hs : swapsWith e (some (.Name x pp)) pos.line X.env = pure false:=by rfl) (hf : X.fn x = true \/ X.env.scope.names.lookup x = some .local:=by first | exact .inl rfl | exact .inr rfl | assumption) :
   PS X (.Assign [.Name x pp] e pos) (zow te (zif i)):=zss hN hi hx he hs hf
end
structure Txt (K : PySem.W.Frag) (mg : Str -> Option Value) (a : Ad) : Prop where
 d_is_whole : Dn K mg "is_whole" zfk zdA a.is_whole a.fd_is_whole
 d_greatest_divisor : Dn K mg "greatest_divisor" zbJ zbb a.greatest_divisor a.fd_greatest_divisor
 d_is_number : Dn K mg "is_number" zee zda a.is_number a.fd_is_number
 d_plus : Dn K mg "plus" zmD zjI a.plus a.fd_plus
 d_minus : Dn K mg "minus" zjA zhi a.minus a.fd_minus
 d_times : Dn K mg "times" zkk zhl a.times a.fd_times
 d_less : Dn K mg "less" zmE zjQ a.less a.fd_less
 d_is_factor : Dn K mg "is_factor" zeh zc6 a.is_factor a.fd_is_factor
 d_is_shift : Dn K mg "is_shift" ze9 zdP a.is_shift a.fd_is_shift
 d_make_rule : Dn K mg "make_rule" zer zcV a.make_rule a.fd_make_rule
 d_is_rule : Dn K mg "is_rule" zgK zeH a.is_rule a.fd_is_rule
 d_pushes : Dn K mg "pushes" zhS zgm a.pushes a.fd_pushes
 d_pushed_by : Dn K mg "pushed_by" zet zc7 a.pushed_by a.fd_pushed_by
 d_is_phase : Dn K mg "is_phase" zft zdN a.is_phase a.fd_is_phase
 d_are_phases : Dn K mg "are_phases" zct zcw a.are_phases a.fd_are_phases
 d_swarm_of : Dn K mg "swarm_of" zfi zdz a.swarm_of a.fd_swarm_of
 d_greatest : Dn K mg "greatest" zfm zdM a.greatest a.fd_greatest
 d_at_the_end : Dn K mg "at_the_end" zcy zcs a.at_the_end a.fd_at_the_end
 d_glow : Dn K mg "glow" zgF zkx a.glow a.fd_glow
 d_history : Dn K mg "history" zgo zeL a.history a.fd_history
 d_behind : Dn K mg "behind" zia zf4 a.behind a.fd_behind
 d_show_number : Dn K mg "show_number" zdi zcd a.show_number a.fd_show_number
 d_show_numbers : Dn K mg "show_numbers" zbR zb5 a.show_numbers a.fd_show_numbers
 d_show_swarm : Dn K mg "show_swarm" zdH zcz a.show_swarm a.fd_show_swarm
 d_is_whole_text : Dn K mg "is_whole_text" zbG zbE a.is_whole_text a.fd_is_whole_text
 d_number_in : Dn K mg "number_in" zeA zcZ a.number_in a.fd_number_in
 d_is_number_text : Dn K mg "is_number_text" zbx zbt a.is_number_text a.fd_is_number_text
 d_numbers_in : Dn K mg "numbers_in" zbU zcr a.numbers_in a.fd_numbers_in
 d_parts_of : Dn K mg "parts_of" zfx zdJ a.parts_of a.fd_parts_of
 d_lines_of : Dn K mg "lines_of" zd0 zdD a.lines_of a.fd_lines_of
 d_read_swarm : Dn K mg "read_swarm" zdC zcp a.read_swarm a.fd_read_swarm
 d_law_pen : Dn K mg "_law_pen" zgp zeT a.law_pen a.fd_law_pen
 d_law_draw : Dn K mg "_law_draw" zfn zdF a.law_draw a.fd_law_draw
 d_law_low : Dn K mg "_law_low" zgH zeO a.law_low a.fd_law_low
 d_law_rule : Dn K mg "_law_rule" zfg zdB a.law_rule a.fd_law_rule
 d_law_phases : Dn K mg "_law_phases" zdE zco a.law_phases a.fd_law_phases
 d_law_shown : Dn K mg "_law_shown" zek zc4 a.law_shown a.fd_law_shown
 d_law_words : Dn K mg "_law_words" zcT zc3 a.law_words a.fd_law_words
 d_law_any_number : Dn K mg "_law_any_number" zb6 zbu a.law_any_number a.fd_law_any_number
 d_law_text : Dn K mg "_law_text" zfj zdI a.law_text a.fd_law_text
 d_law_refusal : Dn K mg "_law_refusal" zdj zcc a.law_refusal a.fd_law_refusal
 d_law : Dn K mg "law" zk8 zmO a.law a.fd_law
 z_abs : mg "abs" = none
 z_all : mg "all" = none
 z_bool : mg "bool" = none
 z_enumerate : mg "enumerate" = none
 z_int : mg "int" = none
 z_isinstance : mg "isinstance" = none
 z_len : mg "len" = none
 z_list : mg "list" = none
 z_max : mg "max" = none
 z_range : mg "range" = none
 z_str : mg "str" = none
 z_tuple : mg "tuple" = none
 g_NoSwarm : mg "NoSwarm" = some (.ref a.C_NoSwarm)
 g_NoRule : mg "NoRule" = some (.ref a.C_NoRule)
 g_NoText : mg "NoText" = some (.ref a.C_NoText)
 g_GlowError : mg "GlowError" = some (.ref a.C_GlowError)
 x_NoSwarm : PySem.W.excIn K a.C_NoSwarm zic "ValueError.__new__" = true
 m_NoSwarm : PySem.W.exmOne K (.ref a.C_NoSwarm) (.ref a.C_GlowError) = some true
 e_NoSwarm : ExcCls K a.C_NoSwarm
 k_NoSwarm_NoSwarm : PySem.W.kitOne K (.ref a.C_NoSwarm) (.ref a.C_NoSwarm) = some true
 k_NoSwarm_NoRule : PySem.W.kitOne K (.ref a.C_NoSwarm) (.ref a.C_NoRule) = some false
 k_NoSwarm_NoText : PySem.W.kitOne K (.ref a.C_NoSwarm) (.ref a.C_NoText) = some false
 v_NoSwarm : PySem.W.kitOne K (.ref a.C_NoSwarm) (.type "ValueError") = some true
 x_NoRule : PySem.W.excIn K a.C_NoRule zic "ValueError.__new__" = true
 m_NoRule : PySem.W.exmOne K (.ref a.C_NoRule) (.ref a.C_GlowError) = some true
 e_NoRule : ExcCls K a.C_NoRule
 k_NoRule_NoSwarm : PySem.W.kitOne K (.ref a.C_NoRule) (.ref a.C_NoSwarm) = some false
 k_NoRule_NoRule : PySem.W.kitOne K (.ref a.C_NoRule) (.ref a.C_NoRule) = some true
 k_NoRule_NoText : PySem.W.kitOne K (.ref a.C_NoRule) (.ref a.C_NoText) = some false
 v_NoRule : PySem.W.kitOne K (.ref a.C_NoRule) (.type "ValueError") = some true
 x_NoText : PySem.W.excIn K a.C_NoText zic "ValueError.__new__" = true
 m_NoText : PySem.W.exmOne K (.ref a.C_NoText) (.ref a.C_GlowError) = some true
 e_NoText : ExcCls K a.C_NoText
 k_NoText_NoSwarm : PySem.W.kitOne K (.ref a.C_NoText) (.ref a.C_NoSwarm) = some false
 k_NoText_NoRule : PySem.W.kitOne K (.ref a.C_NoText) (.ref a.C_NoRule) = some false
 k_NoText_NoText : PySem.W.kitOne K (.ref a.C_NoText) (.ref a.C_NoText) = some true
 v_NoText : PySem.W.kitOne K (.ref a.C_NoText) (.type "ValueError") = some true
 c_NOUGHT : mg "NOUGHT" = some (.ref a.k_NOUGHT)
 t_NOUGHT : ∀ H : Hp,SqT K H a.k_NOUGHT [.int 0,.int 1]
 c_ONE : mg "ONE" = some (.ref a.k_ONE)
 t_ONE : ∀ H : Hp,SqT K H a.k_ONE [.int 1,.int 1]
 c_GREATEST_FACTOR : mg "GREATEST_FACTOR" = some (.ref a.k_GREATEST_FACTOR)
 t_GREATEST_FACTOR : ∀ H : Hp,SqT K H a.k_GREATEST_FACTOR [.int 4,.int 1]
 c_FACTOR_BOTTOM : ∃ t,mg "FACTOR_BOTTOM" = some (.int 8 t)
 c_SHIFT_BOTTOM : ∃ t,mg "SHIFT_BOTTOM" = some (.int 12 t)
 c_MOST_WORMS : ∃ t,mg "MOST_WORMS" = some (.int 8 t)
 c_PHASE_BOTTOM : ∃ t,mg "PHASE_BOTTOM" = some (.int 60 t)
 c_FIGURES : ∃ t,mg "FIGURES" = some (.str "0123456789" t)
 c_NUMBER_FIGURES : ∃ t,mg "NUMBER_FIGURES" = some (.int 60 t)
end G
open L2 GM in
local macro_rules | `(tactic| walk_at "is")=>`(tactic| first
 | assumption
 | exact zaR.mpr rfl
 | exact zce.mpr rfl
 | exact zeP.mpr rfl
 | exact zcQ.mpr rfl
 | exact Is.thru (by assumption) (by walk_at "same")
 | exact Is.thruN (by assumption) (by walk_at "keep")
 | exact Is.thruR (by assumption) (by walk_at "keep")
 | ((with_reducible apply is_tupAt); (focus assumption); (focus walk_at "isall"); walk_at "same")
 | ((with_reducible apply is_lstAt); (focus assumption); (focus walk_at "isall"); walk_at "same")
 | ((with_reducible apply is_dctAt); (focus assumption); walk_at "same")
 | exact zgy 0 (G.Txt.t_NOUGHT (by assumption) _) rfl rfl | exact zgy 1 (G.Txt.t_ONE (by assumption) _) rfl rfl | exact zgy 4 (G.Txt.t_GREATEST_FACTOR (by assumption) _) rfl rfl
 | fail "is")
open L2 GM in
local macro_rules | `(tactic| walk_at "isall")=>`(tactic| first
 | exact IsAll.nil
 | exact IsAll.cons (by walk_at "is") (by walk_at "isall")
 | fail "isall")
open L2 GM in
local macro_rules | `(tactic| walk_at "ne")=>`(tactic| first
 | assumption
 | (apply Ne.symm; assumption))
/- a list that stands at an address -/
open L2 GM in
local macro_rules | `(tactic| walk_at "lst")=>`(tactic| first
 | assumption
 | exact zag.at (by assumption) (by walk_at "lst")
 | exact Exc.at (by assumption) (by walk_at "ne") (by walk_at "lst")
 | fail "lst")
open L2 GM in
local macro_rules | `(tactic| walk_at "same")=>`(tactic| first
 | assumption
 | exact zag.refl _
 | exact zag.back (by assumption) (by walk_at "same")
 | fail "same")
open L2 GM in
local macro_rules | `(tactic| walk_at "keep")=>`(tactic| first
 | assumption
 | exact zaO.refl _
 | exact zag.keep (by assumption)
 | exact zaO.back (by assumption) (by walk_at "keep")
 | exact zaO.back (zag.keep (by assumption)) (by walk_at "keep")
 | fail "keep")
open L2 GM in
local macro_rules | `(tactic| walk_at "exc")=>`(tactic| first
 | assumption
 | exact Exc.refl _ _
 | exact Exc.back (by assumption) (by walk_at "exc")
 | exact Exc.back (zag.exc (by assumption)) (by walk_at "exc")
 | fail "exc")
open L2 GM in
local macro_rules | `(tactic| walk_at "sqf")=>`(tactic| first
 | assumption
 | exact zaO.sqF (by walk_at "keep") (by assumption)
 | fail "sqf")
/- how great -/
open L2 GM in
local macro_rules | `(tactic| walk_at "bd")=>`(tactic| first
 | assumption
 | exact Bd.mk (n:=128) (by decide)
 | exact Bd.mono (m:=128) ⟨by decide⟩ (by decide)
 | exact Bdr.t (by assumption)
 | exact Bdr.b (by assumption)
 | exact Bd.of128 (by omega) (by omega)
 | (apply Bd.neg; walk_at "bd")
 | (apply Bd.mul; (focus walk_at "bd"); walk_at "bd")
 | (apply Bd.add; (focus walk_at "bd"); walk_at "bd")
 | (apply Bd.sub; (focus walk_at "bd"); walk_at "bd"))
open L2 GM PySem in
local macro_rules | `(tactic| walk_at "mulok")=>`(tactic| first
 | exact IntMulOk.of_right (by decide)
 | exact IntMulOk.of_left (by decide)
 | exact IntMulOk.of_right (intBits_le_64 (by omega) (by omega))
 | exact IntMulOk.of_left (intBits_le_64 (by omega) (by omega))
 | (apply L2.MulBd; (focus walk_at "bd"); (focus walk_at "bd"); (focus decide); decide))
open L2 GM PySem in
local macro_rules | `(tactic| walk_at "side")=>`(tactic| first
 | assumption
 | decide
 | omega
 | walk_at "mulok"
 | (refine And.intro ?_ ?_ <;> walk_at "side")
 | walk_at "bd")
open L2 GM in
local macro_rules | `(tactic| walk_at "gs")=>`(tactic| first
 | walk_at "sq"
 | with_reducible (first | refine zth ?_ | refine zsG ?_ | refine zs4 ?_ | refine ztM ?_)
 | ((with_reducible apply ztI); (focus rfl))
 | with_reducible (first | refine zuH ?_ | refine zrE ?_ | refine ztj ?_ | refine zqK ?_ | refine ztT ?_ | refine zqF ?_ | refine zt2 ?_ | refine zsw ?_ | refine ztk ?_ | refine zsJ ?_ | refine zqM ?_)
 | ((with_reducible apply zqi); (focus walk_at "side"))
 | with_reducible (first | refine zul ?_ | refine zuw ?_ | refine ztA ?_ | refine ztK ?_ | refine zsT ?_ | refine zoX ?_ | refine zoK ?_)
 | with_reducible refine zrk (fun _=>?_) (fun _=>?_)
 | with_reducible refine zph (fun _=>?_) (fun _=>?_)
 | with_reducible refine zoA (fun _=>?_) (fun _=>?_)
 | with_reducible refine zqO (fun _=>?_) (fun _=>?_)
 | with_reducible (first | refine zsX ?_ | refine ztS ?_ | refine ztt ?_ | refine zra ?_ | refine zsu ?_ | refine zri ?_ | refine ztF ?_ | refine zqN ?_ | refine zry ?_ | refine zrl ?_ | refine zqT ?_ | refine zsq ?_ | refine zrv ?_ | refine zps ?_ | refine zqe ?_ | refine zrj ?_ | refine zqL ?_)
 | ((with_reducible apply zqW); (focus walk_at "is"))
 | ((with_reducible apply zqC); (focus walk_at "is"))
 | ((with_reducible apply zed); (focus (apply SqL.of; walk_at "lst")); (focus rfl))
 | ((with_reducible apply zj5); (focus assumption); (focus rfl); intro hN eN lN; dsimp only [Int.reduceToNat,List.set_cons_succ,List.set_cons_zero] at lN)
 | ((with_reducible apply zk0); (focus walk_at "is"))
 | ((with_reducible apply zp6); (focus walk_at "is"))
 | ((with_reducible apply zoD); (focus walk_at "is"))
 | dsimp only [List.set_cons_succ,List.set_cons_zero])
/- one statement behind another: what follows stands behind a name -/
set_option hygiene false in
open L2 GM in
local macro_rules | `(tactic| walk_at "sq")=>`(tactic| with_reducible refine zqy (fun tl_ htl_=>?_))
set_option hygiene false in
open L2 GM in
local macro_rules | `(tactic| walk_at "tl")=>`(tactic| ((with_reducible refine zjy.go (by assumption) ?_); (try clear htl_ tl_)))
/- how great a number is -/
open L2 GM in
local macro_rules | `(tactic| walk_at "bdr0")=>`(tactic| first
 | assumption
 | exact Bdr.zero
 | exact Bdr.one
 | exact Bdr.four
 | (apply Bdr.add; (focus walk_at "bdr0"); walk_at "bdr0")
 | (apply Bdr.sub; (focus walk_at "bdr0"); walk_at "bdr0")
 | (apply Bdr.mul; (focus walk_at "bdr0"); walk_at "bdr0"))
open L2 GM in
local macro_rules | `(tactic| walk_at "bdr")=>`(tactic| first
 | assumption
 | (apply Bdr.mono; (focus walk_at "bdr0"); (first | decide | omega)))
/- .. with new tuples,lists,dicts -/
open L2 GM in
local macro_rules | `(tactic| walk_at "ga1")=>`(tactic| first
 | walk_at "gs"
 | ((with_reducible apply zbV); (focus (simp only [List.length_cons,List.length_nil]; decide)); (focus walk_at "isall"); intro _ _ _ _)
 | ((with_reducible apply zcR); (focus (simp only [List.length_cons,List.length_nil]; decide)); intro _ _ _ _ _))
local macro_rules | `(tactic| walk_at "ga")=>`(tactic| repeat' (first | walk_at "ga1" | walk_at "tl"))
local macro_rules | `(tactic| walk_at "gg")=>`(tactic| repeat' (first | walk_at "gs" | walk_at "tl"))
local macro_rules | `(tactic| walk_at "gt")=>`(tactic| repeat' (walk_at "gs"))
open L2 GM in
local macro_rules | `(tactic| walk_at "bd128")=>`(tactic| first
 | exact Bd.mono (m:=128) ⟨by decide⟩ (by decide)
 | exact (Bd.of128 (by omega) (by omega)).mono (by decide))
open L2 GM in
local macro_rules | `(tactic| walk_at "gs")=>`(tactic| first
 | with_reducible (first | refine zug ?_ | refine zn7 ?_ | refine zuf ?_ | refine zp8 ?_ | refine zp9 ?_ | refine zoI ?_ | refine zpW ?_ | refine zpN ?_ | refine zpH ?_ | refine zut ?_ | refine zpG ?_ | refine zoe ?_ | refine zsW ?_ | refine zjK ?_ | refine zrz ?_ | refine zo3 ?_ | refine ztw ?_ | refine zpl ?_ | refine zn1 ?_ | refine zrd ?_ | refine zoG ?_)
 | ((with_reducible apply zoc); (focus walk_at "is"))
 | ((with_reducible apply zq7); (focus walk_at "is"))
 | ((with_reducible apply zqp); (focus walk_at "is"); intro _ _)
 | ((with_reducible apply zrp); (focus walk_at "is"); intro _ _)
 | ((with_reducible apply zed); (focus (apply SqL.of; walk_at "lst")); (focus rfl))
 | ((with_reducible apply zqS); (focus walk_at "lst"); (focus omega); (focus omega); intro _ _)
 | ((with_reducible apply zq2); (focus walk_at "lst"); (focus omega); (focus omega); intro _ _)
 | ((with_reducible apply zrO); (focus walk_at "lst"); (focus omega); (focus omega); intro _ _))
set_option hygiene false in
local macro_rules | `(tactic| walk_at "b1")=>`(tactic| (focus (intro vs H Q E h; obtain ⟨_,rfl,_⟩:=h; rfl)); (intro cdv A outer s H vs Q E hr h; obtain ⟨x0,rfl,h⟩:=h; have hu:=hr.units))
set_option hygiene false in
local macro_rules | `(tactic| walk_at "b2")=>`(tactic| (focus (intro vs H Q E h; obtain ⟨_,_,rfl,_⟩:=h; rfl)); (intro cdv A outer s H vs Q E hr h; obtain ⟨x0,x1,rfl,h⟩:=h; have hu:=hr.units))
set_option hygiene false in
local macro_rules | `(tactic| walk_at "cl")=>`(tactic| ((clear hu); (try clear hgd); (first | dsimp only [zhI,cxOfH] | dsimp only [zhI] | skip)))
open L2 GM G in
local macro_rules | `(tactic| walk_at "ecls")=>`(tactic| first | exact Txt.e_NoSwarm (by assumption) | exact Txt.e_NoRule (by assumption) | exact Txt.e_NoText (by assumption))
open L2 GM G in
local macro_rules | `(tactic| walk_at "kit")=>`(tactic| first | exact Txt.k_NoSwarm_NoSwarm (by assumption) | exact Txt.k_NoSwarm_NoRule (by assumption) | exact Txt.k_NoSwarm_NoText (by assumption) | exact Txt.v_NoSwarm (by assumption) | exact Txt.k_NoRule_NoSwarm (by assumption) | exact Txt.k_NoRule_NoRule (by assumption) | exact Txt.k_NoRule_NoText (by assumption) | exact Txt.v_NoRule (by assumption) | exact Txt.k_NoText_NoSwarm (by assumption) | exact Txt.k_NoText_NoRule (by assumption) | exact Txt.k_NoText_NoText (by assumption) | exact Txt.v_NoText (by assumption))
namespace G
open PySem PySem.Spec PyProof.Rows L2 GM
section
variable {P : Program} {w : World} {K : PySem.W.Frag} {mg : Str -> Option Value} {base : Heap} {a : Ad}
def isInt : PyData -> Bool
 | .int _=>true
 | _=>false
def zg6 (K : PySem.W.Frag) : Sp:=fun vs H Q _=>∃ x0,vs = [x0] /\ ∃ d,Is K H x0 d /\ Q (.bl (isInt d)) H
theorem zlb {K : PySem.W.Frag} {H : Hp} {Q : VK} {E : XK} {v : V} {d : PyData} (h : Is K H v d) (q : Q (.bl (isInt d)) H) : zg6 K [v] H Q E:=⟨v,rfl,d,h,q⟩
local macro_rules | `(tactic| walk_at "gs")=>`(tactic| ((with_reducible apply zlb); (focus walk_at "is")))
set_option maxHeartbeats 4000000 in
theorem zg5 (T : Txt K mg a) : zaM P w K mg base CX0 1 a.is_whole a.fd_is_whole zdA (zg6 K):=by
 refine T.d_is_whole.F.ok zk3 ?_ ?_
 walk_at "b1"
 refine ⟨_,(zad (zak (zcj (zao (show zaq _ (.builtin "isinstance") (zdw K) from zcE) rfl T.z_isinstance zaL (zaa (pv 0) (zaa (zcX (v:=.ty "int") rfl T.z_int zmM rfl) zab))) (zdX (zh8 (zao (show zaq _ (.builtin "isinstance") (zdw K) from zcE) rfl T.z_isinstance zaL (zaa (pv 0) (zaa (zcX (v:=.ty "bool") rfl T.z_bool zq1 rfl) zab)))))))),?_⟩
 walk_at "cl"
 rw [show start zfz [x0] = [some x0] from rfl]
 obtain ⟨d,hd,q⟩:=h
 walk_at "gg"
 all_goals (cases d <;> simp_all [isInt,zmf,zs2])
def zcm (K : PySem.W.Frag) : Sp:=fun vs H Q _=>∃ x0 x1,vs = [x0,x1] /\ ∃ a b : Int,x0 = .int a /\ x1 = .int b /\ 0 <= a /\ 0 <= b /\ Q (.int (Int.gcd a b : Nat)) H
theorem zaU {K : PySem.W.Frag} {H : Hp} {Q : VK} {E : XK} {a b : Int} (ha : 0 <= a) (hb : 0 <= b) (q : Q (.int (Int.gcd a b : Nat)) H) : zcm K [.int a,.int b] H Q E:=⟨_,_,rfl,a,b,rfl,rfl,ha,hb,q⟩
set_option maxHeartbeats 4000000 in
theorem zaS (T : Txt K mg a) : zaM P w K mg base CX0 1 a.greatest_divisor a.fd_greatest_divisor zbb (zcm K):=by
 refine T.d_greatest_divisor.F.ok za7 ?_ ?_
 walk_at "b2"
 refine ⟨_,(zac (zh6 PassesOwn.never (zaC (show OpR _ (compareOp .NotEq) (zeU K) from zcL hu) (pv 1) zaf (zax _)) (zac (pst 2 za7.nd (zam zck (pv 0) (pv 1)))
     (zac (pst 0 za7.nd (pv 1))
     (zad (pst 1 za7.nd (pv 2))))))
     (zad (zak (pv 0)))),?_⟩
 walk_at "cl"
 rw [show start zcN [x0,x1] = [some x0,some x1,none] from rfl]
 obtain ⟨a',b',rfl,rfl,ha,hb,q⟩:=h
 refine zsy ?_
 refine zlu (fun σ H'=>∃ (x y : Int) (r : Option V),σ = [some (.int x),some (.int y),r] /\ 0 <= x /\ 0 <= y /\ Int.gcd x y = Int.gcd a' b' /\ H' = H) (fun σ=>(ixI σ 1).toNat) ⟨a',b',none,rfl,ha,hb,rfl,rfl⟩ ?_
 rintro σ H' ⟨x,y,r,rfl,hx,hy,hg,rfl⟩
 walk_at "gg"
 . refine zns ?_
   walk_at "gg"
   have h1:=Int.emod_nonneg x (show y ≠ 0 by assumption)
   have h2:=Int.emod_lt_of_pos x (show 0 < y by omega)
   refine ⟨?_,_,_,_,rfl,hy,h1,?_,rfl⟩
   . show (x % y).toNat < y.toNat
     omega
   . rw [<- hg]; exact zlM (by omega) hx
 . rename_i h0
   subst h0
   have e : ((Int.gcd a' b' : Nat) : Int) = x:=by
     rw [<- hg,Int.gcd_zero_right]; omega
   rw [e] at q
   exact q
def zap : PyData -> Bool
 | .tuple [.int p,.int q]=>zdp p q
 | _=>false
theorem zf0 (r : Rat) : zap (N r) = true:=zi9 r
theorem zlR {d : PyData} (h : zd3 d = false) : zap d = false:=by
 cases d <;> first | rfl | (simp [zd3] at h)
theorem zmC {ds : List PyData} (h : ¬ ds.length = 2) : zap (.tuple ds) = false:=by
 match ds with
 | []=>rfl
 | [_]=>simp [zap]
 | [_,_]=>exact absurd rfl h
 | _ :: _ :: _ :: _=>simp [zap]
theorem zkj {d e : PyData} (h : isInt d = false) : zap (.tuple [d,e]) = false:=by
 cases d <;> first | rfl | (simp [isInt] at h)
theorem ziJ {d e : PyData} (h : isInt e = false) : zap (.tuple [d,e]) = false:=by
 cases d <;> cases e <;> first | rfl | (simp [isInt] at h)
theorem zjm {d : PyData} : isInt d = true ↔ ∃ i,d = .int i:=by cases d <;> simp [isInt]
def zf1 (K : PySem.W.Frag) : Sp:=fun vs H Q _=>∃ x0,vs = [x0] /\ ∃ d,Is K H x0 d /\ Q (.bl (zap d)) H
theorem zkc {K : PySem.W.Frag} {H : Hp} {Q : VK} {E : XK} {v : V} {d : PyData} (h : Is K H v d) (q : Q (.bl (zap d)) H) : zf1 K [v] H Q E:=⟨v,rfl,d,h,q⟩
local macro_rules | `(tactic| walk_at "gs")=>`(tactic| ((with_reducible apply zkc); (focus walk_at "is")))
set_option maxHeartbeats 4000000 in
theorem zcx (T : Txt K mg a) : zaM P w K mg base CX0 2 a.is_number a.fd_is_number zda (zf1 K):=by
 refine T.d_is_number.F.ok zkf ?_ ?_
 walk_at "b1"
 refine ⟨_,(zac (za9 (PW.pt (zem (zbm (zbe (zao (show zaq _ (.builtin "isinstance") (zdw K) from zcE) rfl T.z_isinstance zaL (zaa (pv 0) (zaa (zcX (v:=.ty "tuple") rfl T.z_tuple zbP rfl) zab))))) (zdg (zaC (show OpR _ (compareOp .NotEq) (zeU K) from zcL hu) (zao (show zaq _ (.builtin "len") (zdd K) from zaZ) rfl T.z_len zb3 (zaa (pv 0) zab)) zaf (zax _))))) (zad (zak zcn)) zaw)
     (zac (za9 (PW.pt (zem (zbm (zbe (pcl (zg5 T) hr T.d_is_whole (zaa (pix (pv 0)) zab)))) (zdg (zbm (zbe (pcl (zg5 T) hr T.d_is_whole (zaa (pix (pv 0)) zab))))))) (zad (zak zcn)) zaw)
     (zad (zak (zcj (zb4 zrX (pix (pv 0)) zaf (zax _)) (zdX (zb4 (show OpR _ (compareOp .Eq) (zig K) from zfe hu) (pcl (zaS T) hr T.d_greatest_divisor (zaa (zao zdv rfl T.z_abs zis (zaa (pix (pv 0)) zab)) (zaa (pix (pv 0)) zab))) zaf (zax _)))))))),?_⟩
 walk_at "cl"
 rw [show start zd9 [x0] = [some x0] from rfl]
 obtain ⟨d,hd,q⟩:=h
 walk_at "gg"
 . rename_i e
   rw [zlR e] at q
   exact q
 . rename_i e
   obtain ⟨ds,rfl⟩:=zi6.mp e
   refine zhy hd ?_
   walk_at "gg"
   . rename_i e
     rw [zmC (by omega)] at q
     exact q
   . rename_i e
     obtain ⟨d0,d1,rfl⟩ : ∃ d0 d1,ds = [d0,d1]:=by
       match ds,e with
       | [d0,d1],_=>exact ⟨d0,d1,rfl⟩
       | [],e=>simp at e
       | [_],e=>simp at e
       | _ :: _ :: _ :: _,e=>simp at e; omega
     refine zaI (j:=0) hd rfl (fun y0 h0=>?_)
     walk_at "gg"
     . rename_i e
       rw [zkj e] at q
       exact q
     . rename_i e0
       obtain ⟨i,rfl⟩:=zjm.mp e0
       refine zaI (j:=1) hd rfl (fun y1 h1=>?_)
       walk_at "gg"
       . rename_i e
         rw [ziJ e] at q
         exact q
       . rename_i e1
         obtain ⟨j,rfl⟩:=zjm.mp e1
         refine zaI (j:=1) hd rfl (fun y2 h2=>?_)
         cases zaR.mp h2
         walk_at "gg"
         . refine zaI (j:=0) hd rfl (fun y3 h3=>?_)
           cases zaR.mp h3
           walk_at "gg"
           refine zaI (j:=1) hd rfl (fun y4 h4=>?_)
           cases zaR.mp h4
           walk_at "gg"
           refine zaU (by split <;> omega) (by omega) ?_
           walk_at "gg"
           have e3 : zap (.tuple [.int i,.int j]) = decide ((Int.gcd (if i < 0 then -i else i) j : Nat) = (1 : Int)):=by
             have e4 : Int.gcd (if i < 0 then -i else i) j = Int.gcd i j:=by
               split <;> simp
             rw [e4]
             show zdp i j = _
             rename_i e5
             simp only [zdp,e5,decide_true,Bool.true_and]
             rw [Bool.eq_iff_iff,decide_eq_true_eq,decide_eq_true_eq]
             omega
           rw [e3] at q
           exact q
         . rename_i e5
           have e3 : zap (.tuple [.int i,.int j]) = false:=by
             show zdp i j = false
             simp only [zdp,e5,decide_false,Bool.false_and]
           rw [e3] at q
           exact q
def zmW (K : PySem.W.Frag) : Sp:=fun vs H Q _=>∃ x0 x1,vs = [x0,x1] /\ ∃ (x y : Rat),Is K H x0 (N x) /\ Is K H x1 (N y) /\ Bdr 8999 x /\ Bdr 8999 y /\ ∀ v H',zag H H' -> Is K H' v (N (x + y)) -> Q v H'
theorem zng {K : PySem.W.Frag} {H : Hp} {Q : VK} {E : XK} {x y : Rat} {v w : V} (h1 : Is K H v (N x)) (h2 : Is K H w (N y)) (b1 : Bdr 8999 x) (b2 : Bdr 8999 y) (q : ∀ v H',zag H H' -> Is K H' v (N (x + y)) -> Q v H') : zmW K [v,w] H Q E:=⟨_,_,rfl,x,y,h1,h2,b1,b2,q⟩
local macro_rules | `(tactic| walk_at "gs")=>`(tactic| ((with_reducible apply zng); (focus walk_at "is"); (focus walk_at "is"); (focus walk_at "bdr"); (focus walk_at "bdr"); intro _ _ _ _))
set_option maxHeartbeats 4000000 in
theorem zeF (T : Txt K mg a) : zaM P w K mg base CX0 2 a.plus a.fd_plus zjI (zmW K):=by
 refine T.d_plus.F.ok zhp ?_ ?_
 walk_at "b2"
 refine ⟨_,(zac (pst 2 zhp.nd (pcl (zaS T) hr T.d_greatest_divisor (zaa (pix (pv 0)) (zaa (pix (pv 1)) zab))))
     (zac (pst 3 zhp.nd (zam zaz (zam zaK (pix (pv 0)) (zam za0 (pix (pv 1)) (pv 2))) (zam zaK (pix (pv 1)) (zam za0 (pix (pv 0)) (pv 2)))))
     (zac (pst 4 zhp.nd (pcl (zaS T) hr T.d_greatest_divisor (zaa (zao zdv rfl T.z_abs zis (zaa (pv 3) zab)) (zaa (pv 2) zab))))
     (zad (zak (za8 (zaa (zam za0 (pv 3) (pv 4)) (zaa (zam zaK (zam za0 (pix (pv 0)) (pv 2)) (zam za0 (pix (pv 1)) (pv 4))) zab)))))))),?_⟩
 walk_at "cl"
 rw [show start zpx [x0,x1] = [some x0,some x1,none,none,none] from rfl]
 obtain ⟨x,y,hx,hy,⟨bx1,bx2⟩,⟨by1,by2⟩,q⟩:=h
 have px:=den_pos x
 have py:=den_pos y
 have ps:=zht x y
 have pd:=zjM x y
 have c1 : zju 0 (shd x y):=⟨by omega,zhL bx2 (zil x y) px⟩
 have c2 : zju 0 (sdv x y):=⟨by omega,zhL (zhL bx2 (zil x y) px) (zmr x y) ps⟩
 have f1:=zdK by2 (zko x y) ps
 have f2:=zdK bx2 (zil x y) ps
 have f3:=zdK by2 (Int.dvd_trans (zmr x y) (zko x y)) pd
 walk_at "gg"
 refine zaU (by omega) (by omega) ?_
 rw [show ((Int.gcd (x.den : Int) (y.den : Int) : Nat) : Int) = shd x y from rfl]
 walk_at "gg"
 rw [show x.num * (y.den : Int).fdiv (shd x y) + y.num * (x.den : Int).fdiv (shd x y) = stp x y from rfl]
 walk_at "gg"
 refine zaU (by split <;> omega) (by omega) ?_
 rw [zhn,show ((Int.gcd (stp x y) (shd x y) : Nat) : Int) = sdv x y from rfl]
 walk_at "gg"
 exact zhk (zqX x y) (zq3 x y) q
def zln (K : PySem.W.Frag) : Sp:=fun vs H Q _=>∃ x0 x1,vs = [x0,x1] /\ ∃ (x y : Rat),Is K H x0 (N x) /\ Is K H x1 (N y) /\ Bdr 8999 x /\ Bdr 8999 y /\ ∀ v H',zag H H' -> Is K H' v (N (x - y)) -> Q v H'
theorem zoF {K : PySem.W.Frag} {H : Hp} {Q : VK} {E : XK} {x y : Rat} {v w : V} (h1 : Is K H v (N x)) (h2 : Is K H w (N y)) (b1 : Bdr 8999 x) (b2 : Bdr 8999 y) (q : ∀ v H',zag H H' -> Is K H' v (N (x - y)) -> Q v H') : zln K [v,w] H Q E:=⟨_,_,rfl,x,y,h1,h2,b1,b2,q⟩
local macro_rules | `(tactic| walk_at "gs")=>`(tactic| ((with_reducible apply zoF); (focus walk_at "is"); (focus walk_at "is"); (focus walk_at "bdr"); (focus walk_at "bdr"); intro _ _ _ _))
set_option maxHeartbeats 4000000 in
theorem zpI (T : Txt K mg a) : zaM P w K mg base CX0 3 a.minus a.fd_minus zhi (zln K):=by
 refine T.d_minus.F.ok zpX ?_ ?_
 walk_at "b2"
 refine ⟨_,(zad (zak (pcl (zeF T) hr T.d_plus (zaa (pv 0) (zaa (za8 (zaa (zr2 zqf (pix (pv 1))) (zaa (pix (pv 1)) zab))) zab))))),?_⟩
 walk_at "cl"
 rw [show start zkl [x0,x1] = [some x0,some x1] from rfl]
 obtain ⟨x,y,hx,hy,bx,by',q⟩:=h
 walk_at "gg"
 refine zhk (r:=-y) (by simp) (by simp) (fun v H' s hv=>?_)
 walk_at "gg"
 refine zng (by walk_at "is") hv bx (zrF by') (fun w H'' s2 hw=>?_)
 rw [zl4] at hw
 walk_at "gg"
 exact q w H'' (s.trans s2) hw
def zlc (K : PySem.W.Frag) : Sp:=fun vs H Q _=>∃ x0 x1,vs = [x0,x1] /\ ∃ (x y : Rat),Is K H x0 (N x) /\ Is K H x1 (N y) /\ Bdr 8999 x /\ Bdr 8999 y /\ ∀ v H',zag H H' -> Is K H' v (N (x * y)) -> Q v H'
theorem zpM {K : PySem.W.Frag} {H : Hp} {Q : VK} {E : XK} {x y : Rat} {v w : V} (h1 : Is K H v (N x)) (h2 : Is K H w (N y)) (b1 : Bdr 8999 x) (b2 : Bdr 8999 y) (q : ∀ v H',zag H H' -> Is K H' v (N (x * y)) -> Q v H') : zlc K [v,w] H Q E:=⟨_,_,rfl,x,y,h1,h2,b1,b2,q⟩
local macro_rules | `(tactic| walk_at "gs")=>`(tactic| ((with_reducible apply zpM); (focus walk_at "is"); (focus walk_at "is"); (focus walk_at "bdr"); (focus walk_at "bdr"); intro _ _ _ _))
set_option maxHeartbeats 4000000 in
theorem zhz (T : Txt K mg a) : zaM P w K mg base CX0 2 a.times a.fd_times zhl (zlc K):=by
 refine T.d_times.F.ok ziv ?_ ?_
 walk_at "b2"
 refine ⟨_,(zac (pst 2 ziv.nd (pcl (zaS T) hr T.d_greatest_divisor (zaa (zao zdv rfl T.z_abs zis (zaa (pix (pv 0)) zab)) (zaa (pix (pv 1)) zab))))
     (zac (pst 3 ziv.nd (pcl (zaS T) hr T.d_greatest_divisor (zaa (zao zdv rfl T.z_abs zis (zaa (pix (pv 1)) zab)) (zaa (pix (pv 0)) zab))))
     (zad (zak (za8 (zaa (zam zaK (zam za0 (pix (pv 0)) (pv 2)) (zam za0 (pix (pv 1)) (pv 3))) (zaa (zam zaK (zam za0 (pix (pv 0)) (pv 3)) (zam za0 (pix (pv 1)) (pv 2))) zab))))))),?_⟩
 walk_at "cl"
 rw [show start zm5 [x0,x1] = [some x0,some x1,none,none] from rfl]
 obtain ⟨x,y,hx,hy,⟨bx1,bx2⟩,⟨by1,by2⟩,q⟩:=h
 have px:=den_pos x
 have py:=den_pos y
 have p1:=zeS x y
 have p2:=zeS y x
 have c1 : zju 0 (crs x y):=⟨by omega,zhL by2 (zgt x y) py⟩
 have c2 : zju 0 (crs y x):=⟨by omega,zhL bx2 (zgt y x) px⟩
 have f1:=zdK bx1 (zkb x y) p1
 have f2:=zdK by1 (zkb y x) p2
 have f3:=zdK bx2 (zgt y x) p2
 have f4:=zdK by2 (zgt x y) p1
 walk_at "gg"
 refine zaU (by split <;> omega) (by omega) ?_
 rw [zhn,show ((Int.gcd x.num (y.den : Int) : Nat) : Int) = crs x y from rfl]
 walk_at "gg"
 refine zaU (by split <;> omega) (by omega) ?_
 rw [zhn,show ((Int.gcd y.num (x.den : Int) : Nat) : Int) = crs y x from rfl]
 walk_at "gg"
 exact zhk (zqz x y) (zrq x y) q
def zm8 (K : PySem.W.Frag) : Sp:=fun vs H Q _=>∃ x0 x1,vs = [x0,x1] /\ ∃ (x y : Rat),Is K H x0 (N x) /\ Is K H x1 (N y) /\ Bdr 4000 x /\ Bdr 4000 y /\ Q (.bl (decide (x < y))) H
theorem zrt {K : PySem.W.Frag} {H : Hp} {Q : VK} {E : XK} {x y : Rat} {v w : V} (h1 : Is K H v (N x)) (h2 : Is K H w (N y)) (b1 : Bdr 4000 x) (b2 : Bdr 4000 y) (q : Q (.bl (decide (x < y))) H) : zm8 K [v,w] H Q E:=⟨_,_,rfl,x,y,h1,h2,b1,b2,q⟩
local macro_rules | `(tactic| walk_at "gs")=>`(tactic| ((with_reducible apply zrt); (focus walk_at "is"); (focus walk_at "is"); (focus walk_at "bdr"); (focus walk_at "bdr")))
set_option maxHeartbeats 4000000 in
theorem zcu (T : Txt K mg a) : zaM P w K mg base CX0 1 a.less a.fd_less zjQ (zm8 K):=by
 refine T.d_less.F.ok zqr ?_ ?_
 walk_at "b2"
 refine ⟨_,(zad (zak (zb4 zmV (zam zaK (pix (pv 0)) (pix (pv 1))) (zam zaK (pix (pv 1)) (pix (pv 0))) (zax _)))),?_⟩
 walk_at "cl"
 rw [show start zlX [x0,x1] = [some x0,some x1] from rfl]
 obtain ⟨x,y,hx,hy,⟨bx1,bx2⟩,⟨by1,by2⟩,q⟩:=h
 walk_at "gg"
 rw [zuq]
 exact q
def zlj (x : Rat) : Bool:=decide (0 < x) && (!decide (4 < x)) && decide ((x.den : Int) <= 8)
def zfP (K : PySem.W.Frag) : Sp:=fun vs H Q _=>∃ x0,vs = [x0] /\ ∃ x : Rat,Is K H x0 (N x) /\ Bdr 4000 x /\ Q (.bl (zlj x)) H
theorem zjE {K : PySem.W.Frag} {H : Hp} {Q : VK} {E : XK} {x : Rat} {v : V} (h : Is K H v (N x)) (b : Bdr 4000 x) (q : Q (.bl (zlj x)) H) : zfP K [v] H Q E:=⟨_,rfl,x,h,b,q⟩
local macro_rules | `(tactic| walk_at "gs")=>`(tactic| ((with_reducible apply zjE); (focus walk_at "is"); (focus walk_at "bdr")))
set_option maxHeartbeats 4000000 in
theorem zkw (T : Txt K mg a) : zaM P w K mg base CX0 2 a.is_factor a.fd_is_factor zc6 (zfP K):=by
 refine T.d_is_factor.F.ok zjR ?_ ?_
 walk_at "b1"
 refine ⟨_,(zad (zak (zcj (pcl (zcu T) hr T.d_less (zaa (zaX (v:=.ref a.k_NOUGHT) rfl T.c_NOUGHT rfl) (zaa (pv 0) zab))) (zcj (zh8 (pcl (zcu T) hr T.d_less (zaa (zaX (v:=.ref a.k_GREATEST_FACTOR) rfl T.c_GREATEST_FACTOR rfl) (zaa (pv 0) zab)))) (zdX (zb4 zg2 (pix (pv 0)) (zdy rfl T.c_FACTOR_BOTTOM) (zax _))))))),?_⟩
 walk_at "cl"
 rw [show start zex [x0] = [some x0] from rfl]
 obtain ⟨x,hx,bx,q⟩:=h
 unfold zlj at q
 walk_at "gg"
 . rename_i h1 h2
   rw [decide_eq_true h1,decide_eq_false h2] at q
   exact q
 . rename_i h1 h2
   rw [decide_eq_true h1,decide_eq_true h2] at q
   exact q
 . rename_i h1
   rw [decide_eq_false h1] at q
   exact q
def zkZ (x : Rat) : Bool:=(!decide (x < 0)) && (!decide (1 < x)) && decide ((x.den : Int) <= 12)
def zgT (K : PySem.W.Frag) : Sp:=fun vs H Q _=>∃ x0,vs = [x0] /\ ∃ x : Rat,Is K H x0 (N x) /\ Bdr 4000 x /\ Q (.bl (zkZ x)) H
theorem zk2 {K : PySem.W.Frag} {H : Hp} {Q : VK} {E : XK} {x : Rat} {v : V} (h : Is K H v (N x)) (b : Bdr 4000 x) (q : Q (.bl (zkZ x)) H) : zgT K [v] H Q E:=⟨_,rfl,x,h,b,q⟩
local macro_rules | `(tactic| walk_at "gs")=>`(tactic| ((with_reducible apply zk2); (focus walk_at "is"); (focus walk_at "bdr")))
set_option maxHeartbeats 4000000 in
theorem zlz (T : Txt K mg a) : zaM P w K mg base CX0 2 a.is_shift a.fd_is_shift zdP (zgT K):=by
 refine T.d_is_shift.F.ok zlL ?_ ?_
 walk_at "b1"
 refine ⟨_,(zad (zak (zcj (zh8 (pcl (zcu T) hr T.d_less (zaa (pv 0) (zaa (zaX (v:=.ref a.k_NOUGHT) rfl T.c_NOUGHT rfl) zab)))) (zcj (zh8 (pcl (zcu T) hr T.d_less (zaa (zaX (v:=.ref a.k_ONE) rfl T.c_ONE rfl) (zaa (pv 0) zab)))) (zdX (zb4 zg2 (pix (pv 0)) (zdy rfl T.c_SHIFT_BOTTOM) (zax _))))))),?_⟩
 walk_at "cl"
 rw [show start zfh [x0] = [some x0] from rfl]
 obtain ⟨x,hx,bx,q⟩:=h
 unfold zkZ at q
 walk_at "gg"
 . rename_i h1 h2
   rw [decide_eq_false h1,decide_eq_false h2] at q
   exact q
 . rename_i h1 h2
   rw [decide_eq_false h1,decide_eq_true h2] at q
   exact q
 . rename_i h1
   rw [decide_eq_true h1] at q
   exact q
def zez (x y : Rat) : Bool:=zlj x && zkZ y && !decide (x + y < 1)
def zdT (K : PySem.W.Frag) : Sp:=fun vs H Q _=>∃ x0 x1,vs = [x0,x1] /\ ((∃ d e,Is K H x0 d /\ Is K H x1 e /\ (zap d && zap e) = false /\ ∀ H',zag H H' -> Q (.bl false) H') \/ (∃ x y : Rat,Is K H x0 (N x) /\ Is K H x1 (N y) /\ Bdr 1000 x /\ Bdr 1000 y /\ ∀ H',zag H H' -> Q (.bl (zez x y)) H'))
theorem ziK {K : PySem.W.Frag} {H : Hp} {Q : VK} {E : XK} {d e : PyData} {v w : V} (h1 : Is K H v d) (h2 : Is K H w e) (n : (zap d && zap e) = false) (q : ∀ H',zag H H' -> Q (.bl false) H') : zdT K [v,w] H Q E:=⟨_,_,rfl,.inl ⟨d,e,h1,h2,n,q⟩⟩
theorem zki {K : PySem.W.Frag} {H : Hp} {Q : VK} {E : XK} {x y : Rat} {v w : V} (h1 : Is K H v (N x)) (h2 : Is K H w (N y)) (b1 : Bdr 1000 x) (b2 : Bdr 1000 y) (q : ∀ H',zag H H' -> Q (.bl (zez x y)) H') : zdT K [v,w] H Q E:=⟨_,_,rfl,.inr ⟨x,y,h1,h2,b1,b2,q⟩⟩
set_option maxHeartbeats 4000000 in
theorem zjT (T : Txt K mg a) : zaM P w K mg base CX0 3 a.make_rule a.fd_make_rule zcV (zdT K):=by
 refine T.d_make_rule.F.ok zkp ?_ ?_
 walk_at "b2"
 refine ⟨_,(zac (za9 (PW.pt (zem (zbm (zbe (pcl (zcx T) hr T.d_is_number (zaa (pv 0) zab)))) (zdg (zbm (zbe (pcl (zcx T) hr T.d_is_number (zaa (pv 1) zab))))))) (zad (zak zcn)) zaw)
     (zad (zak (zcj (pcl (zkw T) hr T.d_is_factor (zaa (pv 0) zab)) (zcj (pcl (zlz T) hr T.d_is_shift (zaa (pv 1) zab)) (zdX (zh8 (pcl (zcu T) hr T.d_less (zaa (pcl (zeF T) hr T.d_plus (zaa (pv 0) (zaa (pv 1) zab))) (zaa (zaX (v:=.ref a.k_ONE) rfl T.c_ONE rfl) zab)))))))))),?_⟩
 walk_at "cl"
 rw [show start zei [x0,x1] = [some x0,some x1] from rfl]
 rcases h with ⟨d,e,hd,he,hn,q⟩ | ⟨x,y,hx,hy,bx,by',q⟩
 . walk_at "gg"
   . exact q _ (zag.refl _)
   . exact q _ (zag.refl _)
   . rename_i h1 h2
     exact absurd hn (by rw [h1,h2]; decide)
 . unfold zez at q
   walk_at "gg"
   . rename_i z; rw [zf0] at z; cases z
   . rename_i z; rw [zf0] at z; cases z
   . rename_i h1 h2 v H' S hv
     rw [h1,h2] at q
     exact q _ S
   . rename_i h1 h2
     rw [h1,h2] at q
     exact q _ (zag.refl _)
   . rename_i h1
     rw [h1] at q
     exact q _ (zag.refl _)
def zhj : PyData -> Bool
 | .tuple [d,e]=>!(zap d && zap e)
 | _=>true
theorem zkX {d e : PyData} (h : zhj (.tuple [d,e]) = true) : (zap d && zap e) = false:=by
 have h : (!(zap d && zap e)) = true:=h
 cases z : (zap d && zap e) with
 | false=>rfl
 | true=>rw [z] at h; exact absurd h (by decide)
def zdU (K : PySem.W.Frag) : Sp:=fun vs H Q _=>∃ x0,vs = [x0] /\ ((∃ d,Is K H x0 d /\ zhj d = true /\ ∀ H',zag H H' -> Q (.bl false) H') \/ (∃ x y : Rat,Is K H x0 (R x y) /\ Bdr 1000 x /\ Bdr 1000 y /\ ∀ H',zag H H' -> Q (.bl (zez x y)) H'))
theorem zlr {K : PySem.W.Frag} {H : Hp} {Q : VK} {E : XK} {d : PyData} {v : V} (h : Is K H v d) (n : zhj d = true) (q : ∀ H',zag H H' -> Q (.bl false) H') : zdU K [v] H Q E:=⟨_,rfl,.inl ⟨d,h,n,q⟩⟩
theorem zff {K : PySem.W.Frag} {H : Hp} {Q : VK} {E : XK} {x y : Rat} {v : V} (h : Is K H v (R x y)) (b1 : Bdr 1000 x) (b2 : Bdr 1000 y) (q : ∀ H',zag H H' -> Q (.bl (zez x y)) H') : zdU K [v] H Q E:=⟨_,rfl,.inr ⟨x,y,h,b1,b2,q⟩⟩
set_option maxHeartbeats 4000000 in
theorem zmH (T : Txt K mg a) : zaM P w K mg base CX0 4 a.is_rule a.fd_is_rule zeH (zdU K):=by
 refine T.d_is_rule.F.ok zl7 ?_ ?_
 walk_at "b1"
 refine ⟨_,(zad (zak (zcj (zao (show zaq _ (.builtin "isinstance") (zdw K) from zcE) rfl T.z_isinstance zaL (zaa (pv 0) (zaa (zcX (v:=.ty "tuple") rfl T.z_tuple zbP rfl) zab))) (zcj (zb4 (show OpR _ (compareOp .Eq) (zig K) from zfe hu) (zao (show zaq _ (.builtin "len") (zdd K) from zaZ) rfl T.z_len zb3 (zaa (pv 0) zab)) zaf (zax _)) (zdX (pcl (zjT T) hr T.d_make_rule (zaa (pix (pv 0)) (zaa (pix (pv 0)) zab)))))))),?_⟩
 walk_at "cl"
 rw [show start zgM [x0] = [some x0] from rfl]
 rcases h with ⟨d,hd,hn,q⟩ | ⟨x,y,hr,bx,by',q⟩
 . walk_at "gg"
   . rename_i e
     obtain ⟨ds,rfl⟩:=zi6.mp e
     refine zhy hd ?_
     walk_at "gg"
     . rename_i e
       obtain ⟨d0,d1,rfl⟩ : ∃ d0 d1,ds = [d0,d1]:=by
         match ds,e with
         | [d0,d1],_=>exact ⟨d0,d1,rfl⟩
         | [],e=>simp at e
         | [_],e=>simp at e
         | _ :: _ :: _ :: _,e=>simp at e; omega
       refine zaI (j:=0) hd rfl (fun y0 h0=>?_)
       walk_at "gg"
       refine zaI (j:=1) hd rfl (fun y1 h1=>?_)
       walk_at "gg"
       refine ziK h0 h1 (zkX hn) (fun H' S=>?_)
       walk_at "gg"
       exact q _ S
     . exact q _ (zag.refl _)
   . exact q _ (zag.refl _)
 . walk_at "gg"
   refine zki (by assumption) (by assumption) bx by' (fun H' S=>?_)
   walk_at "gg"
   exact q _ S
def zjl (K : PySem.W.Frag) : Sp:=fun vs H Q _=>∃ x0 x1,vs = [x0,x1] /\ ∃ (a b : Rat) (n : Int),x1 = .int n /\ Is K H x0 (R a b) /\ Bdr 10 a /\ Bdr 10 b /\ 0 <= n /\ n <= 64 /\ ∀ v H',zag H H' -> Is K H' v (R (a ^ n.toNat) (shf a b n.toNat)) -> Q v H'
theorem znT {K : PySem.W.Frag} {H : Hp} {Q : VK} {E : XK} {a b : Rat} {n : Int} {v : V} (h1 : Is K H v (R a b)) (b1 : Bdr 10 a) (b2 : Bdr 10 b) (h0 : 0 <= n) (h64 : n <= 64) (q : ∀ v H',zag H H' -> Is K H' v (R (a ^ n.toNat) (shf a b n.toNat)) -> Q v H') : zjl K [v,.int n] H Q E:=⟨_,_,rfl,a,b,n,rfl,h1,b1,b2,h0,h64,q⟩
set_option maxHeartbeats 4000000 in
theorem znF (T : Txt K mg a) : zaM P w K mg base CX0 3 a.pushes a.fd_pushes zgm (zjl K):=by
 refine T.d_pushes.F.ok zcH ?_ ?_
 walk_at "b2"
 refine ⟨_,(zac (pst 2 zcH.nd (zaX (v:=.ref a.k_ONE) rfl T.c_ONE rfl))
     (zac (pst 3 zcH.nd (zaX (v:=.ref a.k_NOUGHT) rfl T.c_NOUGHT rfl))
     (zac (zd2 PassesOwn.never rfl (zcG rfl T.z_range (zaa (pv 1) zab)) (zaE (i:=4) zcH.nd rfl (Or.inl rfl)) (zac (pst 2 zcH.nd (pcl (zhz T) hr T.d_times (zaa (pix (pv 0)) (zaa (pv 2) zab))))
     (zad (pst 3 zcH.nd (pcl (zeF T) hr T.d_plus (zaa (pcl (zhz T) hr T.d_times (zaa (pix (pv 0)) (zaa (pv 3) zab))) (zaa (pix (pv 0)) zab)))))))
     (zad (zak (za8 (zaa (pv 2) (zaa (pv 3) zab)))))))),?_⟩
 walk_at "cl"
 rw [show start zkW [x0,x1] = [some x0,some x1,none,none,none] from rfl]
 obtain ⟨r,s',n,rfl,hr',ba,bb,h0,h64,q⟩:=h
 walk_at "gg"
 refine zcF (n:=n) (by omega) (by omega) (fun i σ H'=>∃ (f g : V) (o : Option V),σ = [some x0,some (.int n),some f,some g,o] /\ zag H H' /\ Is K H' f (N (r ^ i)) /\ Is K H' g (N (shf r s' i))) ⟨_,_,_,rfl,zag.refl H,by rw [Rat.pow_zero]; exact zoH.mpr ⟨_,rfl,T.t_ONE H⟩,zoH.mpr ⟨_,rfl,T.t_NOUGHT H⟩⟩ ?_ ?_
 . rintro i σ H' hi ⟨f,g,o,rfl,S1,hf,hg⟩
   have hr1:=hr'.by S1
   have bf : Bdr 650 (r ^ i):=(ba.pow i).mono (by omega)
   have bg : Bdr 1400 (shf r s' i):=(ba.shf bb i).mono (by omega)
   walk_at "gg"
   refine ⟨_,_,_,rfl,S1.trans (zag.trans (by assumption) (zag.trans (by assumption) (by assumption))),?_,?_⟩
   . rw [Rat.pow_succ,Rat.mul_comm]
     walk_at "is"
   . walk_at "is"
 . rintro σ H' ⟨f,g,o,rfl,S1,hf,hg⟩
   walk_at "ga"
   exact q _ _ (S1.trans (by assumption)) (by assumption)
def zfK (K : PySem.W.Frag) : Sp:=fun vs H Q _=>∃ x0 x1,vs = [x0,x1] /\ ∃ (f g x : Rat),Is K H x0 (R f g) /\ Is K H x1 (N x) /\ Bdr 700 f /\ Bdr 1500 g /\ Bdr 3000 x /\ ∀ v H',zag H H' -> Is K H' v (N (f * x + g)) -> Q v H'
theorem zkh {K : PySem.W.Frag} {H : Hp} {Q : VK} {E : XK} {f g x : Rat} {v w : V} (h1 : Is K H v (R f g)) (h2 : Is K H w (N x)) (b1 : Bdr 700 f) (b2 : Bdr 1500 g) (b3 : Bdr 3000 x) (q : ∀ v H',zag H H' -> Is K H' v (N (f * x + g)) -> Q v H') : zfK K [v,w] H Q E:=⟨_,_,rfl,f,g,x,h1,h2,b1,b2,b3,q⟩
set_option maxHeartbeats 4000000 in
theorem zkz (T : Txt K mg a) : zaM P w K mg base CX0 3 a.pushed_by a.fd_pushed_by zc7 (zfK K):=by
 refine T.d_pushed_by.F.ok zj0 ?_ ?_
 walk_at "b2"
 refine ⟨_,(zad (zak (pcl (zeF T) hr T.d_plus (zaa (pcl (zhz T) hr T.d_times (zaa (pix (pv 0)) (zaa (pv 1) zab))) (zaa (pix (pv 0)) zab))))),?_⟩
 walk_at "cl"
 rw [show start zep [x0,x1] = [some x0,some x1] from rfl]
 obtain ⟨f,g,x,hp,hx,bf,bg,bx,q⟩:=h
 walk_at "gg"
 rename_i hz
 exact q _ _ (zag.trans (by assumption) (by assumption)) hz
def zcU (K : PySem.W.Frag) : Sp:=fun vs H Q _=>∃ x0,vs = [x0] /\ ((∃ d,Is K H x0 d /\ zap d = false /\ Q (.bl false) H) \/ (∃ x : Rat,Is K H x0 (N x) /\ Bdr 4000 x /\ Q (.bl (ziA x)) H))
theorem zjz {K : PySem.W.Frag} {H : Hp} {Q : VK} {E : XK} {d : PyData} {v : V} (h : Is K H v d) (n : zap d = false) (q : Q (.bl false) H) : zcU K [v] H Q E:=⟨_,rfl,.inl ⟨d,h,n,q⟩⟩
theorem zkN {K : PySem.W.Frag} {H : Hp} {Q : VK} {E : XK} {x : Rat} {v : V} (h : Is K H v (N x)) (b : Bdr 4000 x) (q : Q (.bl (ziA x)) H) : zcU K [v] H Q E:=⟨_,rfl,.inr ⟨x,h,b,q⟩⟩
set_option maxHeartbeats 4000000 in
theorem zkT (T : Txt K mg a) : zaM P w K mg base CX0 3 a.is_phase a.fd_is_phase zdN (zcU K):=by
 refine T.d_is_phase.F.ok zlB ?_ ?_
 walk_at "b1"
 refine ⟨_,(zac (za9 (PW.pt (zem (zbm (zbe (pcl (zcx T) hr T.d_is_number (zaa (pv 0) zab)))) (zdg (zbe (pcl (zcu T) hr T.d_less (zaa (pv 0) (zaa (zaX (v:=.ref a.k_NOUGHT) rfl T.c_NOUGHT rfl) zab))))))) (zad (zak zcn)) zaw)
     (zad (zak (zcj (pcl (zcu T) hr T.d_less (zaa (pv 0) (zaa (zaX (v:=.ref a.k_ONE) rfl T.c_ONE rfl) zab))) (zdX (zb4 zg2 (pix (pv 0)) (zdy rfl T.c_PHASE_BOTTOM) (zax _))))))),?_⟩
 walk_at "cl"
 rw [show start zfr [x0] = [some x0] from rfl]
 rcases h with ⟨d,hd,hn,q⟩ | ⟨x,hx,bx,q⟩
 . walk_at "gg"
   . exact q
   . rename_i e; rw [hn] at e; cases e
 . unfold ziA at q
   walk_at "gg"
   . rename_i z; rw [zf0] at z; cases z
   . rename_i h1
     rw [decide_eq_true h1] at q
     exact q
   . rename_i h1 h2
     rw [decide_eq_false h1,decide_eq_true h2] at q
     exact q
   . rename_i h1 h2
     rw [decide_eq_false h1,decide_eq_false h2] at q
     exact q
def phD : PyData -> Bool
 | .tuple [.int p,.int q]=>zdp p q && ziA (Rat.divInt p q)
 | _=>false
theorem zqn (x : Rat) : phD (N x) = ziA x:=by
 show (zdp x.num x.den && ziA (Rat.divInt x.num x.den)) = ziA x
 rw [zi9,Rat.num_divInt_den,Bool.true_and]
theorem zlU {d : PyData} (h : zap d = true) : ∃ x : Rat,d = N x:=by
 match d with
 | .tuple [.int p,.int q] =>
   obtain ⟨r,e1,e2⟩:=zks (show zdp p q = true from h)
   exact ⟨r,by rw [e1,e2]; rfl⟩
 | .none=>simp [zap] at h
 | .bool _=>simp [zap] at h
 | .int _=>simp [zap] at h
 | .str _=>simp [zap] at h
 | .list _=>simp [zap] at h
 | .dict _=>simp [zap] at h
 | .tuple []=>simp [zap] at h
 | .tuple [_]=>simp [zap] at h
 | .tuple (_ :: _ :: _ :: _)=>simp [zap] at h
 | .tuple [.none,_]=>simp [zap] at h
 | .tuple [.bool _,_]=>simp [zap] at h
 | .tuple [.str _,_]=>simp [zap] at h
 | .tuple [.tuple _,_]=>simp [zap] at h
 | .tuple [.list _,_]=>simp [zap] at h
 | .tuple [.dict _,_]=>simp [zap] at h
 | .tuple [.int _,.none]=>simp [zap] at h
 | .tuple [.int _,.bool _]=>simp [zap] at h
 | .tuple [.int _,.str _]=>simp [zap] at h
 | .tuple [.int _,.tuple _]=>simp [zap] at h
 | .tuple [.int _,.list _]=>simp [zap] at h
 | .tuple [.int _,.dict _]=>simp [zap] at h
theorem zrw {d : PyData} (h : zap d = false) : phD d = false:=by
 unfold phD
 split
 . rename_i p q
   rw [show zdp p q = false from h]; rfl
 . rfl
theorem zgc {K : PySem.W.Frag} {H : Hp} {Q : VK} {E : XK} {d : PyData} {v : V} (h : Is K H v d) (b : ∀ x,d = N x -> Bdr 4000 x) (q : Q (.bl (phD d)) H) : zcU K [v] H Q E:=by
 cases e : zap d with
 | false=>rw [zrw e] at q; exact zjz h e q
 | true =>
   obtain ⟨x,rfl⟩:=zlU e
   rw [zqn] at q
   exact zkN h (b x rfl) q
def zdl (K : PySem.W.Frag) : Sp:=fun vs H Q _=>∃ x0,vs = [x0] /\ ((∃ d,Is K H x0 d /\ (zi4 d || zd3 d) = false /\ ∀ H',zag H H' -> Q (.bl false) H') \/ (∃ ds,(Is K H x0 (.list ds) \/ Is K H x0 (.tuple ds)) /\ (∀ e ∈ ds,∀ x,e = N x -> Bdr 4000 x) /\ ∀ H',zag H H' -> Q (.bl (decide (1 <= ds.length) && decide (ds.length <= 8) && ds.all phD)) H') \/ (∃ (p : Addr) (kvs : List (List Key × V)),x0 = .ref p /\ H p = some (.dT kvs) /\ ∀ H',zag H H' -> Q (.bl false) H'))
theorem ziI {K : PySem.W.Frag} {H : Hp} {Q : VK} {E : XK} {ds : List PyData} {v : V} (h : Is K H v (.list ds) \/ Is K H v (.tuple ds)) (b : ∀ e ∈ ds,∀ x,e = N x -> Bdr 4000 x) (q : ∀ H',zag H H' -> Q (.bl (decide (1 <= ds.length) && decide (ds.length <= 8) && ds.all phD)) H') : zdl K [v] H Q E:=⟨_,rfl,.inr (.inl ⟨ds,h,b,q⟩)⟩
def znZ (K : PySem.W.Frag) (H : Hp) (v : V) : Prop:=(∃ d,Is K H v d /\ (zi4 d || zd3 d) = false) \/ (∃ ds,(Is K H v (.list ds) \/ Is K H v (.tuple ds)) /\ (∀ e ∈ ds,∀ x,e = N x -> Bdr 4000 x) /\ (decide (1 <= ds.length) && decide (ds.length <= 8) && ds.all phD) = false) \/ (∃ (p : Addr) (kvs : List (List Key × V)),v = .ref p /\ H p = some (.dT kvs))
theorem znZ.by {K : PySem.W.Frag} {H H' : Hp} {v : V} (s : zag H H') (h : znZ K H v) : znZ K H' v:=by
 rcases h with ⟨d,i,e⟩ | ⟨ds,i,b,e⟩ | ⟨p,kvs,e,h⟩
 . exact .inl ⟨d,i.by s,e⟩
 . exact .inr (.inl ⟨ds,i.imp (fun z=>z.by s) (fun z=>z.by s),b,e⟩)
 . exact .inr (.inr ⟨p,kvs,e,s _ _ h⟩)
theorem zhN {K : PySem.W.Frag} {H : Hp} {Q : VK} {E : XK} {v : V} (h : znZ K H v) (q : ∀ H',zag H H' -> Q (.bl false) H') : zdl K [v] H Q E:=by
 rcases h with ⟨d,i,e⟩ | ⟨ds,i,b,e⟩ | ⟨p,kvs,e,h⟩
 . exact ⟨_,rfl,.inl ⟨d,i,e,q⟩⟩
 . exact ⟨_,rfl,.inr (.inl ⟨ds,i,b,by rw [e]; exact q⟩)⟩
 . exact ⟨_,rfl,.inr (.inr ⟨p,kvs,e,h,q⟩)⟩
set_option maxHeartbeats 4000000 in
theorem zix (T : Txt K mg a) : zaM P w K mg base CX0 4 a.are_phases a.fd_are_phases zcw (zdl K):=by
 refine T.d_are_phases.F.ok ziE ?_ ?_
 walk_at "b1"
 refine ⟨_,(zac (za9 (PW.pt (zem (zbm (zbe (zao (show zaq _ (.builtin "isinstance") (zj2 K) from zk7) rfl T.z_isinstance zaL (zaa (pv 0) (zaa (za8 (zaa (zcX (v:=.ty "list") rfl T.z_list zm1 rfl) (zaa (zcX (v:=.ty "tuple") rfl T.z_tuple zbP rfl) zab))) zab))))) (zdg (zbm (zli zg2 zg2 zaf (zao (show zaq _ (.builtin "len") (zdd K) from zaZ) rfl T.z_len zb3 (zaa (pv 0) zab)) (zdy rfl T.c_MOST_WORMS)))))) (zad (zak zcn)) zaw)
     (zad (zak (zao (show zaq _ (.builtin "all") (zje K) from zeI rfl) rfl T.z_all zkA (zaa (zbT rfl (zbl.by (N':=["one"]) (src:=[none]) rfl (show zbc _ (zae zct).names zcq ["one"] [none] = true from by decide +kernel)) (zpz (pv 0)) (fun _ _ _ _ _=>(zaE (i:=0) (show (["one"] : List Str).Nodup from by decide) rfl (Or.inl rfl))) (fun _ _ _ _ _=>zbQ) (fun _ _ _ _ _=>(pcl (zkT (K:=K) (mg:=mg) (a:=a) T) hr T.d_is_phase (zaa (pv 0) zab)))) zab))))),?_⟩
 walk_at "cl"
 rw [show start zcq [x0] = [some x0] from rfl]
 rcases h with ⟨d,hd,hn,q⟩ | ⟨ds,hd,bd,q⟩ | ⟨p,kvs,rfl,hp,q⟩
 . walk_at "gg"
   refine zfo (by simp) (fun tp H1 _ S1 e1=>?_)
   walk_at "gg"
   refine .inl (zgu (hd.by S1) e1 ?_)
   rw [hn]
   walk_at "gg"
   exact q H1 S1
 . rcases hd with hd | hd
   . walk_at "gg"
     refine zfo (by simp) (fun tp H1 _ S1 e1=>?_)
     walk_at "gg"
     refine .inl (zgu (hd.by S1) e1 ?_)
     rw [show (zi4 (.list ds) || zd3 (.list ds)) = true from rfl]
     obtain ⟨ap,us,rfl,hs,tu⟩:=zbk.mp (hd.by S1)
     have hul:=tu.length
     walk_at "gg"
     refine zdZ hs ?_
     rw [hul]
     walk_at "gg"
     . rename_i z0 z
       have:=q H1 S1
       rw [decide_eq_false (show ¬ ds.length <= 8 by omega),Bool.and_false,Bool.false_and] at this
       exact this
     . rename_i z0 z
       have h1 : 1 <= ds.length:=by omega
       have h8 : ds.length <= 8:=by omega
       refine .inl (zhv (o0:=none) (tl:=[]) hs rfl (fun j y H'=>y = .bl (phD (ds.getD j .none))) ?_ ?_)
       . intro D i x ys o H2 hx inv
         obtain ⟨hi,ix⟩:=zsj tu hx
         walk_at "gg"
         refine zgc (ix.by inv.same) (fun x e=>bd _ (getD_mem hi) x e) ?_
         walk_at "gg"
         exact zbA inv (by omega) (fun _ _ _ _ _ z=>z) ⟨_,rfl⟩ (zag.refl _) rfl
       . intro D ys H2 hn S2 hD hl hr
         have hys : ys = (ds.map phD).map V.bl:=by
           refine List.ext_getElem (by rw [hl,hul,List.length_map,List.length_map]) fun j h1 h2=>?_
           have:=hr j ys[j] (List.getElem?_eq_getElem h1)
           rw [this,List.getElem_map,List.getElem_map,List.getD_eq_getElem?_getD,List.getElem?_eq_getElem]
           rfl
         subst hys
         walk_at "gg"
         refine zfN (.of hD) ?_
         walk_at "gg"
         have e : (ds.map phD).all id = ds.all phD:=by rw [List.all_map]; rfl
         have:=q H2 (S1.trans S2)
         rw [decide_eq_true h1,decide_eq_true h8,<- e] at this
         exact this
     . rename_i z
       have:=q H1 S1
       rw [decide_eq_false (show ¬ 1 <= ds.length by omega),Bool.false_and,Bool.false_and] at this
       exact this
   . walk_at "gg"
     refine zfo (by simp) (fun tp H1 _ S1 e1=>?_)
     walk_at "gg"
     refine .inl (zgu (hd.by S1) e1 ?_)
     rw [show (zi4 (.tuple ds) || zd3 (.tuple ds)) = true from rfl]
     obtain ⟨ap,us,rfl,hs,tu⟩:=zaY.mp (hd.by S1)
     have hul:=tu.length
     walk_at "gg"
     refine zmR hs ?_
     rw [hul]
     walk_at "gg"
     . rename_i z0 z
       have:=q H1 S1
       rw [decide_eq_false (show ¬ ds.length <= 8 by omega),Bool.and_false,Bool.false_and] at this
       exact this
     . rename_i z0 z
       have h1 : 1 <= ds.length:=by omega
       have h8 : ds.length <= 8:=by omega
       refine .inr (zf6 (o0:=none) (tl:=[]) hs rfl (fun j y H'=>y = .bl (phD (ds.getD j .none))) ?_ ?_)
       . intro D i x ys o H2 hx inv
         obtain ⟨hi,ix⟩:=zsj tu hx
         walk_at "gg"
         refine zgc (ix.by inv.same) (fun x e=>bd _ (getD_mem hi) x e) ?_
         walk_at "gg"
         exact zbA inv (by omega) (fun _ _ _ _ _ z=>z) ⟨_,rfl⟩ (zag.refl _) rfl
       . intro D ys H2 hn S2 hD hl hr
         have hys : ys = (ds.map phD).map V.bl:=by
           refine List.ext_getElem (by rw [hl,hul,List.length_map,List.length_map]) fun j h1 h2=>?_
           have:=hr j ys[j] (List.getElem?_eq_getElem h1)
           rw [this,List.getElem_map,List.getElem_map,List.getD_eq_getElem?_getD,List.getElem?_eq_getElem]
           rfl
         subst hys
         walk_at "gg"
         refine zfN (.of hD) ?_
         walk_at "gg"
         have e : (ds.map phD).all id = ds.all phD:=by rw [List.all_map]; rfl
         have:=q H2 (S1.trans S2)
         rw [decide_eq_true h1,decide_eq_true h8,<- e] at this
         exact this
     . rename_i z
       have:=q H1 S1
       rw [decide_eq_false (show ¬ 1 <= ds.length by omega),Bool.false_and,Bool.false_and] at this
       exact this
 . walk_at "gg"
   refine zfo (by simp) (fun tp H1 _ S1 e1=>?_)
   walk_at "gg"
   refine znQ (S1 _ _ hp) e1 ?_
   walk_at "gg"
   exact q H1 S1
theorem zjc {a b : Rat} (h : zay a b) : zez a b = true:=by
 obtain ⟨h1,h2,h3,h4,h5,h6,h7⟩:=h
 have k2 : ¬ (4 : Rat) < a:=Rat.not_lt.mpr h2
 have k4 : ¬ b < 0:=Rat.not_lt.mpr h4
 have k5 : ¬ (1 : Rat) < b:=Rat.not_lt.mpr h5
 have k7 : ¬ a + b < 1:=Rat.not_lt.mpr h7
 have k3 : (a.den : Int) <= 8:=by omega
 have k6 : (b.den : Int) <= 12:=by omega
 simp [zez,zlj,zkZ,h1,k2,k3,k4,k5,k6,k7]
theorem ztE {xs : List Rat} (h : ∀ x ∈ xs,zaV x) : (xs.map N).all phD = true:=by
 rw [List.all_eq_true]
 intro d hd
 obtain ⟨x,hx,rfl⟩:=List.mem_map.mp hd
 rw [zqn]
 exact (h x hx).is
theorem zq4 {xs : List Rat} (h : ∀ x ∈ xs,zaV x) : ∀ e ∈ xs.map N,∀ x,e = N x -> Bdr 4000 x:=by
 intro e he x hx
 obtain ⟨y,hy,rfl⟩:=List.mem_map.mp he
 rw [<- zr1 hx]
 exact (h y hy).bdr.mono (by decide)
def zum (K : PySem.W.Frag) (H : Hp) (v : V) : Prop:=(∃ d,Is K H v d /\ zhj d = true) \/ (∃ x y : Rat,Is K H v (R x y) /\ Bdr 1000 x /\ Bdr 1000 y /\ zez x y = false)
theorem zk1 {K : PySem.W.Frag} {H : Hp} {Q : VK} {E : XK} {v : V} (h : zum K H v) (q : ∀ H',zag H H' -> Q (.bl false) H') : zdU K [v] H Q E:=by
 rcases h with ⟨d,i,e⟩ | ⟨x,y,i,b1,b2,e⟩
 . exact zlr i e q
 . exact zff i b1 b2 (by rw [e]; exact q)
def zef (K : PySem.W.Frag) (a : Ad) : Sp:=fun vs H Q E=>∃ x0 x1,vs = [x0,x1] /\ ((zum K H x0 /\ ∀ H',zag H H' -> E (.ref a.C_NoRule) none H') \/ (∃ (ra rb : Rat),Is K H x0 (R ra rb) /\ zay ra rb /\ znZ K H x1 /\ ∀ H',zag H H' -> E (.ref a.C_NoSwarm) none H') \/ (∃ (ra rb : Rat) (xs : List Rat),Is K H x0 (R ra rb) /\ zay ra rb /\ (Is K H x1 (LN xs) \/ Is K H x1 (TN xs)) /\ 1 <= xs.length /\ xs.length <= 8 /\ (∀ x ∈ xs,zaV x) /\ ∀ v H',zag H H' -> Is K H' v (SwD ra rb xs) -> Q v H'))
theorem zke {K : PySem.W.Frag} {a : Ad} {H : Hp} {Q : VK} {E : XK} {ra rb : Rat} {v w : V} (h1 : Is K H v (R ra rb)) (ok : zay ra rb) (h : znZ K H w) (q : ∀ H',zag H H' -> E (.ref a.C_NoSwarm) none H') : zef K a [v,w] H Q E:=⟨_,_,rfl,.inr (.inl ⟨ra,rb,h1,ok,h,q⟩)⟩
theorem zgV {K : PySem.W.Frag} {a : Ad} {H : Hp} {Q : VK} {E : XK} {ra rb : Rat} {xs : List Rat} {v w : V} (h1 : Is K H v (R ra rb)) (ok : zay ra rb) (h2 : Is K H w (LN xs) \/ Is K H w (TN xs)) (h3 : 1 <= xs.length) (h4 : xs.length <= 8) (h5 : ∀ x ∈ xs,zaV x) (q : ∀ v H',zag H H' -> Is K H' v (SwD ra rb xs) -> Q v H') : zef K a [v,w] H Q E:=⟨_,_,rfl,.inr (.inr ⟨ra,rb,xs,h1,ok,h2,h3,h4,h5,q⟩)⟩
set_option maxHeartbeats 4000000 in
theorem zg0 (T : Txt K mg a) : zaM P w K mg base (CX1 P w) 5 a.swarm_of a.fd_swarm_of zdz (zef K a):=by
 refine T.d_swarm_of.F.ok1 zkC ?_ ?_
 walk_at "b2"
 refine ⟨_,(zac (za9 (zbm (zbe (pcl (zmH T) hr T.d_is_rule (zaa (pv 0) zab)))) (zad (zds T.x_NoRule rfl rfl T.g_NoRule zgz (zaa zba zab))) zaw)
     (zac (za9 (zbm (zbe (pcl (zix T) hr T.d_are_phases (zaa (pv 1) zab)))) (zad (zds T.x_NoSwarm rfl rfl T.g_NoSwarm zgz (zaa zba zab))) zaw)
     (zad (zak (za8 (zaa (pv 0) (zaa (za2 (show zaq _ (.type "tuple") (zb0 K) from zch) rfl T.z_tuple zbP (zaa (pv 1) zab)) zab))))))),?_⟩
 walk_at "cl"
 rw [show start zfd [x0,x1] = [some x0,some x1] from rfl]
 rcases h with ⟨hn,qe⟩ | ⟨ra,rb,hr,ok,hn,qe⟩ | ⟨ra,rb,xs,hr,ok,hp,h1,h8,hph,q⟩
 . walk_at "gg"
   refine zk1 hn (fun H1 S1=>?_)
   walk_at "gg"
   exact ⟨by simp; decide,qe H1 S1⟩
 . walk_at "gg"
   refine zff hr (ok.ba.mono (by decide)) (ok.bb.mono (by decide)) (fun H1 S1=>?_)
   rw [zjc ok]
   walk_at "gg"
   refine zhN (hn.by S1) (fun H2 S2=>?_)
   walk_at "gg"
   exact ⟨by simp; decide,qe H2 (S1.trans S2)⟩
 . walk_at "gg"
   refine zff hr (ok.ba.mono (by decide)) (ok.bb.mono (by decide)) (fun H1 S1=>?_)
   rw [zjc ok]
   walk_at "gg"
   have hp1 : Is K H1 x1 (LN xs) \/ Is K H1 x1 (TN xs):=hp.imp (fun z=>z.by S1) (fun z=>z.by S1)
   refine ziI (ds:=xs.map N) hp1 (zq4 hph) (fun H2 S2=>?_)
   rw [ztE hph,List.length_map,decide_eq_true h1,decide_eq_true h8,show (true && true && true) = true from rfl]
   have hp2 : Is K H2 x1 (LN xs) \/ Is K H2 x1 (TN xs):=hp1.imp (fun z=>z.by S2) (fun z=>z.by S2)
   have hr2 : Is K H2 x0 (R ra rb):=(hr.by S1).by S2
   walk_at "gg"
   rcases hp2 with z | z
   . refine zfB z (fun w H3 S3 i3=>?_)
     walk_at "gg"
     refine zbV (ds:=[R ra rb,TN xs]) (by simp) (.cons (hr2.by S3) (.cons i3 .nil)) (fun v H4 S4 i4=>?_)
     exact q v H4 (S1.trans (S2.trans (S3.trans S4))) i4
   . refine zmx z ?_
     walk_at "gg"
     refine zbV (ds:=[R ra rb,TN xs]) (by simp) (.cons hr2 (.cons z .nil)) (fun v H4 S4 i4=>?_)
     exact q v H4 (S1.trans (S2.trans S4)) i4
def zgY (K : PySem.W.Frag) : Sp:=fun vs H Q _=>∃ x0,vs = [x0] /\ ∃ xs : List Rat,(Is K H x0 (LN xs) \/ Is K H x0 (TN xs)) /\ 1 <= xs.length /\ (∀ i,Bdr 4000 (xs.getD i 0)) /\ ∀ v,Is K H v (N (zbv xs)) -> Q v H
theorem zlg {K : PySem.W.Frag} {H : Hp} {Q : VK} {E : XK} {xs : List Rat} {v : V} (h : Is K H v (LN xs) \/ Is K H v (TN xs)) (h1 : 1 <= xs.length) (b : ∀ i,Bdr 4000 (xs.getD i 0)) (q : ∀ v,Is K H v (N (zbv xs)) -> Q v H) : zgY K [v] H Q E:=⟨_,rfl,xs,h,h1,b,q⟩
set_option maxHeartbeats 4000000 in
theorem zlf (T : Txt K mg a) : zaM P w K mg base CX0 2 a.greatest a.fd_greatest zdM (zgY K):=by
 refine T.d_greatest.F.ok zc1 ?_ ?_
 walk_at "b1"
 refine ⟨_,(zac (pst 1 zc1.nd (pix (pv 0)))
     (zac (zd2 PassesOwn.never rfl (zpz (pv 0)) (zaE (i:=2) zc1.nd rfl (Or.inl rfl)) (zad (za9 (zbe (pcl (zcu T) hr T.d_less (zaa (pv 1) (zaa (pv 2) zab)))) (zad (pst 1 zc1.nd (pv 2))) zaw)))
     (zad (zak (pv 1))))),?_⟩
 walk_at "cl"
 rw [show start zhZ [x0] = [some x0,none,none] from rfl]
 obtain ⟨xs,hx,h1,bx,q⟩:=h
 rcases hx with hx | hx
 . obtain ⟨ap,us,rfl,hs,tu⟩:=zbk.mp hx
   have hul : us.length = xs.length:=by rw [tu.length,List.length_map]
   walk_at "gg"
   refine zhr hx (by decide) (by omega) (fun v0 i0=>?_)
   have i0 : Is K H v0 (N (mx (xs.getD 0 0) [])):=i0
   walk_at "gg"
   refine .inl (zgJ hs (fun i σ H'=>∃ o v,σ = [some (.ref ap),some v,o] /\ H' = H /\ Is K H v (N (mx (xs.getD 0 0) (xs.take i)))) ⟨_,v0,rfl,rfl,by rw [List.take_zero]; exact i0⟩ (fun i σ H' _ h=>by obtain ⟨_,_,_,rfl,_⟩:=h; exact hs) ?_ ?_)
   . rintro i x σ H' hx' ⟨o,v,rfl,rfl,iv⟩
     obtain ⟨hi,ix⟩:=zf5 tu hx'
     have b1:=zpU bx h1 i
     have b2:=bx i
     walk_at "gg"
     . rename_i z
       exact ⟨_,x,rfl,rfl,by rw [zeN hi,zhw,if_pos z]; exact ix⟩
     . rename_i z
       exact ⟨_,v,rfl,rfl,by rw [zeN hi,zhw,if_neg z]; exact iv⟩
   . rintro σ H' ⟨o,v,rfl,rfl,iv⟩
     rw [hul,List.take_length] at iv
     walk_at "gg"
     exact q v iv
 . obtain ⟨ap,us,rfl,hs,tu⟩:=zaY.mp hx
   have hul : us.length = xs.length:=by rw [tu.length,List.length_map]
   walk_at "gg"
   refine zqY hx (by decide) (by omega) (fun v0 i0=>?_)
   have i0 : Is K H v0 (N (mx (xs.getD 0 0) [])):=i0
   walk_at "gg"
   refine .inr (znG hs (fun i σ H'=>∃ o v,σ = [some (.ref ap),some v,o] /\ H' = H /\ Is K H v (N (mx (xs.getD 0 0) (xs.take i)))) ⟨_,v0,rfl,rfl,by rw [List.take_zero]; exact i0⟩ (fun i σ H' _ h=>by obtain ⟨_,_,_,rfl,_⟩:=h; exact hs) ?_ ?_)
   . rintro i x σ H' hx' ⟨o,v,rfl,rfl,iv⟩
     obtain ⟨hi,ix⟩:=zf5 tu hx'
     have b1:=zpU bx h1 i
     have b2:=bx i
     walk_at "gg"
     . rename_i z
       exact ⟨_,x,rfl,rfl,by rw [zeN hi,zhw,if_pos z]; exact ix⟩
     . rename_i z
       exact ⟨_,v,rfl,rfl,by rw [zeN hi,zhw,if_neg z]; exact iv⟩
   . rintro σ H' ⟨o,v,rfl,rfl,iv⟩
     rw [hul,List.take_length] at iv
     walk_at "gg"
     exact q v iv
def ze4 (K : PySem.W.Frag) : Sp:=fun vs H Q _=>∃ x0 x1,vs = [x0,x1] /\ ∃ (lw : Addr) (left : List Nat) (ps : List Rat),x0 = .ref lw /\ H lw = some (.lst (vz left)) /\ Is K H x1 (LN ps) /\ (∀ w ∈ left,w < ps.length) /\ left.length <= 900 /\ (∀ i,Bdr 3000 (ps.getD i 0)) /\ ∀ v H',zag H H' -> Is K H' v (TW (zah ps left)) -> Q v H'
theorem zeY {K : PySem.W.Frag} {H : Hp} {Q : VK} {E : XK} {lw : Addr} {left : List Nat} {ps : List Rat} {v : V} (e : H lw = some (.lst (vz left))) (h : Is K H v (LN ps)) (hw : ∀ w ∈ left,w < ps.length) (hl : left.length <= 900) (b : ∀ i,Bdr 3000 (ps.getD i 0)) (q : ∀ v H',zag H H' -> Is K H' v (TW (zah ps left)) -> Q v H') : ze4 K [.ref lw,v] H Q E:=⟨_,_,rfl,lw,left,ps,rfl,e,h,hw,hl,b,q⟩
theorem znX (ps : List Rat) (l : List Nat) : (zah ps l).length <= l.length:=List.length_filter_le _ _
set_option maxHeartbeats 4000000 in
theorem zeV (T : Txt K mg a) : zaM P w K mg base CX0 2 a.at_the_end a.fd_at_the_end zcs (ze4 K):=by
 refine T.d_at_the_end.F.ok ziL ?_ ?_
 walk_at "b2"
 refine ⟨_,(zad (zak (za2 (show zaq _ (.type "tuple") (zb0 K) from zch) rfl T.z_tuple zbP (zaa (zbT rfl (zbl.by (N':=["worm","phases"]) (src:=[none,some 1]) rfl (show zbc _ (zae zcy).names zcA ["worm","phases"] [none,some 1] = true from by decide +kernel)) (zc5 (pv 0)) (fun _ _ _ _ _=>(zaE (i:=0) (show (["worm","phases"] : List Str).Nodup from by decide) rfl (Or.inl rfl))) (fun _ _ _ _ _=>(znm (zbm (zbe (pcl (zcu (K:=K) (mg:=mg) (a:=a) T) hr T.d_less (zaa (zd8 (show IxR _ (rIx K) from zcl) (pv 1) (pv 0) (fun _ _=>rfl)) (zaa (zaX (v:=.ref a.k_ONE) rfl T.c_ONE rfl) zab))))))) (fun _ _ _ _ _=>(pv 0))) zab)))),?_⟩
 walk_at "cl"
 rw [show start zcA [x0,x1] = [some x0,some x1] from rfl]
 obtain ⟨lw,left,ps,rfl,e1,hx,hw,hl,bp,q⟩:=h
 walk_at "gg"
 refine zdG (.of e1) (fun D i ys σ' H'=>(∃ o,σ' = [o,some x1]) /\ H D = none /\ zag H H' /\ H' D = some (.lst (vz (zah ps (left.take i))))) (fun D H' n s e=>⟨⟨_,rfl⟩,n,s,e⟩) (fun D i ys σ' H' h=>h.2.2.1.seq (.of e1)) ?_ ?_
 . rintro D i x ys σ' H1 hx' ⟨⟨o,rfl⟩,n,S1,e2⟩
   obtain ⟨hi,rfl⟩:=zlT hx'
   have hx1:=hx.by S1
   have hlt:=hw _ (List.getElem_mem hi)
   have bw:=bp left[i]
   have hle:=znX ps (left.take i)
   have htl : (left.take i).length <= 900:=by rw [List.length_take]; omega
   walk_at "gg"
   refine zhr hx1 (by omega) (by omega) (fun v iv=>?_)
   rw [Int.toNat_natCast] at iv
   generalize hww : left[i] = ww at *
   walk_at "gg"
   . rename_i z
     refine zgl e2 (by rw [zel]; omega) (fun H6 E6 e6=>⟨⟨_,rfl⟩,n,S1.grow n E6,?_⟩)
     rw [zeq hi,hww,zpe z,zm0]
     exact e6
   . rename_i z
     refine ⟨[],⟨_,rfl⟩,n,S1,?_⟩
     rw [zeq hi,hww,znV (by first | exact z | exact Classical.not_not.mp z)]
     exact e2
 . rintro D ys σ' H1 ⟨_,n,S1,e2⟩
   rw [zel,List.take_length] at e2
   walk_at "gg"
   refine zgB (.of e2) (fun l H2 n2 S2 e3=>?_)
   exact q _ H2 (S1.trans S2) (zsk.mpr ⟨l,rfl,.of e3⟩)
def zmP (K : PySem.W.Frag) : Sp:=fun vs H Q _=>∃ x0,vs = [x0] /\ ∃ (a b : Rat) (xs : List Rat) (m : Nat),Is K H x0 (SwD a b xs) /\ Bdr 10 a /\ Bdr 10 b /\ 1 <= xs.length /\ xs.length <= 8 /\ Cm m xs /\ m + 2 + 21 * xs.length <= 2900 /\ ∀ v H',zag H H' -> Is K H' v (GD a b xs) -> Q v H'
theorem zrJ {K : PySem.W.Frag} {H : Hp} {Q : VK} {E : XK} {a b : Rat} {xs : List Rat} {m : Nat} {v : V} (h : Is K H v (SwD a b xs)) (ba : Bdr 10 a) (bb : Bdr 10 b) (h1 : 1 <= xs.length) (h8 : xs.length <= 8) (c : Cm m xs) (hm : m + 2 + 21 * xs.length <= 2900) (q : ∀ v H',zag H H' -> Is K H' v (GD a b xs) -> Q v H') : zmP K [v] H Q E:=⟨_,rfl,a,b,xs,m,h,ba,bb,h1,h8,c,hm,q⟩
structure zsS (K : PySem.W.Frag) (a b : Rat) (xs : List Rat) (m : Nat) (H H' : Hp) (vw : V) (lp lv ll : Addr) (left : List Nat) (ps : List Rat) (done : List (List Nat)) (f : Nat) (pv wv : List V) (vwave : V) : Prop where
 same : zag H H'
 hp : H lp = none
 hv : H lv = none
 iw : Is K H' vw (N (1 - zbv xs))
 npv : lp ≠ lv
 nlp : ll ≠ lp
 nlv : ll ≠ lv
 ep : H' lp = some (.lst pv)
 tp : IsAll K H' pv (ps.map N)
 el : H' ll = some (.lst (vz left))
 ev : H' lv = some (.lst wv)
 tv : IsAll K H' wv (done.map TW)
 iv : Is K H' vwave (TW (zah ps left))
 nd : left.Nodup
 lt : ∀ w ∈ left,w < xs.length
 len : ps.length = xs.length
 fl : left.length <= f
 dl : done.length + left.length <= xs.length
 cm : Cm (m + 2 + 21 * (xs.length - left.length)) ps
 w1 : done ++ (zau a b f ps left).1 = zbj a b xs
 w2 : (zau a b f ps left).2 = (zdo a b xs).2
def zmT (K : PySem.W.Frag) (a b : Rat) (xs : List Rat) (m : Nat) (H : Hp) (x0 vw : V) (lp lv : Addr) (k : Nat) (σ' : L2.St) (H' : Hp) : Prop:=∃ (ll : Addr) (left : List Nat) (ps : List Rat) (done : List (List Nat)) (f : Nat) (pv wv : List V) (vwave : V) (o6 o7 : Option V),σ' = [some x0,some vw,some (.ref lp),some (.ref ll),some (.ref lv),some vwave,o6,o7,none] /\ k = left.length /\ zsS K a b xs m H H' vw lp lv ll left ps done f pv wv vwave
theorem zci {H : Hp} {p q : Addr} {o : HO} (h : H p = none) (k : H q = some o) : p ≠ q:=fun e=>by rw [e,k] at h; cases h
theorem zoq {α β γ : Type} (f : α -> β) (g : β -> γ) (l : List α) : (!((l.map f).map g).isEmpty) = !l.isEmpty:=by cases l <;> rfl
theorem zoC {α : Type} {l : List α} (h : l ≠ []) : (!l.isEmpty) = true:=by cases l with
 | nil=>exact absurd rfl h
 | cons x l=>rfl
set_option maxHeartbeats 4000000 in
theorem zqI (T : Txt K mg a) : zaM P w K mg base CX0 4 a.glow a.fd_glow zkx (zmP K):=by
 refine T.d_glow.F.ok zb1 ?_ ?_
 walk_at "b1"
 refine ⟨_,(zac (pst 1 zb1.nd (pcl (zpI T) hr T.d_minus (zaa (zaX (v:=.ref a.k_ONE) rfl T.c_ONE rfl) (zaa (pcl (zlf T) hr T.d_greatest (zaa (pix (pv 0)) zab)) zab))))
     (zac (zio (i:=2) zb1.nd rfl (Or.inl rfl) rfl (zbl.by (N':=["phase","wait"]) (src:=[none,some 1]) rfl (show zbc _ (zae zgF).names zhP ["phase","wait"] [none,some 1] = true from by decide +kernel)) (zjX (pix (pv 0))) (fun _ _ _ _ _=>(zaE (i:=0) (show (["phase","wait"] : List Str).Nodup from by decide) rfl (Or.inl rfl))) (fun _ _ _ _ _=>zbQ) (fun _ _ _ _ _=>(pcl (zeF (K:=K) (mg:=mg) (a:=a) T) hr T.d_plus (zaa (pv 0) (zaa (pv 1) zab)))))
     (zac (pst 3 zb1.nd (zjU rfl rfl T.z_list rfl T.z_range (zaa (zao (show zaq _ (.builtin "len") (zdd K) from zaZ) rfl T.z_len zb3 (zaa (pv 2) zab)) zab)))
     (zac (pst 4 zb1.nd (zbo zab))
     (zac (pst 5 zb1.nd (pcl (zeV T) hr T.d_at_the_end (zaa (pv 3) (zaa (pv 2) zab))))
     (zac (zh6 PassesOwn.never (zmi (pv 5)) (zac (zhm (zeZ PySem.F.plainAttrs_list PySem.F.slot_list_append PySem.F.type_list_append zeG (pv 4) (zaa (pv 5) zab)))
     (zac (pst 3 zb1.nd (zbT rfl (zbl.by (N':=["worm","wave"]) (src:=[none,some 5]) rfl (show zbc _ (zae zgF).names zhP ["worm","wave"] [none,some 5] = true from by decide +kernel)) (zc5 (pv 3)) (fun _ _ _ _ _=>(zaE (i:=0) (show (["worm","wave"] : List Str).Nodup from by decide) rfl (Or.inl rfl))) (fun _ _ _ _ _=>(znm (zaC (show OpR _ (compareOp .NotIn) (rIn K true) from zoh) (pv 0) (pv 1) (by with_unfolding_all rfl)))) (fun _ _ _ _ _=>(pv 0))))
     (zac (pst 6 zb1.nd (pcl (znF T) hr T.d_pushes (zaa (pix (pv 0)) (zaa (zao (show zaq _ (.builtin "len") (zdd K) from zaZ) rfl T.z_len zb3 (zaa (pv 5) zab)) zab))))
     (zac (zd2 PassesOwn.never rfl (zc5 (pv 3)) (zaE (i:=7) zb1.nd rfl (Or.inl rfl)) (zad (zjP (pcl (zkz T) hr T.d_pushed_by (zaa (pv 6) (zaa (zd8 zcl (pv 2) (pv 7) (fun _ _=>rfl)) zab))) (zku (pv 2) (pv 7) zfY))))
     (zad (pst 5 zb1.nd (pcl (zeV T) hr T.d_at_the_end (zaa (pv 3) (zaa (pv 2) zab))))))))))
     (zac (zio (i:=8) zb1.nd rfl (Or.inl rfl) rfl (zbl.by (N':=["worm","phase","left"]) (src:=[none,none,some 3]) rfl (show zbc _ (zae zgF).names zhP ["worm","phase","left"] [none,none,some 3] = true from by decide +kernel)) (zpn rfl T.z_enumerate (zaa (pv 2) zab)) (fun _ _ _ _ _=>by exact (show PG _ _ (ztB K 2 _) from zte (n:=2) rfl (zkH (zaE (i:=0) (show (["worm","phase","left"] : List Str).Nodup from by decide) rfl (Or.inl rfl)) (zkH (zaE (i:=1) (show (["worm","phase","left"] : List Str).Nodup from by decide) rfl (Or.inl rfl)) zrL)))) (fun _ _ _ _ _=>zbQ) (fun _ _ _ _ _=>(zhA (zaC (show OpR _ (compareOp .In) (rIn K false) from zsI) (pv 0) (pv 2) (by with_unfolding_all rfl)) (pv 1) (zaX (v:=.ref a.k_NOUGHT) rfl T.c_NOUGHT rfl))))
     (zad (zak (za8 (zaa (pv 1) (zaa (za2 (show zaq _ (.type "tuple") (zb0 K) from zch) rfl T.z_tuple zbP (zaa (pv 4) zab)) (zaa (za8 (zaa (pix (pv 0)) (zaa (za2 (show zaq _ (.type "tuple") (zb0 K) from zch) rfl T.z_tuple zbP (zaa (pv 8) zab)) zab))) zab))))))))))))),?_⟩
 walk_at "cl"
 rw [show start zhP [x0] = [some x0,none,none,none,none,none,none,none,none] from rfl]
 obtain ⟨ra,rb,xs,m,hw,ba,bb,h1,h8,cm,hm,q⟩:=h
 have bx : ∀ i,Bdr 4000 (xs.getD i 0):=fun i=>(cm.get i).mono (by omega)
 have bm : Bdr 2900 (zbv xs):=(cm.bdr (zbh h1)).mono (by omega)
 walk_at "gg"
 refine zaI (j:=1) hw rfl (fun vp ip=>?_)
 walk_at "gg"
 refine zlg (.inr ip) h1 bx (fun vm im=>?_)
 walk_at "gg"
 rename_i vw H1 S1 iw
 refine zaI (j:=1) (hw.by S1) rfl (fun vp1 ip1=>?_)
 obtain ⟨ap,us,rfl,hu,tu⟩:=zaY.mp ip1
 refine zf6 (o0:=none) (tl:=[some vw]) hu rfl (fun j y H'=>Is K H' y (N ((za5 xs).getD j 0))) ?_ ?_
 . intro D i x ys o H2 hx inv
   obtain ⟨hi,ix⟩:=zf5 tu hx
   have S2:=inv.same
   have ix2:=ix.by S2
   have iw2:=iw.by S2
   have bi:=bx i
   have bw : Bdr 2902 (1 - zbv xs):=(Bdr.one.sub bm).mono (by decide)
   walk_at "gg"
   rename_i v3 H3 S3 i3
   exact zbA inv (by omega) zeR ⟨_,rfl⟩ S3 (by rw [zn8 hi]; exact i3)
 . intro lp ys H2 hnp S2 hD hl hr
   have hl' : ys.length = (za5 xs).length:=by rw [hl,tu.length,List.length_map,za1]
   have tp : IsAll K H2 ys ((za5 xs).map N):=zeB hl' hr
   have iw2:=iw.by S2
   have T2:=S1.trans S2
   have hpH : H lp = none:=zji S1 hnp
   clear hl hr hu tu ip1 ip im iw S1 S2 hnp
   walk_at "gg"
   refine zp2 (zhM hD tp) ?_
   rw [za1]
   walk_at "gg"
   refine znH (n:=xs.length) (by omega) (fun ll H3 n3 S3 e3=>?_)
   walk_at "gg"
   refine zcR (by simp) (fun lv H4 n4 S4 e4=>?_)
   walk_at "gg"
   have hD4:=S4 _ _ (S3 _ _ hD)
   have tp4 : IsAll K H4 ys ((za5 xs).map N):=IsAll.same (S3.trans S4) _ _ tp
   have cm2 : Cm (m + 2) (za5 xs):=(Cm.rise (h:=0) (cm.zero_mem (ys:=0 :: xs) fun y hy=>by rcases List.mem_cons.mp hy with rfl | hy; (exact .inr rfl); exact .inl hy) (zbh h1)).zero_mem fun y hy=>.inl (List.mem_cons_of_mem _ hy)
   have b3 : ∀ i,Bdr 3000 ((za5 xs).getD i 0):=fun i=>(cm2.get i).mono (by omega)
   refine zeY (S4 _ _ e3) (zhM hD4 tp4) (fun w hw'=>by rw [za1]; exact List.mem_range.mp hw') (by rw [List.length_range]; omega) b3 (fun vwave H5 S5 i5=>?_)
   have T5:=T2.trans (S3.trans (S4.trans S5))
   have hvH : H lv = none:=zji (T2.trans S3) n4
   have npv : lp ≠ lv:=(zci n4 (S3 _ _ hD)).symm
   have nlp : ll ≠ lp:=zci n3 hD
   have nlv : ll ≠ lv:=(zci n4 e3).symm
   have G0 : zmT K ra rb xs m H x0 vw lp lv xs.length [some x0,some vw,some (.ref lp),some (.ref ll),some (.ref lv),some vwave,none,none,none] H5:=by
     refine ⟨ll,List.range xs.length,za5 xs,[],xs.length,ys,[],vwave,none,none,rfl,by rw [List.length_range],T5,hpH,hvH,iw2.by (S3.trans (S4.trans S5)),npv,nlp,nlv,S5 _ _ hD4,IsAll.same S5 _ _ tp4,S5 _ _ (S4 _ _ e3),S5 _ _ e4,.nil,i5,List.nodup_range,fun w hw'=>List.mem_range.mp hw',za1 xs,by rw [List.length_range]; exact Nat.le_refl _,by rw [List.length_range]; simp,cm2.mono (by omega),?_,rfl⟩
     rw [List.nil_append]; rfl
   clear T5 S5 S4 S3 T2 hD hD4 tp tp4 b3 cm2 n3 n4 e3 e4 iw2 i5 hl'
   walk_at "gg"
   refine zn6 (zmT K ra rb xs m H x0 vw lp lv) _ G0 ?_
   clear G0 npv nlp nlv
   rintro k σ' H6 ⟨ll,left,ps,done,f,pv,wv,vwave,o6,o7,rfl,hk,G⟩
   have bp : ∀ i,Bdr 3000 (ps.getD i 0):=fun i=>(G.cm.get i).mono (by have:=G.dl; omega)
   walk_at "gg"
   refine zq8 (show Is K H6 vwave (.tuple (((zah ps left).map fun (w : Nat)=>(w : Int)).map PyData.int)) from G.iv) ?_
   rw [zoq]
   by_cases he : zah ps left = []
   . rw [show (!(zah ps left).isEmpty) = false by rw [he]; rfl]
     refine zoK ?_
     have w1:=G.w1
     have w2:=G.w2
     rw [zbN he] at w1 w2
     rw [List.append_nil] at w1
     have eps : ps = (zdo ra rb xs).2.2:=congrArg Prod.snd w2
     have elf : left = (zdo ra rb xs).2.1:=congrArg Prod.fst w2
     have hph : zdc left ps = zbf ra rb xs:=by rw [zbf,<- eps,<- elf]
     walk_at "gg"
     refine zpA (.of G.ep) (o0:=none) (o0':=none) (tl:=[some (.ref ll)]) rfl (fun j y H'=>Is K H' y (N ((zdc left ps).getD j 0))) zeR ?_ ?_
     . intro D i x zs o1 o2 H7 c hx inv hc
       obtain ⟨hi,ix⟩:=zf5 G.tp hx
       have S7:=inv.2.2.1
       refine zre (.of hc) rfl ?_
       walk_at "gg"
       refine zqD (SqL.of (S7 _ _ G.el)) ?_
       walk_at "gg"
       . rename_i z
         exact ziW inv (by have:=G.len; omega) zeR ⟨_,_,rfl⟩ (zag.refl _) (by rw [zfI hi,if_pos z]; exact ix.by S7)
       . rename_i z
         exact ziW inv (by have:=G.len; omega) zeR ⟨_,_,rfl⟩ (zag.refl _) (by rw [zfI hi,if_neg z]; exact zgy 0 (T.t_NOUGHT _) rfl rfl)
     . intro D zs H7 hn S7 hD hl hr
       have hpl:=G.tp.length
       rw [List.length_map] at hpl
       have tz : IsAll K H7 zs ((zdc left ps).map N):=zeB (by rw [hl,zlk,hpl]) hr
       rw [hph] at tz
       have tv:=IsAll.same S7 _ _ G.tv
       have ev:=S7 _ _ G.ev
       have iw7:=G.iw.by S7
       have T7:=G.same.trans S7
       rw [w1] at tv
       walk_at "gg"
       refine zfB (zbk.mpr ⟨lv,wv,rfl,.of ev,tv⟩) (fun v8 H8 S8 i8=>?_)
       walk_at "gg"
       refine zaI (j:=0) (hw.by (T7.trans S8)) rfl (fun v9 i9=>?_)
       walk_at "gg"
       refine zfB (zhM (S8 _ _ hD) (IsAll.same S8 _ _ tz)) (fun v10 H10 S10 i10=>?_)
       walk_at "gg"
       refine zbV (ds:=[R ra rb,TN (zbf ra rb xs)]) (by simp) (.cons (i9.by S10) (.cons i10 .nil)) (fun v11 H11 S11 i11=>?_)
       walk_at "gg"
       refine zbV (ds:=[N (1 - zbv xs),TWs (zbj ra rb xs),SwD ra rb (zbf ra rb xs)]) (by simp) (.cons (iw7.by (S8.trans (S10.trans S11))) (.cons (i8.by (S10.trans S11)) (.cons i11 .nil))) (fun v12 H12 S12 i12=>?_)
       exact q v12 H12 (T7.trans (S8.trans (S10.trans (S11.trans S12)))) i12
   . rw [zoC he]
     refine zoX ?_
     refine zoV ?_
     have hwl:=G.tv.length
     rw [List.length_map] at hwl
     have hdl:=G.dl
     have hlen:=ziu ps left
     have hpos : 0 < (zah ps left).length:=List.length_pos_iff.mpr he
     walk_at "gg"
     refine zl9 (SqL.of G.ev) ?_
     walk_at "gg"
     refine zgs G.ev (by omega) (fun H7 E7 e7=>?_)
     have K7 : zaO H6 H7:=E7.keep G.ev
     have S7 : zag H H7:=G.same.grow G.hv E7
     have el7:=E7 _ _ G.nlv G.el
     have ep7:=E7 _ _ G.npv G.ep
     have tp7:=IsAll.keep K7 _ _ (zbW _) G.tp
     have iv7:=G.iv.byK K7 (zoy _)
     have iw7:=G.iw.byN K7
     have tv7 : IsAll K H7 (wv ++ [vwave]) ((done ++ [zah ps left]).map TW):=by
       rw [List.map_append]
       exact (IsAll.keep K7 _ _ (zeD _) G.tv).snoc iv7
     obtain ⟨aw,rfl,hsw⟩:=zsk.mp iv7
     walk_at "gg"
     refine zdG (.of el7) (fun D i ys σ' H'=>(∃ o,σ' = [o,some (.ref aw)]) /\ H7 D = none /\ zag H7 H' /\ H' D = some (.lst (vz (zat (left.take i) (zah ps left))))) (fun D H' n s e=>⟨⟨_,rfl⟩,n,s,e⟩) (fun D i ys σ' H' h=>h.2.2.1.seq (.of el7)) ?_ ?_
     . rintro D i x ys σ' H8 hx' ⟨⟨o,rfl⟩,n,S8,e8⟩
       obtain ⟨hi,rfl⟩:=zlT hx'
       have hle : (zat (left.take i) (zah ps left)).length <= (left.take i).length:=List.length_filter_le _ _
       rw [List.length_take] at hle
       walk_at "gg"
       refine zmh (S8.sqT hsw) ?_
       generalize hww : left[i] = ww at *
       walk_at "gg"
       . rename_i z
         refine zgl e8 (by rw [zel]; omega) (fun H9 E9 e9=>⟨⟨_,rfl⟩,n,S8.grow n E9,?_⟩)
         rw [zeq hi,hww,znR z,zm0]
         exact e9
       . rename_i z
         refine ⟨[],⟨_,rfl⟩,n,S8,?_⟩
         rw [zeq hi,hww,zlZ (by first | exact z | exact Classical.not_not.mp z)]
         exact e8
     . rintro D ys σ' H8 ⟨_,n8,S8,e8⟩
       rw [zel,List.take_length] at e8
       have nD1 : D ≠ lp:=zci n8 ep7
       have nD2 : D ≠ lv:=zci n8 e7
       have T8:=S7.trans S8
       have iv8:=iv7.by S8
       walk_at "gg"
       refine zaI (j:=0) (hw.by T8) rfl (fun vr ir=>?_)
       walk_at "gg"
       refine zoB iv8 ?_
       walk_at "gg"
       refine znT ir ba bb (by omega) (by omega) (fun vpush H9 S9 ipush=>?_)
       rw [Int.toNat_natCast] at ipush
       have bf : Bdr 700 (ra ^ (zah ps left).length):=(ba.pow _).mono (by omega)
       have bg : Bdr 1500 (shf ra rb (zah ps left).length):=(ba.shf bb _).mono (by omega)
       have T9:=S8.trans S9
       have ep9:=T9 _ _ ep7
       have tp9 : IsAll K H9 pv (ps.map N):=IsAll.same T9 _ _ tp7
       have e9:=S9 _ _ e8
       have ev9:=T9 _ _ e7
       have ndl:=zb2 (wave:=zah ps left) G.nd
       have ltl:=zcD (wave:=zah ps left) G.lt
       generalize hL : zat left (zah ps left) = left' at *
       walk_at "gg"
       refine zgJ (.of e9) (fun i σ'' H''=>∃ o pv',σ'' = [some x0,some vw,some (.ref lp),some (.ref D),some (.ref lv),some (.ref aw),some vpush,o,none] /\ Exc lp H9 H'' /\ H'' lp = some (.lst pv') /\ IsAll K H'' pv' ((zaN (ra ^ (zah ps left).length) (shf ra rb (zah ps left).length) ps (left'.take i)).map N)) ⟨_,pv,rfl,Exc.refl _ _,ep9,tp9⟩ (fun i σ'' H'' _ ⟨_,_,_,e,_⟩=>.of (e _ _ nD1 e9)) ?_ ?_
       . rintro i x σ'' H10 hx' ⟨o,pv',rfl,E10,e10,t10⟩
         obtain ⟨hi,rfl⟩:=zlT hx'
         have K10 : zaO H9 H10:=E10.keep ep9
         have hlt:=ltl _ (List.getElem_mem hi)
         have hpl:=za6 (ra ^ (zah ps left).length) (shf ra rb (zah ps left).length) (left'.take i) ps
         have hps:=G.len
         have bq : Bdr 3000 ((zaN (ra ^ (zah ps left).length) (shf ra rb (zah ps left).length) ps (left'.take i)).getD left'[i] 0):=by
           have nt : (left'.take i).Nodup:=ndl.sublist (List.take_sublist ..)
           rw [zbK _ _ _ _ nt (fun w hw'=>by rw [hps]; exact ltl w (List.take_subset _ _ hw'))]
           rw [if_neg]
           . exact bp _
           . intro hm
             obtain ⟨j,hj,ej⟩:=List.getElem_of_mem hm
             rw [List.length_take] at hj
             rw [List.getElem_take] at ej
             exact absurd ej ((List.pairwise_iff_getElem.mp ndl) j i (by omega) hi (by omega))
         have ip10:=ipush.byK K10 (zoU _ _)
         generalize hww : left'[i] = ww at *
         generalize hqs : zaN (ra ^ (zah ps left).length) (shf ra rb (zah ps left).length) ps (left'.take i) = qs at *
         walk_at "gg"
         refine zhr (zhM e10 t10) (by omega) (by omega) (fun v11 i11=>?_)
         rw [Int.toNat_natCast] at i11
         walk_at "gg"
         refine zkh ip10 i11 bf bg (bq.mono (by decide)) (fun v12 H12 S12 i12=>?_)
         have e12:=S12 _ _ e10
         have hvl:=t10.length
         rw [List.length_map] at hvl
         walk_at "gg"
         refine zj5 (j:=ww) e12 (by unfold ixN; rw [if_pos (by omega),if_pos (by omega)]; simp) (fun H13 E13 e13=>?_)
         refine ⟨_,_,rfl,E10.trans (S12.exc.trans E13),e13,?_⟩
         have K13:=E13.keep e12
         rw [zeq hi,hww,zkE,hqs]
         refine zeB (by rw [List.length_set,List.length_set]; exact hvl) (fun j v hj=>?_)
         rw [List.getElem?_set] at hj
         by_cases hjw : ww = j
         . subst hjw
           rw [if_pos rfl,if_pos (by omega)] at hj
           cases hj
           rw [zg8 (by omega)]
           exact i12.byN K13
         . rw [if_neg hjw] at hj
           rw [zgO hjw]
           obtain ⟨_,ij⟩:=zf5 t10 hj
           exact (ij.by S12).byN K13
       . rintro σ'' H10 ⟨o,pv',rfl,E10,e10,t10⟩
         rw [zel,List.take_length] at t10
         have K10 : zaO H9 H10:=E10.keep ep9
         have hps:=G.len
         have cm10 : Cm (m + 2 + 21 * (xs.length - left'.length)) (zaN (ra ^ (zah ps left).length) (shf ra rb (zah ps left).length) ps left'):=by
           have c0 : Cm (m + 2 + 21 * (xs.length - left.length)) (0 :: ps):=G.cm.zero_mem fun y hy=>by rcases List.mem_cons.mp hy with rfl | hy; (exact .inr rfl); exact .inl hy
           exact ((c0.wave ba bb (zah ps left).length ndl (fun w hw'=>by rw [hps]; exact ltl w hw')).zero_mem fun y hy=>.inl (List.mem_cons_of_mem _ hy)).mono (by omega)
         have hpl:=za6 (ra ^ (zah ps left).length) (shf ra rb (zah ps left).length) left' ps
         have w1:=G.w1
         have w2:=G.w2
         have hfl:=G.fl
         obtain ⟨f',rfl⟩ : ∃ f',f = f' + 1:=⟨f - 1,by omega⟩
         rw [zbd he,hL] at w1 w2
         generalize hqs : zaN (ra ^ (zah ps left).length) (shf ra rb (zah ps left).length) ps left' = qs at *
         walk_at "gg"
         have e10':=E10 _ _ nD1 e9
         refine zeY e10' (zhM e10 t10) (fun w hw'=>by rw [hpl,hps]; exact ltl w hw') (by omega) (fun i=>(cm10.get i).mono (by omega)) (fun vwave2 H11 S11 i11=>?_)
         walk_at "gg"
         have KA:=T9.keep.trans K10
         refine ⟨left'.length,by omega,D,left',qs,done ++ [zah ps left],f',pv',wv ++ [V.ref aw],vwave2,_,_,rfl,rfl,?_⟩
         exact ⟨((S7.trans T9).grow G.hp E10).trans S11,G.hp,G.hv,(iw7.byN KA).by S11,G.npv,nD1,nD2,S11 _ _ e10,IsAll.same S11 _ _ t10,S11 _ _ e10',S11 _ _ (E10 _ _ G.npv.symm ev9),IsAll.same S11 _ _ (IsAll.keep KA _ _ (zeD _) tv7),i11,ndl,ltl,by rw [hpl]; exact hps,by omega,by rw [List.length_append]; simp; omega,cm10,by rw [List.append_assoc]; exact w1,w2⟩
def zik (K : PySem.W.Frag) : Sp:=fun vs H Q _=>∃ x0 x1,vs = [x0,x1] /\ ∃ (a b : Rat) (xs : List Rat) (m : Nat) (n : Int),x1 = .int n /\ Is K H x0 (SwD a b xs) /\ Bdr 10 a /\ Bdr 10 b /\ 1 <= xs.length /\ xs.length <= 8 /\ 0 <= n /\ n <= 40 /\ Cm m xs /\ m + (2 + 21 * xs.length) * n.toNat <= 2900 /\ ∀ l H',H l = none -> zag H H' -> Is K H' (.ref l) (.list (zd4 a b xs n.toNat)) -> Q (.ref l) H'
theorem zl3 {K : PySem.W.Frag} {H : Hp} {Q : VK} {E : XK} {a b : Rat} {xs : List Rat} {m : Nat} {n : Int} {v : V} (h : Is K H v (SwD a b xs)) (ba : Bdr 10 a) (bb : Bdr 10 b) (h1 : 1 <= xs.length) (h8 : xs.length <= 8) (n0 : 0 <= n) (n1 : n <= 40) (c : Cm m xs) (hm : m + (2 + 21 * xs.length) * n.toNat <= 2900) (q : ∀ l H',H l = none -> zag H H' -> Is K H' (.ref l) (.list (zd4 a b xs n.toNat)) -> Q (.ref l) H') : zik K [v,.int n] H Q E:=⟨_,_,rfl,a,b,xs,m,n,rfl,h,ba,bb,h1,h8,n0,n1,c,hm,q⟩
set_option maxHeartbeats 4000000 in
theorem zmw (T : Txt K mg a) : zaM P w K mg base CX0 5 a.history a.fd_history zeL (zik K):=by
 refine T.d_history.F.ok zbq ?_ ?_
 walk_at "b2"
 refine ⟨_,(zac (pst 2 zbq.nd (zbo zab))
     (zac (pst 3 zbq.nd (zaX (v:=.ref a.k_NOUGHT) rfl T.c_NOUGHT rfl))
     (zac (pst 4 zbq.nd (pv 0))
     (zac (zd2 PassesOwn.never rfl (zcG rfl T.z_range (zaa (pv 1) zab)) (zaE (i:=5) zbq.nd rfl (Or.inl rfl)) (zac (pst 6 zbq.nd (pcl (zqI T) hr T.d_glow (zaa (pv 4) zab)))
     (zac (pst 3 zbq.nd (pcl (zeF T) hr T.d_plus (zaa (pv 3) (zaa (pix (pv 6)) zab))))
     (zac (pst 4 zbq.nd (pix (pv 6)))
     (zad (zhm (zeZ PySem.F.plainAttrs_list PySem.F.slot_list_append PySem.F.type_list_append zeG (pv 2) (zaa (za8 (zaa (pv 3) (zaa (pix (pv 6)) (zaa (pix (pv 4)) zab)))) zab))))))))
     (zad (zak (pv 2))))))),?_⟩
 walk_at "cl"
 rw [show start zjg [x0,x1] = [some x0,some x1,none,none,none,none,none] from rfl]
 obtain ⟨ra,rb,xs,m,n,rfl,hw,ba,bb,h1,h8,n0,n1,cm,hm,q⟩:=h
 walk_at "gg"
 refine zcR (by simp) (fun lr H1 nr S1 e1=>?_)
 walk_at "gg"
 refine zcF (n:=n) (by omega) (by omega) (fun i σ H'=>∃ vh vs o5 o6 us,σ = [some x0,some (.int n),some (.ref lr),some vh,some vs,o5,o6] /\ zag H H' /\ H' lr = some (.lst us) /\ IsAll K H' us (zd4 ra rb xs i) /\ Is K H' vh (N (zaF ra rb xs i)) /\ Is K H' vs (SwD ra rb (zaP ra rb xs i))) ⟨_,_,_,_,[],rfl,S1,e1,.nil,zgy 0 (T.t_NOUGHT _) rfl rfl,hw.by S1⟩ ?_ ?_
 . rintro i σ H2 hi ⟨vh,vs,o5,o6,us,rfl,S2,e2,t2,ih,iw⟩
   have hc:=cm.hist ba bb h1 i
   have hpl:=zbC ra rb xs i
   have hmi : (2 + 21 * xs.length) * (i + 1) <= (2 + 21 * xs.length) * n.toNat:=Nat.mul_le_mul_left _ (by omega)
   rw [Nat.mul_add] at hmi
   have bh : Bdr 2900 (zaF ra rb xs i):=(hc.bdr (List.mem_cons_self ..)).mono (by omega)
   have hc' : Cm (m + (2 + 21 * xs.length) * i) (zaP ra rb xs i):=hc.zero_mem fun y hy=>.inl (List.mem_cons_of_mem _ hy)
   have bw : Bdr 2902 (1 - zbv (zaP ra rb xs i)):=(Bdr.one.sub ((hc'.bdr (zbh (by omega))).mono (n:=2900) (by omega))).mono (by decide)
   walk_at "gg"
   refine zrJ iw ba bb (by omega) (by omega) hc' (by rw [hpl]; omega) (fun v3 H3 S3 i3=>?_)
   walk_at "gg"
   refine zaI (j:=0) i3 rfl (fun v4 i4=>?_)
   have ih3:=ih.by S3
   walk_at "gg"
   rename_i v5 H5 S5 i5
   refine zaI (j:=2) (i3.by S5) rfl (fun v6 i6=>?_)
   have T5:=S3.trans S5
   walk_at "gg"
   refine zl9 (SqL.of (T5 _ _ e2)) ?_
   walk_at "gg"
   refine zaI (j:=1) (i3.by S5) rfl (fun v7 i7=>?_)
   walk_at "gg"
   refine zaI (j:=1) i6 rfl (fun v8 i8=>?_)
   walk_at "gg"
   refine zbV (ds:=[N (zaF ra rb xs (i + 1)),TWs (zbj ra rb (zaP ra rb xs i)),TN (zaP ra rb xs (i + 1))]) (by simp) (.cons i5 (.cons i7 (.cons i8 .nil))) (fun v9 H9 S9 i9=>?_)
   walk_at "gg"
   have T9:=T5.trans S9
   have e9:=T9 _ _ e2
   have hul:=t2.length
   rw [zoa] at hul
   refine zgs e9 (by omega) (fun H10 E10 e10=>?_)
   have K10:=E10.keep e9
   have i10:=i9.byK K10 (zkJ _ _ _)
   have t10 : IsAll K H10 (us ++ [v9]) (zd4 ra rb xs (i + 1)):=by
     rw [zfc]
     exact (IsAll.keep K10 _ _ (zj3 ..) (IsAll.same T9 _ _ t2)).snoc i10
   exact ⟨_,_,_,_,_,rfl,(S2.trans T9).grow nr E10,e10,t10,(i5.by S9).byN K10,(i6.by S9).byK K10 (znb _ _ _)⟩
 . rintro σ H2 ⟨vh,vs,o5,o6,us,rfl,S2,e2,t2,ih,iw⟩
   walk_at "gg"
   exact q lr H2 nr S2 (zbk.mpr ⟨lr,us,rfl,.of e2,t2⟩)
def BD (a b : Rat) (xs : List Rat) (n : Nat) : PyData:=.tuple [N (zaF a b xs n),SwD a b (zaP a b xs n)]
def zjb (K : PySem.W.Frag) : Sp:=fun vs H Q _=>∃ x0 x1,vs = [x0,x1] /\ ∃ (a b : Rat) (xs : List Rat) (m : Nat) (n : Int),x1 = .int n /\ Is K H x0 (SwD a b xs) /\ Bdr 10 a /\ Bdr 10 b /\ 1 <= xs.length /\ xs.length <= 8 /\ 0 <= n /\ n <= 40 /\ Cm m xs /\ m + (2 + 21 * xs.length) * n.toNat <= 2900 /\ ∀ v H',zag H H' -> Is K H' v (BD a b xs n.toNat) -> Q v H'
theorem znN {K : PySem.W.Frag} {H : Hp} {Q : VK} {E : XK} {a b : Rat} {xs : List Rat} {m : Nat} {n : Int} {v : V} (h : Is K H v (SwD a b xs)) (ba : Bdr 10 a) (bb : Bdr 10 b) (h1 : 1 <= xs.length) (h8 : xs.length <= 8) (n0 : 0 <= n) (n1 : n <= 40) (c : Cm m xs) (hm : m + (2 + 21 * xs.length) * n.toNat <= 2900) (q : ∀ v H',zag H H' -> Is K H' v (BD a b xs n.toNat) -> Q v H') : zjb K [v,.int n] H Q E:=⟨_,_,rfl,a,b,xs,m,n,rfl,h,ba,bb,h1,h8,n0,n1,c,hm,q⟩
theorem ziV {K : PySem.W.Frag} {H : Hp} {Q : VK} {v : V} {ds : List PyData} {d : PyData} (h : Is K H v (.list (ds ++ [d]))) (q : ∀ x,Is K H x d -> Q x H) : rIx K v (.int (-1)) H Q:=by
 obtain ⟨a,xs,rfl,hs,t⟩:=zbk.mp h
 have hl:=t.length
 rw [List.length_append,List.length_singleton] at hl
 obtain ⟨x,e1,hx⟩:=t.get (i:=ds.length) (d:=d) (by rw [List.getElem?_append_right (Nat.le_refl _),Nat.sub_self]; rfl)
 exact zed hs (znt (by rw [hl]; exact e1)) (q x hx)
set_option maxHeartbeats 4000000 in
theorem znO (T : Txt K mg a) : zaM P w K mg base CX0 6 a.behind a.fd_behind zf4 (zjb K):=by
 refine T.d_behind.F.ok zgD ?_ ?_
 walk_at "b2"
 refine ⟨_,(zac (pst 2 zgD.nd (pcl (zmw T) hr T.d_history (zaa (pv 0) (zaa (pv 1) zab))))
     (zac (za9 (zbm (zmi (pv 2))) (zad (zak (za8 (zaa (zaX (v:=.ref a.k_NOUGHT) rfl T.c_NOUGHT rfl) (zaa (pv 0) zab))))) zaw)
     (zac (pst 3 zgD.nd (zd8 zcl (pv 2) (zr2 zqf zaf) (fun _ _=>rfl)))
     (zad (zak (za8 (zaa (pix (pv 3)) (zaa (za8 (zaa (pix (pv 0)) (zaa (pix (pv 3)) zab))) zab)))))))),?_⟩
 walk_at "cl"
 rw [show start zlp [x0,x1] = [some x0,some x1,none,none] from rfl]
 obtain ⟨ra,rb,xs,m,n,rfl,hw,ba,bb,h1,h8,n0,n1,cm,hm,q⟩:=h
 walk_at "gg"
 refine zl3 hw ba bb h1 h8 n0 n1 cm hm (fun lr H1 nr S1 i1=>?_)
 walk_at "gg"
 refine zrK i1 ?_
 generalize n.toNat = k at *
 cases k with
 | zero =>
   rw [show (!(zd4 ra rb xs 0).isEmpty) = false from rfl]
   walk_at "gg"
   refine zbV (ds:=[N 0,SwD ra rb xs]) (by simp) (.cons (zgy 0 (T.t_NOUGHT _) rfl rfl) (.cons (hw.by S1) .nil)) (fun v H2 S2 i2=>?_)
   exact q v H2 (S1.trans S2) i2
 | succ k =>
   rw [zfc] at i1
   rw [show (!(zd4 ra rb xs (k + 1)).isEmpty) = true by rw [zfc]; simp]
   walk_at "gg"
   refine ziV i1 (fun v2 i2=>?_)
   have i2 : Is K H1 v2 (zrr (zaF ra rb xs (k + 1)) (zbj ra rb (zaP ra rb xs k)) (zaP ra rb xs (k + 1))):=i2
   walk_at "gg"
   refine zaI (j:=0) i2 rfl (fun v3 i3=>?_)
   walk_at "gg"
   refine zaI (j:=0) (hw.by S1) rfl (fun v4 i4=>?_)
   walk_at "gg"
   refine zaI (j:=2) i2 rfl (fun v5 i5=>?_)
   walk_at "gg"
   refine zbV (ds:=[R ra rb,TN (zaP ra rb xs (k + 1))]) (by simp) (.cons i4 (.cons i5 .nil)) (fun v6 H6 S6 i6=>?_)
   walk_at "gg"
   refine zbV (ds:=[N (zaF ra rb xs (k + 1)),SwD ra rb (zaP ra rb xs (k + 1))]) (by simp) (.cons (i3.by S6) (.cons i6 .nil)) (fun v7 H7 S7 i7=>?_)
   exact q v7 H7 (S1.trans (S6.trans S7)) i7
theorem zna : (PySem.Str.ofString " ") = ⟨#[32]⟩:=by decide
theorem zud : (PySem.Str.ofString "\n") = ⟨#[10]⟩:=by decide
theorem zbD (n : Nat) : (zaW n).length = (zaT n).length:=by simp [zaW,PySem.Str.length]
theorem zsz : (PySem.Str.ofString "0123456789") = ztf:=by decide
theorem zkY (n : Nat) : (zaW n).cps.all (· < 128) = true:=by
 rw [<- Array.all_toList]
 show (((zaT n).map (48 + ·)).toArray.toList).all _ = true
 rw [List.all_eq_true]
 intro c hc
 obtain ⟨d,h1,rfl⟩:=List.mem_map.mp hc
 have:=zcb n d h1
 exact decide_eq_true (by omega)
theorem zq5 {n i c : Nat} (h : (zaW n).cps[i]? = some c) : ∃ d,d < 10 /\ c = 48 + d:=by
 have h : ((zaT n).map (48 + ·)).toArray[i]? = some c:=h
 rw [List.getElem?_toArray,List.getElem?_map] at h
 obtain ⟨d,hd,rfl⟩:=Option.map_eq_some_iff.mp h
 exact ⟨d,zcb n d (List.mem_of_getElem? hd),rfl⟩
theorem zmc {x : PySem.Str} (h : x.cps.all (· < 128) = true) : PyData.strOk x = true:=by
 unfold PyData.strOk
 rw [<- Array.all_toList,List.all_eq_true] at h ⊢
 intro c hc
 have:=of_decide_eq_true (h c hc)
 exact decide_eq_true (by omega)
theorem zok (n : Nat) : PyData.strOk (zaW n) = true:=zmc (zkY n)
theorem zqm (n : Nat) : (zaW n == PySem.Str.ofString "0") = decide (n = 0):=by
 have e : PySem.Str.ofString "0" = zaW 0:=by unfold zaW; rw [zcv (by decide)]; decide
 rw [e]
 by_cases h : n = 0
 . subst h; simp
 . rw [decide_eq_false h]
   simp only [beq_eq_false_iff_ne,ne_eq]
   exact fun z=>h (zo7 z)
theorem znP {n : Nat} (h : n ≠ 0) : ∃ d,0 < d /\ d < 10 /\ (zaW n).cps.toList[0]? = some (48 + d):=by
 cases e : zaT n with
 | nil=>exact absurd e (zdR n)
 | cons d ds =>
   refine ⟨d,?_,zcb n d (by rw [e]; simp),?_⟩
   . rcases Nat.eq_zero_or_pos d with z | z
     . exact absurd (zjj n (by rw [e,z]; rfl)) h
     . exact z
   . simp [zaW,e]
theorem zoT : ∀ d,d < 10 -> 0 < d -> ((⟨#[48 + d]⟩ : PySem.Str) == PySem.Str.ofString "0") = false:=by decide
structure zuW (rs : List Int) (us ts : List (List Int)) : Prop where
 l : rs.length = us.length
 n : rs.length <= 8
 r : ∀ z ∈ rs,0 <= z /\ z < 100
 u : ∀ x ∈ us,x.length <= 60 /\ ∀ z ∈ x,0 <= z /\ z < 100
 tl : ts.length <= 100
 t : ∀ x ∈ ts,x.length <= 60 /\ ∀ z ∈ x,0 <= z /\ z < 100
theorem zai (x y : PySem.Str) : (x ++ y).length = x.length + y.length:=by
 show (x.cps ++ y.cps).size = x.cps.size + y.cps.size
 simp
theorem zlF {x : PySem.Str} {B : Nat} : ∀ {ts : List PySem.Str},(∀ t ∈ ts,t.length <= B) -> (PySem.Str.join x ts).length <= ts.length * (B + x.length)
 | [],_=>by show (0 : Nat) <= _; omega
 | [t],h=>by
   have:=h t (by simp)
   show t.length <= _
   simp only [List.length_singleton]
   omega
 | t :: u :: r,h=>by
   have:=h t (by simp)
   have ih:=zlF (x:=x) (ts:=u :: r) (fun y hy=>h y (List.mem_cons_of_mem _ hy))
   show (t ++ x ++ PySem.Str.join x (u :: r)).length <= _
   rw [zai,zai,List.length_cons (a:=t),Nat.add_mul,Nat.one_mul]
   omega
theorem zsv : (PySem.Str.ofString " ").length = 1:=by decide
theorem zgk (x : PySem.Str) : PySem.Str.empty ++ x = x:=by
 cases x with | mk c=>show (⟨#[] ++ c⟩ : PySem.Str) = _; simp
theorem zlD {c e : Nat} (he : c ≠ e) : ∀ {xs : List (List Nat)},(∀ x ∈ xs,c ∉ x) -> c ∉ zdq e xs
 | [],_=>by simp [zdq]
 | [x],h=>by simpa [zdq] using h x (by simp)
 | x :: y :: r,h=>by
   have ih:=zlD he (xs:=y :: r) (fun z hz=>h z (List.mem_cons_of_mem _ hz))
   have:=h x (by simp)
   show c ∉ x ++ e :: zdq e (y :: r)
   simp only [List.mem_append,List.mem_cons,not_or]
   exact ⟨this,he,ih⟩
theorem zin {x y : PySem.Str} {c : Nat} (h1 : c ∉ x.cps.toList) (h2 : c ∉ y.cps.toList) : c ∉ (x ++ y).cps.toList:=by
 show c ∉ (x.cps ++ y.cps).toList
 simp only [Array.toList_append,List.mem_append,not_or]
 exact ⟨h1,h2⟩
theorem znf (n : Nat) : n < 10 ^ (zaT n).length:=by
 induction n using Nat.strongRecOn with
 | ind n ih =>
   by_cases h : n < 10
   . rw [zcv h]; simpa using h
   . rw [zdS (by omega),List.length_append,List.length_singleton,Nat.pow_succ]
     have:=ih (n / 10) (by omega)
     omega
structure Fit (k : Nat) (r : Rat) : Prop where
 n : (zaT r.num.natAbs).length <= k
 d : (zaT r.den).length <= k
theorem Fit.of {k : Nat} {r : Rat} (hk : 1 <= k) (h1 : r.num.natAbs < 10 ^ k) (h2 : r.den < 10 ^ k) : Fit k r:=⟨zlq hk h1,zlq hk h2⟩
theorem Fit.mono {k l : Nat} {r : Rat} (h : Fit k r) (e : k <= l) : Fit l r:=⟨Nat.le_trans h.n e,Nat.le_trans h.d e⟩
theorem zfM {n : Nat} (h : (zaT n).length <= 400) : n.log2 < 1920:=by
 by_cases z : n = 0
 . subst z; decide
 . rw [Nat.log2_lt z]
   refine Nat.lt_of_lt_of_le (znf n) (Nat.le_trans (Nat.pow_le_pow_right (by decide) h) ?_)
   rw [show 1920 = 4 * 480 from rfl,Nat.pow_mul]
   exact Nat.le_trans (Nat.pow_le_pow_left (show 10 <= 2 ^ 4 by decide) 400) (Nat.pow_le_pow_right (by decide) (by decide))
theorem zm9 : (PySem.Str.ofString "/") = ⟨#[47]⟩:=by decide
theorem zuC : (PySem.Str.ofString "-") = ⟨#[45]⟩:=by decide
theorem zpf {x : PySem.Str} (h : ∀ c,127 < c -> c ∉ x.cps.toList) : PyData.strOk x = true:=zmc (by
 rw [<- Array.all_toList,List.all_eq_true]
 intro c hc
 refine decide_eq_true ?_
 rcases Nat.lt_or_ge c 128 with z | z
 . exact z
 . exact absurd hc (h c (by omega)))
theorem zhg (r : Rat) : PyData.strOk (zbg r) = true:=zpf fun c h=>zkq (by omega)
theorem zqQ (x : PySem.Str) : x.length = x.cps.toList.length:=by simp [PySem.Str.length]
theorem zf7 (z : Int) : (zbX z).length <= (zaT z.natAbs).length + 1:=by
 unfold zbX
 split
 . rw [zai,zbD]
   show 1 + _ <= _
   omega
 . rw [zbD]; omega
theorem zec {k : Nat} {r : Rat} (h : Fit k r) : (zbg r).length <= 2 * k + 2:=by
 have h1:=h.n
 have h2:=h.d
 have h3:=zf7 r.num
 unfold zbg
 split
 . omega
 . rw [zai,zai,zbD]
   show _ + 1 + _ <= _
   omega
theorem zkD (n : Nat) : 1 <= (zaW n).length:=by rw [zbD]; exact List.length_pos_iff.mpr (zdR n)
theorem zhJ (n : Nat) : zbX (n : Int) = zaW n:=by
 unfold zbX
 rw [if_neg (by omega)]
 rfl
def zhT (r : Rat) : List Nat:=if r.den = 1 then [] else [r.den]
theorem zpk (r : Rat) : zbg r = PySem.Str.join ⟨#[47]⟩ (zbX r.num :: (zhT r).map zaW):=by
 unfold zbg zhT
 split <;> rfl
theorem ziZ (r : Rat) : Txt.split (zbg r) "/" = zbX r.num :: (zhT r).map zaW:=by
 rw [show (PySem.Str.ofString "/") = ⟨#[47]⟩ from zm9,zpk]
 refine ze8 (by simp) fun t ht=>?_
 rcases List.mem_cons.mp ht with rfl | ht
 . exact zfH (by omega)
 . obtain ⟨n,_,rfl⟩:=List.mem_map.mp ht
   exact zkn (by omega)
theorem zkG (r : Rat) : Txt.partition (zbg r) "/" = if r.den = 1 then (zbX r.num,PySem.Str.empty,PySem.Str.empty) else (zbX r.num,⟨#[47]⟩,zaW r.den):=by
 rw [show (PySem.Str.ofString "/") = ⟨#[47]⟩ from zm9]
 unfold zbg
 split
 . exact zou (zfH (by omega))
 . exact zrN (zfH (by omega))
theorem zpo (n : Nat) : ∃ d,d < 10 /\ (zaW n).cps.toList[0]? = some (48 + d):=by
 cases e : zaT n with
 | nil=>exact absurd e (zdR n)
 | cons d ds=>exact ⟨d,zcb n d (by rw [e]; simp),by simp [zaW,e]⟩
theorem zqg (z : Int) : ((zbX z).cps.toList[0]? = some 45) ↔ z < 0:=by
 unfold zbX
 split
 . rename_i h
   rw [zbs]
   simp [h]
 . rename_i h
   obtain ⟨d,hd,e⟩:=zpo z.natAbs
   rw [e]
   simp only [Option.some.injEq]
   omega
theorem zjv {x y : PySem.Str} (h : 1 <= x.length) : (x ++ y).cps.toList[0]? = x.cps.toList[0]?:=by
 rw [zbs,List.getElem?_append_left (by rw [<- zqQ]; omega)]
theorem zo8 (z : Int) : 1 <= (zbX z).length:=by
 unfold zbX
 have:=zkD z.natAbs
 split
 . rw [zai]; omega
 . exact this
theorem zmz (r : Rat) : Txt.startswith (zbg r) "-" = decide (r.num < 0):=by
 rw [show (PySem.Str.ofString "-") = ⟨#[45]⟩ from zuC,zmL]
 have:=zo8 r.num
 have e : (zbg r).cps.toList[0]? = (zbX r.num).cps.toList[0]?:=by
   unfold zbg
   split
   . rfl
   . rw [zjv (by rw [zai]; omega),zjv this]
 rw [e,Bool.eq_iff_iff,decide_eq_true_eq,decide_eq_true_eq]
 exact zqg r.num
theorem ztu {z : Int} (h : z < 0) : StrLaws.sliceText (zbX z) (some 1) none = zaW z.natAbs:=by
 unfold zbX
 rw [if_pos h]
 exact zos
theorem zp3 {z : Int} (h : ¬ z < 0) : zbX z = zaW z.natAbs:=by
 unfold zbX
 rw [if_neg h]
theorem zjY (x : V) (xs : List V) : zj4 (x :: xs) (some 1) none = xs:=by
 unfold zj4
 have e1 : HT.sIx (x :: xs).length 0 (some 1) = 1:=by simp [HT.sIx]
 have e2 : HT.sIx (x :: xs).length (x :: xs).length none = (x :: xs).length:=by simp [HT.sIx]
 rw [e1,e2]
 simp
def zbr (xs : List Rat) : PySem.Str:=PySem.Str.join " " (xs.map zbg)
theorem zca {k : Nat} {xs : List Rat} (h : ∀ x ∈ xs,Fit k x) : (zbr xs).length <= xs.length * (2 * k + 3):=by
 have:=zlF (x:=" ") (B:=2 * k + 2) (ts:=xs.map zbg) (fun t ht=>by
   obtain ⟨x,hx,rfl⟩:=List.mem_map.mp ht
   exact zec (h x hx))
 rw [List.length_map,show (PySem.Str.ofString " ").length = 1 from zsv] at this
 exact this
theorem zeE {xs : List Rat} {c : Nat} (h : c < 45 \/ 57 < c) (hc : c ≠ 32) : c ∉ (zbr xs).cps.toList:=by
 unfold zbr
 rw [show (PySem.Str.ofString " ") = ⟨#[32]⟩ from zna,zhV]
 refine zlD hc fun x hx=>?_
 obtain ⟨y,hy,rfl⟩:=List.mem_map.mp hx
 obtain ⟨z,_,rfl⟩:=List.mem_map.mp hy
 exact zkq h
theorem zmA {x : Int} {k : Nat} (h : x.natAbs <= 10 ^ k) (hk : k <= 900) : Bd 3700 x:=⟨by
 have h1 : (10 : Nat) ^ k <= 16 ^ k:=Nat.pow_le_pow_left (by decide) k
 have h2 : (16 : Nat) ^ k = 2 ^ (4 * k):=by rw [Nat.pow_mul]
 have h3 : (2 : Nat) ^ (4 * k) < 2 ^ 3700:=Nat.pow_lt_pow_right (by decide) (by omega)
 omega⟩
theorem zrc {t b : Int} {k : Nat} (hk : 1 <= k) (hb : 0 < b) (h1 : t.natAbs < 10 ^ k) (h2 : b.natAbs < 10 ^ k) : Fit k (Rat.divInt t b) :=
 Fit.of hk (Nat.lt_of_le_of_lt (zo2 t b (by omega)) h1) (Nat.lt_of_le_of_lt (zjC t b (by omega)) h2)
theorem Fit.bdr {r : Rat} (h : Fit 400 r) : Bdr 4000 r:=by
 have f : ∀ {n : Nat},(zaT n).length <= 400 -> n <= 10 ^ 400:=fun {n} h=>Nat.le_trans (Nat.le_of_lt (znf n)) (Nat.pow_le_pow_right (by decide) h)
 exact ⟨(zmA (f h.n) (by decide)).mono (by decide),(zmA (by rw [Int.natAbs_natCast]; exact f h.d) (by decide)).mono (by decide)⟩
def zeb (K : PySem.W.Frag) : Sp:=fun vs H Q _=>∃ x0,vs = [x0] /\ ∃ r : Rat,Is K H x0 (N r) /\ Fit 400 r /\ Q (.str (zbg r)) H
theorem zcM {K : PySem.W.Frag} {H : Hp} {Q : VK} {E : XK} {r : Rat} {v : V} (h : Is K H v (N r)) (hf : Fit 400 r) (q : Q (.str (zbg r)) H) : zeb K [v] H Q E:=⟨_,rfl,r,h,hf,q⟩
theorem zmS {r : Rat} : ((r.den : Int) = 1) ↔ r.den = 1:=by omega
set_option maxHeartbeats 4000000 in
theorem zcJ (T : Txt K mg a) : zaM P w K mg base CX0 1 a.show_number a.fd_show_number zcd (zeb K):=by
 refine T.d_show_number.F.ok zcO ?_ ?_
 walk_at "b1"
 have hgd:=hr.gd
 refine ⟨_,(zac (pst 1 zcO.nd (za2 (show zaq _ (.type "str") zhK from zdr) rfl T.z_str zgE (zaa (pix (pv 0)) zab)))
     (zac (za9 (zaC (show OpR _ (compareOp .Eq) (zig K) from zfe hu) (pix (pv 0)) zaf (zax _)) (zad (zak (pv 1))) zaw)
     (zac (pst 2 zcO.nd (za2 (show zaq _ (.type "str") zhK from zdr) rfl T.z_str zgE (zaa (pix (pv 0)) zab)))
     (zad (zak (zne (zjZ (pv 1) (zma (zjZ (pv 2) zpY))))))))),?_⟩
 walk_at "cl"
 rw [show start ze7 [x0] = [some x0,none,none] from rfl]
 obtain ⟨r,hr,hf,q⟩:=h
 have z : 2000 <= sizeLine:=by decide
 have l1:=zf7 r.num
 have f1:=hf.n
 have f2:=hf.d
 walk_at "gg"
 refine zgg (zfM f1) ?_
 rw [zfJ]
 walk_at "gg"
 . rename_i e
   have e : r.den = 1:=zmS.mp e
   unfold zbg at q
   rw [if_pos e] at q
   exact q
 . rename_i e
   have e : ¬ r.den = 1:=fun z=>e (zmS.mpr z)
   unfold zbg at q
   rw [if_neg e] at q
   refine zgg (by rw [Int.natAbs_natCast]; exact zfM f2) ?_
   rw [zfJ,zhJ]
   walk_at "gg"
   refine zm3 (zni ?_)
   walk_at "gg"
   refine ⟨_,rfl,by omega,by rw [zgk]; omega,zo9 (by rw [zgk,zai]; show _ + 1 <= _; omega) (zni ?_)⟩
   rw [zgk]
   walk_at "gg"
   refine ⟨_,rfl,by rw [zbD]; omega,by rw [zai,zai,zbD]; show _ + 1 + _ <= _; omega,zsp (by rw [zai,zai,zbD]; show _ + 1 + _ <= _; omega) ?_⟩
   rw [show (PySem.Str.ofString "/") = ⟨#[47]⟩ from zm9]
   exact q
def zd5 (K : PySem.W.Frag) : Sp:=fun vs H Q _=>∃ x0,vs = [x0] /\ ∃ xs : List Rat,Is K H x0 (TN xs) /\ xs.length <= 20 /\ (∀ x ∈ xs,Fit 400 x) /\ ∀ H',zag H H' -> Q (.str (zbr xs)) H'
theorem zd6 {K : PySem.W.Frag} {H : Hp} {Q : VK} {E : XK} {xs : List Rat} {v : V} (h : Is K H v (TN xs)) (hl : xs.length <= 20) (hf : ∀ x ∈ xs,Fit 400 x) (q : ∀ H',zag H H' -> Q (.str (zbr xs)) H') : zd5 K [v] H Q E:=⟨_,rfl,xs,h,hl,hf,q⟩
set_option maxHeartbeats 4000000 in
theorem zd7 (T : Txt K mg a) : zaM P w K mg base CX0 2 a.show_numbers a.fd_show_numbers zb5 (zd5 K):=by
 refine T.d_show_numbers.F.ok zhe ?_ ?_
 walk_at "b1"
 refine ⟨_,(zad (zak (zeZ PySem.F.plainAttrs_str PySem.F.slot_str_join PySem.F.type_str_join (show MtM _ "str.join" (zkm K) from zkV) zba (zaa (zbT rfl (zbl.by (N':=["one"]) (src:=[none]) rfl (show zbc _ (zae zbR).names zbS ["one"] [none] = true from by decide +kernel)) (zjX (pv 0)) (fun _ _ _ _ _=>(zaE (i:=0) (show (["one"] : List Str).Nodup from by decide) rfl (Or.inl rfl))) (fun _ _ _ _ _=>zbQ) (fun _ _ _ _ _=>(pcl (zcJ (K:=K) (mg:=mg) (a:=a) T) hr T.d_show_number (zaa (pv 0) zab)))) zab)))),?_⟩
 walk_at "cl"
 rw [show start zbS [x0] = [some x0] from rfl]
 obtain ⟨xs,hx,hl,hf,q⟩:=h
 obtain ⟨a1,vs,rfl,hs,tv⟩:=zaY.mp hx
 walk_at "gg"
 refine zfb ?_
 walk_at "gg"
 refine zf6 hs (o0:=none) (tl:=[]) rfl (fun j y _=>y = .str (zbg (xs.getD j 0))) ?_ ?_
 . intro D j x ys o H1 hx inv
   obtain ⟨hj,iy⟩:=zf5 tv hx
   walk_at "gg"
   refine zcM (iy.by inv.2.2.1) (hf _ (getD_mem hj)) ?_
   walk_at "gg"
   exact zbA inv (by omega) (fun _ _ _ _ _ h=>h) ⟨_,rfl⟩ (zag.refl _) rfl
 . intro D ys H1 n1 S1 e1 l1 r1
   have lv:=tv.length
   rw [List.length_map] at lv
   have ey : ys = (xs.map zbg).map V.str:=by
     refine List.ext_getElem (by rw [l1]; simp; omega) fun i h1 h2=>?_
     rw [r1 i ys[i] (List.getElem?_eq_getElem h1)]
     rw [List.length_map,List.length_map] at h2
     simp [List.getD_eq_getElem?_getD,List.getElem?_eq_getElem h2]
   rw [ey] at e1
   walk_at "gg"
   refine zlv (B:=802) (.of e1) (fun y hy=>?_) ?_ (q _ S1)
   . obtain ⟨x,hx',rfl⟩:=List.mem_map.mp hy
     exact zec (hf x hx')
   . rw [List.length_map,zna]
     show xs.length * 802 + xs.length * 1 <= _
     omega
def zby (a b : Rat) (xs : List Rat) : PySem.Str:=PySem.Str.ofString "rule " ++ zbr [a,b] ++ PySem.Str.ofString "\nworms " ++ zbr xs
theorem zqP : PySem.Str.ofString "rule " = PySem.Str.ofString "rule" ++ PySem.Str.ofString " ":=by decide
theorem zpS : PySem.Str.ofString "worms " = PySem.Str.ofString "worms" ++ PySem.Str.ofString " ":=by decide
theorem zov : PySem.Str.ofString "\nworms " = (⟨#[10]⟩ : PySem.Str) ++ PySem.Str.ofString "worms ":=by decide
theorem zdx (x y z : PySem.Str) : x ++ y ++ z = x ++ (y ++ z):=by
 refine Str.ext' (Array.toList_inj.mp ?_)
 rw [zbs,zbs,zbs,zbs,List.append_assoc]
theorem zlw (a b : Rat) (xs : List Rat) : Txt.split (zby a b xs) "\n" = [PySem.Str.ofString "rule " ++ zbr [a,b],PySem.Str.ofString "worms " ++ zbr xs]:=by
 rw [show (PySem.Str.ofString "\n") = ⟨#[10]⟩ from zud]
 have e : zby a b xs = PySem.Str.join ⟨#[10]⟩ [PySem.Str.ofString "rule " ++ zbr [a,b],PySem.Str.ofString "worms " ++ zbr xs]:=by
   unfold zby
   rw [zov]
   show _ = (PySem.Str.ofString "rule " ++ zbr [a,b]) ++ ⟨#[10]⟩ ++ (PySem.Str.ofString "worms " ++ zbr xs)
   rw [zdx,zdx,zdx,zdx,zdx]
 rw [e]
 refine ze8 (by simp) fun t ht=>?_
 simp only [List.mem_cons,List.not_mem_nil,or_false] at ht
 rcases ht with rfl | rfl
 . exact zin (by decide) (zeE (by omega) (by omega))
 . exact zin (by decide) (zeE (by omega) (by omega))
theorem zgQ {x y : PySem.Str} {xs : List Rat} (hne : xs ≠ []) (e : x = y ++ PySem.Str.ofString " ") (hy : 32 ∉ y.cps.toList) : Txt.split (x ++ zbr xs) " " = y :: xs.map zbg:=by
 have e2 : x ++ zbr xs = PySem.Str.join " " (y :: xs.map zbg):=by
   subst e
   cases xs with
   | nil=>exact absurd rfl hne
   | cons z r=>rfl
 rw [e2,show (PySem.Str.ofString " ") = ⟨#[32]⟩ from zna]
 refine ze8 (by simp) fun t ht=>?_
 rcases List.mem_cons.mp ht with rfl | ht
 . exact hy
 . obtain ⟨z,_,rfl⟩:=List.mem_map.mp ht
   exact zkq (by omega)
theorem zi0 (a b : Rat) (xs : List Rat) : PyData.strOk (zby a b xs) = true:=by
 refine zpf fun c h=>?_
 unfold zby
 have f : ∀ y : PySem.Str,y.cps.all (· < 128) = true -> c ∉ y.cps.toList:=fun y hy hc=>by
   rw [<- Array.all_toList,List.all_eq_true] at hy
   have:=of_decide_eq_true (hy c hc)
   omega
 exact zin (zin (zin (f _ (by decide +kernel)) (zeE (by omega) (by omega))) (f _ (by decide +kernel))) (zeE (by omega) (by omega))
theorem zgw {k : Nat} {r : Rat} (hk : 2 <= k) (h1 : r.num.natAbs < 100) (h2 : r.den < 100) : Fit k r:=(Fit.of (k:=2) (by decide) h1 h2).mono hk
theorem zit {a b : Rat} (ok : zay a b) : ∀ x ∈ [a,b],Fit 60 x:=by
 have h1:=ok.a0
 have h2:=ok.a4
 have h3:=ok.ad
 have g1:=ok.b0
 have g2:=ok.b1
 have g3:=ok.bd
 have n0 : 0 <= a.num:=Rat.num_nonneg.mpr (Rat.le_of_lt h1)
 have n1 : a.num <= 4 * a.den:=by
   have:=(Rat.le_iff a 4).mp h2
   simpa using this
 have m0 : 0 <= b.num:=Rat.num_nonneg.mpr g1
 have m1 : b.num <= b.den:=by
   have:=(Rat.le_iff b 1).mp g2
   simpa using this
 intro x hx
 simp only [List.mem_cons,List.not_mem_nil,or_false] at hx
 rcases hx with rfl | rfl
 . exact zgw (by decide) (by omega) (by omega)
 . exact zgw (by decide) (by omega) (by omega)
theorem zor {x : Rat} (h : zaV x) : Fit 60 x:=by
 have h1:=h.nn
 have h2:=h.lt
 have h3:=h.den
 have n0 : 0 <= x.num:=Rat.num_nonneg.mpr h1
 have n1 : x.num < x.den:=by
   have:=(Rat.lt_iff x 1).mp h2
   simpa using this
 exact zgw (by decide) (by omega) (by omega)
theorem zrx {r : Rat} (h : Bdr 135 r) : Fit 60 r:=by
 have e : (2 : Nat) ^ 135 < 10 ^ 60:=by decide +kernel
 exact Fit.of (by decide) (Nat.lt_trans h.t.lt e) (Nat.lt_trans (by have:=h.b.lt; rwa [Int.natAbs_natCast] at this) e)
def ze5 (K : PySem.W.Frag) : Sp:=fun vs H Q _=>∃ x0,vs = [x0] /\ ∃ (ra rb : Rat) (xs : List Rat),Is K H x0 (SwD ra rb xs) /\ zay ra rb /\ xs.length <= 8 /\ (∀ x ∈ xs,Fit 60 x) /\ ∀ H',zag H H' -> Q (.str (zby ra rb xs)) H'
theorem ziD {K : PySem.W.Frag} {H : Hp} {Q : VK} {E : XK} {ra rb : Rat} {xs : List Rat} {v : V} (h : Is K H v (SwD ra rb xs)) (ok : zay ra rb) (h8 : xs.length <= 8) (hf : ∀ x ∈ xs,Fit 60 x) (q : ∀ H',zag H H' -> Q (.str (zby ra rb xs)) H') : ze5 K [v] H Q E:=⟨_,rfl,ra,rb,xs,h,ok,h8,hf,q⟩
set_option maxHeartbeats 4000000 in
theorem ziG (T : Txt K mg a) : zaM P w K mg base CX0 3 a.show_swarm a.fd_show_swarm zcz (ze5 K):=by
 refine T.d_show_swarm.F.ok zdk ?_ ?_
 walk_at "b1"
 refine ⟨_,(zac (pst 1 zdk.nd (pcl (zd7 T) hr T.d_show_numbers (zaa (pix (pv 0)) zab)))
     (zac (pst 2 zdk.nd (pcl (zd7 T) hr T.d_show_numbers (zaa (pix (pv 0)) zab)))
     (zad (zak (zne (zma (zjZ (pv 1) (zma (zjZ (pv 2) zpY))))))))),?_⟩
 walk_at "cl"
 rw [show start zfO [x0] = [some x0,none,none] from rfl]
 obtain ⟨ra,rb,xs,hw,ok,h8,hf,q⟩:=h
 have z : 4000 <= sizeLine:=by decide
 have fr : ∀ x ∈ [ra,rb],Fit 60 x:=zit ok
 have w1:=zca fr
 have w2:=zca hf
 have w3 : xs.length * (2 * 60 + 3) <= 8 * 123:=Nat.mul_le_mul_right _ h8
 have l1 : (PySem.Str.ofString "rule ").length = 5:=by decide
 have l3 : (PySem.Str.ofString "\nworms ").length = 7:=by decide
 simp only [List.length_cons,List.length_nil] at w1
 walk_at "gg"
 refine zaI (j:=0) hw rfl (fun v0 i0=>?_)
 walk_at "gg"
 refine zd6 (xs:=[ra,rb]) i0 (by simp) (fun x hx=>(fr x hx).mono (by decide)) (fun H1 S1=>?_)
 walk_at "gg"
 refine zaI (j:=1) (hw.by S1) rfl (fun v1 i1=>?_)
 walk_at "gg"
 refine zd6 i1 (by omega) (fun x hx=>(hf x hx).mono (by decide)) (fun H2 S2=>?_)
 walk_at "gg"
 refine zm3 (zo9 (by rw [zgk]; omega) (zni ?_))
 rw [zgk]
 walk_at "gg"
 refine ⟨_,rfl,by omega,by rw [zai]; omega,zo9 (by rw [zai,zai]; omega) (zni ?_)⟩
 walk_at "gg"
 refine ⟨_,rfl,by omega,by rw [zai,zai,zai]; omega,zsp (by rw [zai,zai,zai]; omega) ?_⟩
 exact q _ (S1.trans S2)
def zdu (K : PySem.W.Frag) : Sp:=fun vs H Q _=>∃ x0 x1,vs = [x0,x1] /\ ∃ (n : Nat) (m : Int),x0 = .str (zaW n) /\ x1 = .int m /\ ((zaT n).length : Int) <= m /\ (zaT n).length <= 640 /\ ∀ H',zag H H' -> Q (.bl true) H'
theorem zgq {K : PySem.W.Frag} {H : Hp} {Q : VK} {E : XK} {n : Nat} {m : Int} (h : ((zaT n).length : Int) <= m) (hl : (zaT n).length <= 640) (q : ∀ H',zag H H' -> Q (.bl true) H') : zdu K [.str (zaW n),.int m] H Q E:=⟨_,_,rfl,n,m,rfl,rfl,h,hl,q⟩
set_option maxHeartbeats 4000000 in
theorem zgA (T : Txt K mg a) : zaM P w K mg base CX0 1 a.is_whole_text a.fd_is_whole_text zbE (zdu K):=by
 refine T.d_is_whole_text.F.ok zgx ?_ ?_
 walk_at "b2"
 refine ⟨_,(zac (za9 (PW.pt (zem (zbm (zli zg2 zg2 zaf (zao (show zaq _ (.builtin "len") zp4 from znE) rfl T.z_len zb3 (zaa (pv 0) zab)) (pv 1))) (zdg (zbm (zbe (zao (show zaq _ (.builtin "all") (zje K) from zeI rfl) rfl T.z_all zkA (zaa (zbT rfl (zbl.by (N':=["sign"]) (src:=[none]) rfl (show zbc _ (zae zbG).names zbF ["sign"] [none] = true from by decide +kernel)) (zsC (pv 0)) (fun _ _ _ _ _=>(zaE (i:=0) (show (["sign"] : List Str).Nodup from by decide) rfl (Or.inl rfl))) (fun _ _ _ _ _=>zbQ) (fun _ _ _ _ _=>(zb4 (show OpR _ (compareOp .In) zs6 from zsH) (pv 0) (zpF rfl T.c_FIGURES) (by with_unfolding_all rfl)))) zab))))))) (zad (zak zcn)) zaw)
     (zad (zak (ztV (zb4 (show OpR _ (compareOp .Eq) (zig K) from zfe hu) (pv 0) zba (zax _)) (zdX (zb4 (show OpR _ (compareOp .NotEq) (zeU K) from zcL hu) (pix (pv 0)) zba (zax _))))))),?_⟩
 walk_at "cl"
 rw [show start zbF [x0,x1] = [some x0,some x1] from rfl]
 obtain ⟨n,m,rfl,rfl,hm,hl,q⟩:=h
 have hlen:=zbD n
 have hne : 1 <= (zaT n).length:=List.length_pos_iff.mpr (zdR n)
 walk_at "gg"
 refine zrf (by rw [hlen]; exact Nat.le_trans hl (by decide)) ?_
 rw [hlen]
 walk_at "gg"
 all_goals first | (exfalso; omega) | skip
 refine zl5 ?_
 walk_at "gg"
 refine zlS (zkY n) (zcK H [] fun _ y _=>y = .bl true) (fun D H' n s e=>⟨⟨none,rfl⟩,n,s,e,rfl,fun j y z=>by simp at z⟩) ?_ ?_
 . intro D i c ys σ' H1 hc inv
   obtain ⟨d,hd,rfl⟩:=zq5 hc
   obtain ⟨⟨o,rfl⟩,_⟩:=id inv
   have hi : i < (zaW n).length:=by
     have:=(Array.getElem?_eq_some_iff.mp hc).1
     exact this
   walk_at "gg"
   refine ztv ?_
   rw [zsz,zta d hd]
   walk_at "gg"
   exact zbA inv (by omega) (fun _ _ _ _ _ h=>h) ⟨_,rfl⟩ (zag.refl _) rfl
 . rintro D ys σ' H1 ⟨_,n1,S1,e1,l1,r1⟩
   have ey : ys = (List.replicate ys.length true).map V.bl:=by
     refine List.ext_getElem (by simp) fun i h1 h2=>?_
     rw [r1 i ys[i] (List.getElem?_eq_getElem h1)]
     simp
   rw [ey] at e1
   walk_at "gg"
   refine zfN (.of e1) ?_
   rw [show (List.replicate ys.length true).all id = true by simp]
   walk_at "gg"
   refine zlA (zok n) (zcC _) ?_
   rw [zqm]
   by_cases hz : n = 0
   . rw [decide_eq_true hz]
     walk_at "gg"
     exact q _ S1
   . rw [decide_eq_false hz]
     walk_at "gg"
     obtain ⟨d,d0,d1,ec⟩:=znP hz
     refine .inr (.inr ⟨_,_,_,rfl,rfl,by rw [hlen]; exact Nat.le_trans hl (by decide),zdV (j:=0) ec,?_⟩)
     walk_at "gg"
     refine zew (zmc (by simp; omega)) (zcC _) ?_
     rw [zoT d d1 d0]
     exact q _ S1
def zfR (K : PySem.W.Frag) : Sp:=fun vs H Q _=>∃ x0,vs = [x0] /\ ∃ r : Rat,x0 = .str (zbg r) /\ Fit 400 r /\ ∀ v H',zag H H' -> Is K H' v (N r) -> Q v H'
theorem zgj {K : PySem.W.Frag} {H : Hp} {Q : VK} {E : XK} {r : Rat} (hf : Fit 400 r) (q : ∀ v H',zag H H' -> Is K H' v (N r) -> Q v H') : zfR K [.str (zbg r)] H Q E:=⟨_,rfl,r,rfl,hf,q⟩
theorem zno {K : PySem.W.Frag} {H : Hp} {QB : Bool -> Hp -> Prop} {x : PySem.Str} (h : x.length <= sizeLine) (q : QB (decide (x.length ≠ 0)) H) : zqj K (.str x) H QB:=⟨_,⟨h,rfl⟩,by
 have e : (((x.length : Int) != 0) : Bool) = decide (x.length ≠ 0):=by rw [Bool.eq_iff_iff,decide_eq_true_eq,bne_iff_ne]; omega
 rw [e]; exact q⟩
set_option maxHeartbeats 4000000 in
theorem zfS (T : Txt K mg a) : zaM P w K mg base CX0 1 a.number_in a.fd_number_in zcZ (zfR K):=by
 refine T.d_number_in.F.ok zga ?_ ?_
 walk_at "b1"
 refine ⟨_,(zac (pst 1 zga.nd (zeZ PySem.F.plainAttrs_str PySem.F.slot_str_partition PySem.F.type_str_partition (show MtM _ "str.partition" zpP from zq9) (pv 0) (zaa zba zab)))
     (zad (zak (za8 (zaa (za2 (show zaq _ (.type "int") zmQ from zjt) rfl T.z_int zmM (zaa (pix (pv 1)) zab)) (zaa (zhA (zmi (pix (pv 1))) (za2 (show zaq _ (.type "int") zmQ from zjt) rfl T.z_int zmM (zaa (pix (pv 1)) zab)) zaf) zab)))))),?_⟩
 walk_at "cl"
 rw [show start zg9 [x0] = [some x0,none] from rfl]
 obtain ⟨r,rfl,hf,q⟩:=h
 have z : 2000 <= sizeLine:=by decide
 have l1:=zec hf
 have f1:=hf.n
 have f2:=hf.d
 by_cases hd : r.den = 1
 . walk_at "gg"
   refine zfb ?_
   walk_at "gg"
   refine zkQ (by decide) (by omega) ((zkG r).trans (if_pos hd)) (fun l H1 n1 S1 e1=>?_)
   walk_at "gg"
   refine zd1 (.of e1) rfl ?_
   walk_at "gg"
   refine zj8 (by omega) ?_
   walk_at "gg"
   refine zd1 (.of e1) rfl ?_
   refine zno (by decide) ?_
   rw [show decide (PySem.Str.empty.length ≠ 0) = false from rfl,if_neg (by decide)]
   walk_at "gg"
   refine zbV (ds:=[.int r.num,.int r.den]) (by simp) (.cons (zaR.mpr rfl) (.cons (zaR.mpr (by rw [hd]; rfl)) .nil)) (fun v H2 S2 i2=>?_)
   exact q v H2 (S1.trans S2) i2
 . walk_at "gg"
   refine zfb ?_
   walk_at "gg"
   refine zkQ (by decide) (by omega) ((zkG r).trans (if_neg hd)) (fun l H1 n1 S1 e1=>?_)
   walk_at "gg"
   refine zd1 (.of e1) rfl ?_
   walk_at "gg"
   refine zj8 (by omega) ?_
   walk_at "gg"
   refine zd1 (.of e1) rfl ?_
   have hn:=zkD r.den
   refine zno (by rw [zbD]; omega) ?_
   rw [show decide ((zaW r.den).length ≠ 0) = true from decide_eq_true (by omega),if_pos rfl]
   walk_at "gg"
   refine zd1 (.of e1) rfl ?_
   rw [<- zhJ]
   walk_at "gg"
   refine zj8 (by rw [Int.natAbs_natCast]; omega) ?_
   walk_at "gg"
   refine zbV (ds:=[.int r.num,.int r.den]) (by simp) (.cons (zaR.mpr rfl) (.cons (zaR.mpr rfl) .nil)) (fun v H2 S2 i2=>?_)
   exact q v H2 (S1.trans S2) i2
def zcY (K : PySem.W.Frag) : Sp:=fun vs H Q _=>∃ x0 x1,vs = [x0,x1] /\ ∃ (r : Rat) (m : Int),x0 = .str (zbg r) /\ x1 = .int m /\ Fit 400 r /\ ((zaT r.num.natAbs).length : Int) <= m /\ ((zaT r.den).length : Int) <= m /\ ∀ H',zag H H' -> Q (.bl true) H'
theorem zge {K : PySem.W.Frag} {H : Hp} {Q : VK} {E : XK} {r : Rat} {m : Int} (hf : Fit 400 r) (h1 : ((zaT r.num.natAbs).length : Int) <= m) (h2 : ((zaT r.den).length : Int) <= m) (q : ∀ H',zag H H' -> Q (.bl true) H') : zcY K [.str (zbg r),.int m] H Q E:=⟨_,_,rfl,r,m,rfl,rfl,hf,h1,h2,q⟩
theorem zpZ (r : Rat) : (zhT r).length <= 1:=by
 unfold zhT
 split <;> simp
theorem zqu {r : Rat} {n : Nat} (h : n ∈ zhT r) : n = r.den:=by
 unfold zhT at h
 split at h
 . cases h
 . simpa using h
set_option maxHeartbeats 4000000 in
theorem zf9 (T : Txt K mg a) : zaM P w K mg base CX0 3 a.is_number_text a.fd_is_number_text zbt (zcY K):=by
 refine T.d_is_number_text.F.ok zbn ?_ ?_
 walk_at "b2"
 refine ⟨_,(zac (pst 2 zbn.nd (zeZ PySem.F.plainAttrs_str PySem.F.slot_str_split PySem.F.type_str_split (show MtM _ "str.split" zgr from zhF) (pv 0) (zaa zba zab)))
     (zac (pst 3 zbn.nd (zhA (zbe (zeZ PySem.F.plainAttrs_str PySem.F.slot_str_startswith PySem.F.type_str_startswith (show MtM _ "str.startswith" zjS from zot) (pv 0) (zaa zba zab))) (zf8 (show SlR _ (zrm K) from zpv) (pix (pv 2)) (zhu zaf) zhq) (pix (pv 2))))
     (zac (za9 (PW.pt (zem (zaC zmU (zao (show zaq _ (.builtin "len") (zdd K) from zaZ) rfl T.z_len zb3 (zaa (pv 2) zab)) zaf (zax _)) (zdg (zbm (zbe (zao (show zaq _ (.builtin "all") (zje K) from zeI rfl) rfl T.z_all zkA (zaa (zbT rfl (zbl.by (N':=["part","most"]) (src:=[none,some 1]) rfl (show zbc _ (zae zbx).names zb9 ["part","most"] [none,some 1] = true from by decide +kernel)) (zc5 (zam zaz (zbo (zaa (pv 3) zab)) (zf8 (show SlR _ (zrm K) from zpv) (pv 2) (zhu zaf) zhq))) (fun _ _ _ _ _=>(zaE (i:=0) (show (["part","most"] : List Str).Nodup from by decide) rfl (Or.inl rfl))) (fun _ _ _ _ _=>zbQ) (fun _ _ _ _ _=>(pcl (zgA (K:=K) (mg:=mg) (a:=a) T) hr T.d_is_whole_text (zaa (pv 0) (zaa (pv 1) zab))))) zab))))))) (zad (zak zcn)) zaw)
     (zac (pst 4 zbn.nd (pcl (zfS T) hr T.d_number_in (zaa (pv 0) zab)))
     (zad (zak (zcj (pcl (zcx T) hr T.d_is_number (zaa (pv 4) zab)) (zdX (zb4 (show OpR _ (compareOp .Eq) (zig K) from zfe hu) (pcl (zcJ T) hr T.d_show_number (zaa (pv 4) zab)) (pv 0) (zax _)))))))))),?_⟩
 walk_at "cl"
 rw [show start zb9 [x0,x1] = [some x0,some x1,none,none,none] from rfl]
 obtain ⟨r,m,rfl,rfl,hf,m1,m2,q⟩:=h
 have z : 2000 <= sizeLine:=by decide
 have l1:=zec hf
 have l2:=zpZ r
 have l3:=zf7 r.num
 have f1:=hf.n
 have f2:=hf.d
 walk_at "gg"
 refine zfb ?_
 walk_at "gg"
 refine zih (by decide) (by omega) (by rw [ziZ,List.length_cons,List.length_map]; omega) (fun l H1 n1 S1 e1=>?_)
 rw [ziZ] at e1
 walk_at "gg"
 refine zfb ?_
 walk_at "gg"
 refine zoi ?_
 rw [zmz]
 walk_at "gg"
 all_goals
   rename_i hn
   refine zed (.of e1) (zdV (j:=0) rfl) ?_
   first | rw [zp3 hn] | (walk_at "gg"; refine ztb (by omega) ?_; rw [ztu hn])
   walk_at "gg"
   refine ⟨l,_,rfl,.inl (.of e1),?_⟩
   walk_at "gg"
   . rename_i hc
     rw [List.length_map,List.length_cons,List.length_map] at hc
     omega
   refine zcR (by simp) (fun l2 H2 n2 S2 e2=>?_)
   walk_at "gg"
   refine .inl (zmG (.of (S2 _ _ e1)) (fun l3 H3 n3 S3 e3=>?_))
   rw [List.map_cons,zjY] at e3
   walk_at "gg"
   refine .inr (.inl ⟨_,_,_,_,rfl,rfl,S3 _ _ e2,e3,by simp; omega,fun l4 n4=>?_⟩)
   have S4 : zag H3 (upd H3 l4 (.lst ([.str (zaW r.num.natAbs)] ++ ((zhT r).map zaW).map V.str))):=zag.upd n4
   have e4 : (upd H3 l4 (.lst ([.str (zaW r.num.natAbs)] ++ ((zhT r).map zaW).map V.str))) l4 = some (.lst (((r.num.natAbs :: zhT r).map zaW).map V.str)):=zaB
   generalize upd H3 l4 (.lst ([.str (zaW r.num.natAbs)] ++ ((zhT r).map zaW).map V.str)) = H4 at *
   have T4:=S1.trans (S2.trans (S3.trans S4))
   walk_at "gg"
   refine zhv (.of e4) (o0:=none) (tl:=[some (.int m)]) rfl (fun _ y _=>y = .bl true) ?_ ?_
   . intro D j x ys o H5 hx inv
     rw [List.getElem?_map,List.getElem?_map] at hx
     obtain ⟨y,hy,rfl⟩:=Option.map_eq_some_iff.mp hx
     obtain ⟨n,hz,rfl⟩:=Option.map_eq_some_iff.mp hy
     have hj:=(List.getElem?_eq_some_iff.mp hz).1
     rw [List.length_cons] at hj
     have hb : ((zaT n).length : Int) <= m /\ (zaT n).length <= 400:=by
       rcases List.mem_cons.mp (List.mem_of_getElem? hz) with rfl | hm
       . exact ⟨m1,f1⟩
       . rw [zqu hm]; exact ⟨m2,f2⟩
     walk_at "gg"
     refine zgq hb.1 (by omega) (fun H6 S6=>?_)
     walk_at "gg"
     exact zbA inv (by omega) (fun _ _ _ _ _ h=>h) ⟨_,rfl⟩ S6 rfl
   . intro D ys H5 n5 S5 e5 l5 r5
     have ey : ys = (List.replicate ys.length true).map V.bl:=by
       refine List.ext_getElem (by simp) fun i h1 h2=>?_
       rw [r5 i ys[i] (List.getElem?_eq_getElem h1)]
       simp
     rw [ey] at e5
     walk_at "gg"
     refine zfN (.of e5) ?_
     rw [show (List.replicate ys.length true).all id = true by simp]
     walk_at "gg"
     refine zgj hf (fun v H6 S6 i6=>?_)
     walk_at "gg"
     . refine zcM i6 hf ?_
       walk_at "gg"
       refine zlA (zhg r) (zhg r) ?_
       rw [beq_self_eq_true]
       exact q _ (T4.trans (S5.trans S6))
     . rename_i e
       rw [zf0] at e
       cases e
def ze6 (K : PySem.W.Frag) (a : Ad) : Sp:=fun vs H Q E=>∃ x0 x1,vs = [x0,x1] /\ ∃ (l : Addr) (xs : List Rat) (m : Int),x0 = .ref l /\ x1 = .int m /\ SqL K H l ((xs.map zbg).map V.str) /\ xs.length <= 20 /\ (∀ x ∈ xs,Fit 400 x /\ ((zaT x.num.natAbs).length : Int) <= m /\ ((zaT x.den).length : Int) <= m) /\ ∀ v H',zag H H' -> Is K H' v (TN xs) -> Q v H'
theorem ze2 {K : PySem.W.Frag} {a : Ad} {H : Hp} {Q : VK} {E : XK} {l : Addr} {xs : List Rat} {m : Int} (h : SqL K H l ((xs.map zbg).map V.str)) (hl : xs.length <= 20) (hf : ∀ x ∈ xs,Fit 400 x /\ ((zaT x.num.natAbs).length : Int) <= m /\ ((zaT x.den).length : Int) <= m) (q : ∀ v H',zag H H' -> Is K H' v (TN xs) -> Q v H') : ze6 K a [.ref l,.int m] H Q E:=⟨_,_,rfl,l,xs,m,rfl,rfl,h,hl,hf,q⟩
theorem zr6 {xs : List Rat} {j : Nat} {x : V} (h : ((xs.map zbg).map V.str)[j]? = some x) : j < xs.length /\ x = .str (zbg (xs.getD j 0)):=by
 rw [List.getElem?_map,List.getElem?_map] at h
 obtain ⟨y,hy,rfl⟩:=Option.map_eq_some_iff.mp h
 obtain ⟨z,hz,rfl⟩:=Option.map_eq_some_iff.mp hy
 have hj : j < xs.length:=(List.getElem?_eq_some_iff.mp hz).1
 refine ⟨hj,?_⟩
 rw [List.getD_eq_getElem?_getD,hz]
 rfl
set_option maxHeartbeats 4000000 in
theorem ze0 (T : Txt K mg a) : zaM P w K mg base (CX1 P w) 4 a.numbers_in a.fd_numbers_in zcr (ze6 K a):=by
 refine T.d_numbers_in.F.ok1 ziF ?_ ?_
 walk_at "b2"
 refine ⟨_,(zac (za9 (zbm (zbe (zao (show zaq _ (.builtin "all") (zje K) from zeI rfl) rfl T.z_all zkA (zaa (zbT rfl (zbl.by (N':=["word","most"]) (src:=[none,some 1]) rfl (show zbc _ (zae zbU).names zbY ["word","most"] [none,some 1] = true from by decide +kernel)) (zc5 (pv 0)) (fun _ _ _ _ _=>(zaE (i:=0) (show (["word","most"] : List Str).Nodup from by decide) rfl (Or.inl rfl))) (fun _ _ _ _ _=>zbQ) (fun _ _ _ _ _=>(pcl (zf9 (K:=K) (mg:=mg) (a:=a) T) hr T.d_is_number_text (zaa (pv 0) (zaa (pv 1) zab))))) zab)))) (zad (zds T.x_NoText rfl rfl T.g_NoText zgz (zaa zba zab))) zaw)
     (zad (zak (za2 (show zaq _ (.type "tuple") (zb0 K) from zch) rfl T.z_tuple zbP (zaa (zbT rfl (zbl.by (N':=["word"]) (src:=[none]) rfl (show zbc _ (zae zbU).names zbY ["word"] [none] = true from by decide +kernel)) (zc5 (pv 0)) (fun _ _ _ _ _=>(zaE (i:=0) (show (["word"] : List Str).Nodup from by decide) rfl (Or.inl rfl))) (fun _ _ _ _ _=>zbQ) (fun _ _ _ _ _=>(pcl (zfS (K:=K) (mg:=mg) (a:=a) T) hr T.d_number_in (zaa (pv 0) zab)))) zab))))),?_⟩
 walk_at "cl"
 rw [show start zbY [x0,x1] = [some x0,some x1] from rfl]
 obtain ⟨l,xs,m,rfl,rfl,hs,hl,hz,q⟩:=h
 walk_at "gg"
 refine zhv hs (o0:=none) (tl:=[some (.int m)]) rfl (fun _ y _=>y = .bl true) ?_ ?_
 . intro D j x ys o H1 hx inv
   obtain ⟨hj,rfl⟩:=zr6 hx
   obtain ⟨b0,b1,b2⟩:=hz _ (getD_mem hj)
   walk_at "gg"
   refine zge b0 b1 b2 (fun H2 S2=>?_)
   walk_at "gg"
   exact zbA inv (by omega) (fun _ _ _ _ _ h=>h) ⟨_,rfl⟩ S2 rfl
 . intro D ys H1 n1 S1 e1 l1 r1
   have ey : ys = (List.replicate ys.length true).map V.bl:=by
     refine List.ext_getElem (by simp) fun i h1 h2=>?_
     rw [r1 i ys[i] (List.getElem?_eq_getElem h1)]
     simp
   rw [ey] at e1
   walk_at "gg"
   refine zfN (.of e1) ?_
   rw [show (List.replicate ys.length true).all id = true by simp]
   have hs1:=S1.seq hs
   walk_at "gg"
   refine zhv hs1 (o0:=none) (tl:=[]) rfl (fun j y H'=>Is K H' y (N (xs.getD j 0))) ?_ ?_
   . intro D j x ys o H2 hx inv
     obtain ⟨hj,rfl⟩:=zr6 hx
     obtain ⟨b0,b1,b2⟩:=hz _ (getD_mem hj)
     walk_at "gg"
     refine zgj b0 (fun v H3 S3 i3=>?_)
     walk_at "gg"
     exact zbA inv (by omega) (fun _ _ _ _ s h=>h.byN s) ⟨_,rfl⟩ S3 i3
   . intro D2 ys2 H2 n2 S2 e2 l2 r2
     rw [List.length_map,List.length_map] at l2
     walk_at "gg"
     refine zgB (.of e2) (fun lt H3 n3 S3 e3=>?_)
     exact q _ _ (S1.trans (S2.trans S3)) (zaY.mpr ⟨lt,ys2,rfl,.of e3,zeB l2 fun i x hx=>(r2 i x hx).by S3⟩)
def zg1 (K : PySem.W.Frag) (a : Ad) : Sp:=fun vs H Q E=>∃ x0 x1,vs = [x0,x1] /\ ∃ (x y : PySem.Str),x0 = .str x /\ x1 = .str y /\ (y.length == 0) = false /\ x.length <= sizeLine /\ (Txt.split x y).length <= sizeLine /\ ∀ l H',H l = none -> zag H H' -> H' l = some (.lst ((Txt.split x y).map V.str)) -> Q (.ref l) H'
theorem zly {K : PySem.W.Frag} {a : Ad} {H : Hp} {Q : VK} {E : XK} {x y : PySem.Str} (hy : (y.length == 0) = false) (h1 : x.length <= sizeLine) (h2 : (Txt.split x y).length <= sizeLine) (q : ∀ l H',H l = none -> zag H H' -> H' l = some (.lst ((Txt.split x y).map V.str)) -> Q (.ref l) H') : zg1 K a [.str x,.str y] H Q E:=⟨_,_,rfl,x,y,rfl,rfl,hy,h1,h2,q⟩
set_option maxHeartbeats 4000000 in
theorem zkP (T : Txt K mg a) : zaM P w K mg base (CX1 P w) 1 a.parts_of a.fd_parts_of zdJ (zg1 K a):=by
 refine T.d_parts_of.F.ok1 zld ?_ ?_
 walk_at "b2"
 have hgd:=hr.gd
 refine ⟨_,(zac (za9 (zbm (zbe (zao (show zaq _ (.builtin "isinstance") (zdw K) from zcE) rfl T.z_isinstance zaL (zaa (pv 0) (zaa (zcX (v:=.ty "str") rfl T.z_str zgE rfl) zab))))) (zad (zds T.x_NoText rfl rfl T.g_NoText zgz (zaa zba zab))) zaw)
     (zad (zak (zeZ PySem.F.plainAttrs_str PySem.F.slot_str_split PySem.F.type_str_split (show MtM _ "str.split" zgr from zhF) (pv 0) (zaa (pv 1) zab))))),?_⟩
 walk_at "cl"
 rw [show start zfs [x0,x1] = [some x0,some x1] from rfl]
 obtain ⟨x,y,rfl,rfl,hy,h1,h2,q⟩:=h
 walk_at "gg"
 refine zqa (d:=.str x) (zcQ.mpr rfl) ?_
 rw [show zoP (.str x) = true from rfl]
 walk_at "gg"
 refine zfb ?_
 walk_at "gg"
 exact zih hy h1 h2 q
def znl (H : Hp) (l : Addr) (rows : List (List PySem.Str)) : Prop:=∃ as : List Addr,H l = some (.lst (as.map V.ref)) /\ as.length = rows.length /\ ∀ j a,as[j]? = some a -> H a = some (.lst ((rows.getD j []).map V.str))
theorem zlo : ∀ {ys : List V},(∀ y ∈ ys,∃ b,y = V.ref b) -> ∃ as : List Addr,ys = as.map V.ref
 | [],_=>⟨[],rfl⟩
 | y :: r,h=>by
   obtain ⟨b,rfl⟩:=h y (by simp)
   obtain ⟨as,rfl⟩:=zlo (ys:=r) (fun z hz=>h z (List.mem_cons_of_mem _ hz))
   exact ⟨b :: as,rfl⟩
def zgN (K : PySem.W.Frag) (a : Ad) : Sp:=fun vs H Q E=>∃ x0,vs = [x0] /\ ∃ (x : PySem.Str) (ls : List PySem.Str),x0 = .str x /\ Txt.split x "\n" = ls /\ x.length <= sizeLine /\ ls.length <= 200 /\ (∀ y ∈ ls,y.length <= 2000 /\ (Txt.split y " ").length <= 2000) /\ ∀ l H',zag H H' -> znl H' l (ls.map fun y=>Txt.split y " ") -> Q (.ref l) H'
theorem zkO {K : PySem.W.Frag} {a : Ad} {H : Hp} {Q : VK} {E : XK} {x : PySem.Str} {ls : List PySem.Str} (e : Txt.split x "\n" = ls) (h1 : x.length <= sizeLine) (h2 : ls.length <= 200) (h3 : ∀ y ∈ ls,y.length <= 2000 /\ (Txt.split y " ").length <= 2000) (q : ∀ l H',zag H H' -> znl H' l (ls.map fun y=>Txt.split y " ") -> Q (.ref l) H') : zgN K a [.str x] H Q E:=⟨_,rfl,x,ls,rfl,e,h1,h2,h3,q⟩
set_option maxHeartbeats 4000000 in
theorem zlH (T : Txt K mg a) : zaM P w K mg base (CX1 P w) 2 a.lines_of a.fd_lines_of zdD (zgN K a):=by
 refine T.d_lines_of.F.ok1 zls ?_ ?_
 walk_at "b1"
 refine ⟨_,(zad (zak (zbT rfl (zbl.by (N':=["line"]) (src:=[none]) rfl (show zbc _ (zae zd0).names zdO ["line"] [none] = true from by decide +kernel)) (zc5 (pcx (zkP T) hr T.d_parts_of zlG (zaa (pv 0) (zaa zba zab)))) (fun _ _ _ _ _=>(zaE (i:=0) (show (["line"] : List Str).Nodup from by decide) rfl (Or.inl rfl))) (fun _ _ _ _ _=>zbQ) (fun _ _ _ _ _=>(show PE _ _ (tBM K _ zgr _ _) from (zeZ PySem.F.plainAttrs_str PySem.F.slot_str_split PySem.F.type_str_split (show MtM _ "str.split" zgr from zhF) (pv 0) (zaa zba zab))))))),?_⟩
 walk_at "cl"
 rw [show start zdO [x0] = [some x0] from rfl]
 obtain ⟨x,ls,rfl,e,h1,h2,h3,q⟩:=h
 have z : 4000 <= sizeLine:=by decide
 walk_at "gg"
 refine zly (by decide) h1 (by have:=e; rw [e]; omega) (fun l H1 n1 S1 e1=>?_)
 rw [e] at e1
 walk_at "gg"
 refine zdG (.of e1) (fun D i ys σ' H'=>(∃ o,σ' = [o]) /\ H1 D = none /\ zag H1 H' /\ H' D = some (.lst ys) /\ ys.length = i /\ ∀ j y,ys[j]? = some y -> ∃ b,y = .ref b /\ b ≠ D /\ H' b = some (.lst ((Txt.split (ls.getD j "") " ").map V.str))) ?_ ?_ ?_ ?_
 . exact fun D H' n s e=>⟨⟨none,rfl⟩,n,s,e,rfl,fun j y z=>by simp at z⟩
 . exact fun D i ys σ' H' h=>.of (h.2.2.1 _ _ e1)
 . rintro D i y ys σ' H' hy ⟨⟨o,rfl⟩,n,s,eD,el,r⟩
   rw [List.getElem?_map] at hy
   obtain ⟨y,hy2,rfl⟩:=Option.map_eq_some_iff.mp hy
   have hj : i < ls.length:=(List.getElem?_eq_some_iff.mp hy2).1
   have ey : ls.getD i "" = y:=by rw [List.getD_eq_getElem?_getD,hy2]; rfl
   obtain ⟨b1,b2⟩:=h3 y (List.mem_of_getElem? hy2)
   walk_at "gg"
   refine ⟨rfl,?_⟩
   walk_at "gg"
   refine zih (by decide) (by omega) (by omega) (fun c H3 n3 S3 e3=>?_)
   have eD3:=S3 _ _ eD
   refine zgl eD3 (by omega) (fun H6 E6 e6=>⟨⟨_,rfl⟩,n,(s.trans S3).grow n E6,e6,by simp [el],fun j z hz=>?_⟩)
   rcases Nat.lt_or_ge j ys.length with hl | hl
   . rw [List.getElem?_append_left hl] at hz
     obtain ⟨b,rfl,nb,eb⟩:=r j z hz
     exact ⟨b,rfl,nb,E6 _ _ nb (S3 _ _ eb)⟩
   . rw [List.getElem?_append_right hl] at hz
     obtain ⟨hk,hz⟩:=List.getElem?_eq_some_iff.mp hz
     have hk0 : j - ys.length = 0:=by simp at hk; omega
     have hji : j = i:=by omega
     subst hji
     have hz : z = .ref c:=by rw [<- hz]; simp [hk0]
     have nc : c ≠ D:=fun z=>by rw [z,eD] at n3; cases n3
     exact ⟨c,hz,nc,by rw [ey]; exact E6 _ _ nc e3⟩
 . rintro D ys σ' H' ⟨_,n,s,eD,el,r⟩
   refine q D H' (S1.trans s) ?_
   rw [List.length_map] at el
   have f : ∀ y ∈ ys,∃ b,y = V.ref b:=fun y hy=>by
     obtain ⟨j,hj,rfl⟩:=List.mem_iff_getElem.mp hy
     obtain ⟨b,hb,_⟩:=r j ys[j] (List.getElem?_eq_getElem hj)
     exact ⟨b,hb⟩
   obtain ⟨as,rfl⟩:=zlo f
   refine ⟨as,eD,by rw [List.length_map] at el ⊢; exact el,fun j b hb=>?_⟩
   obtain ⟨b',h1,_,h2⟩:=r j (.ref b) (by rw [List.getElem?_map,hb]; rfl)
   cases h1
   rw [h2]
   have hj : j < ls.length:=by rw [<- el,List.length_map]; exact (List.getElem?_eq_some_iff.mp hb).1
   rw [List.getD_eq_getElem?_getD,List.getD_eq_getElem?_getD,List.getElem?_map,List.getElem?_eq_getElem hj]
   rfl
def zcf (K : PySem.W.Frag) (a : Ad) : Sp:=fun vs H Q E=>∃ x0,vs = [x0] /\ ∃ (ra rb : Rat) (xs : List Rat),x0 = .str (zby ra rb xs) /\ zay ra rb /\ 1 <= xs.length /\ xs.length <= 8 /\ (∀ x ∈ xs,Fit 60 x) /\ (((∀ x ∈ xs,zaV x) /\ ∀ v H',zag H H' -> Is K H' v (SwD ra rb xs) -> Q v H') \/ ((∃ x ∈ xs,60 < x.den) /\ ∀ H',zag H H' -> E (.ref a.C_NoSwarm) none H'))
theorem ze1 {K : PySem.W.Frag} {a : Ad} {H : Hp} {Q : VK} {E : XK} {ra rb : Rat} {xs : List Rat} (ok : zay ra rb) (h1 : 1 <= xs.length) (h8 : xs.length <= 8) (hf : ∀ x ∈ xs,Fit 60 x) (hp : ∀ x ∈ xs,zaV x) (q : ∀ v H',zag H H' -> Is K H' v (SwD ra rb xs) -> Q v H') : zcf K a [.str (zby ra rb xs)] H Q E:=⟨_,rfl,ra,rb,xs,rfl,ok,h1,h8,hf,.inl ⟨hp,q⟩⟩
theorem zir {K : PySem.W.Frag} {a : Ad} {H : Hp} {Q : VK} {E : XK} {ra rb : Rat} {xs : List Rat} (ok : zay ra rb) (h1 : 1 <= xs.length) (h8 : xs.length <= 8) (hf : ∀ x ∈ xs,Fit 60 x) (hp : ∃ x ∈ xs,60 < x.den) (q : ∀ H',zag H H' -> E (.ref a.C_NoSwarm) none H') : zcf K a [.str (zby ra rb xs)] H Q E:=⟨_,rfl,ra,rb,xs,rfl,ok,h1,h8,hf,.inr ⟨hp,q⟩⟩
set_option maxHeartbeats 4000000 in
theorem zde (T : Txt K mg a) : zaM P w K mg base (CX1 P w) 6 a.read_swarm a.fd_read_swarm zcp (zcf K a):=by
 refine T.d_read_swarm.F.ok1 zdf ?_ ?_
 walk_at "b1"
 refine ⟨_,(zac (pst 1 zdf.nd (pcx (zlH T) hr T.d_lines_of zlG (zaa (pv 0) zab)))
     (zac (za9 (PW.pt (zem (zaC (show OpR _ (compareOp .NotEq) (zeU K) from zcL hu) (zao (show zaq _ (.builtin "len") (zdd K) from zaZ) rfl T.z_len zb3 (zaa (pv 1) zab)) zaf (zax _)) (zem (zaC (show OpR _ (compareOp .NotEq) (zeU K) from zcL hu) (zao (show zaq _ (.builtin "len") (zdd K) from zaZ) rfl T.z_len zb3 (zaa (pix (pv 1)) zab)) zaf (zax _)) (zdg (zaC zmV (zao (show zaq _ (.builtin "len") (zdd K) from zaZ) rfl T.z_len zb3 (zaa (pix (pv 1)) zab)) zaf (zax _)))))) (zad (zds T.x_NoText rfl rfl T.g_NoText zgz (zaa zba zab))) zaw)
     (zac (za9 (PW.pt (zem (zaC (show OpR _ (compareOp .NotEq) (zeU K) from zcL hu) (pix (pix (pv 1))) zba (zax _)) (zdg (zaC (show OpR _ (compareOp .NotEq) (zeU K) from zcL hu) (pix (pix (pv 1))) zba (zax _))))) (zad (zds T.x_NoText rfl rfl T.g_NoText zgz (zaa zba zab))) zaw)
     (zac (pst 2 zdf.nd (pcx (ze0 T) hr T.d_numbers_in zlG (zaa (zf8 zlW (pix (pv 1)) (zhu zaf) zhq) (zaa (zdy rfl T.c_NUMBER_FIGURES) zab))))
     (zad (zak (pcx (zg0 T) hr T.d_swarm_of zlG (zaa (pv 2) (zaa (pcx (ze0 T) hr T.d_numbers_in zlG (zaa (zf8 zlW (pix (pv 1)) (zhu zaf) zhq) (zaa (zdy rfl T.c_NUMBER_FIGURES) zab))) zab))))))))),?_⟩
 walk_at "cl"
 rw [show start zfF [x0] = [some x0,none,none] from rfl]
 obtain ⟨ra,rb,xs,rfl,ok,h1,h8,hf,hc⟩:=h
 have z : 4000 <= sizeLine:=by decide
 have fr : ∀ x ∈ [ra,rb],Fit 60 x:=zit ok
 have w1:=zca fr
 have w2:=zca hf
 have w3 : xs.length * (2 * 60 + 3) <= 8 * 123:=Nat.mul_le_mul_right _ h8
 have l1 : (PySem.Str.ofString "rule ").length = 5:=by decide
 have l2 : (PySem.Str.ofString "worms ").length = 6:=by decide
 have l3 : (PySem.Str.ofString "\nworms ").length = 7:=by decide
 have hx : xs ≠ []:=fun e=>by rw [e] at h1; simp at h1
 have p1:=zgQ (x:=PySem.Str.ofString "rule ") (xs:=[ra,rb]) (by simp) zqP (by decide)
 have p2:=zgQ (x:=PySem.Str.ofString "worms ") hx zpS (by decide)
 simp only [List.length_cons,List.length_nil] at w1
 walk_at "gg"
 refine zkO (zlw ra rb xs) (by unfold zby; rw [zai,zai,zai]; omega) (by simp) (fun y hy=>?_) (fun l H1 S1 L1=>?_)
 . simp only [List.mem_cons,List.not_mem_nil,or_false] at hy
   rcases hy with rfl | rfl
   . rw [p1,zai]; simp; omega
   . rw [p2,zai]; simp; omega
 simp only [List.map_cons,List.map_nil,p1,p2] at L1
 obtain ⟨as,e1,n1,r1⟩:=L1
 obtain ⟨a0,a1,rfl⟩ : ∃ a0 a1,as = [a0,a1]:=by
   match as,n1 with
   | [a0,a1],_=>exact ⟨a0,a1,rfl⟩
   | [],e=>simp at e
   | [_],e=>simp at e
   | _ :: _ :: _ :: _,e=>simp at e
 have g0 : H1 a0 = some (.lst ((PySem.Str.ofString "rule" :: [ra,rb].map zbg).map V.str)):=r1 0 a0 rfl
 have g1 : H1 a1 = some (.lst ((PySem.Str.ofString "worms" :: xs.map zbg).map V.str)):=r1 1 a1 rfl
 clear r1 n1
 walk_at "gg"
 refine ⟨l,_,rfl,.inl (.of e1),?_⟩
 walk_at "gg"
 . rename_i e; simp at e
 refine ⟨a0,_,rfl,.inl (.of g0),?_⟩
 walk_at "gg"
 . rename_i e; simp at e
 refine ⟨a1,_,rfl,.inl (.of g1),?_⟩
 walk_at "gg"
 . rename_i e; simp at e; omega
 refine zew (zcC _) (zcC _) ?_
 rw [beq_self_eq_true]
 walk_at "gg"
 refine zed (.of g1) (zdV (j:=0) rfl) ?_
 walk_at "gg"
 refine zew (zcC _) (zcC _) ?_
 rw [beq_self_eq_true]
 walk_at "gg"
 refine zmG (.of g0) (fun l3 H3 n3 S3 e3=>?_)
 rw [List.map_cons,zjY] at e3
 walk_at "gg"
 refine ze2 (xs:=[ra,rb]) (.of e3) (by simp) (fun x hx=>⟨(fr x hx).mono (by decide),by have:=(fr x hx).n; omega,by have:=(fr x hx).d; omega⟩) (fun vr H4 S4 i4=>?_)
 have i4 : Is K H4 vr (R ra rb):=i4
 have T4:=S3.trans S4
 have e4:=T4 _ _ e1
 have g4:=T4 _ _ g1
 walk_at "gg"
 refine zmG (.of g4) (fun l5 H5 n5 S5 e5=>?_)
 rw [List.map_cons,zjY] at e5
 walk_at "gg"
 refine ze2 (.of e5) (by omega) (fun x hx=>⟨(hf x hx).mono (by decide),by have:=(hf x hx).n; omega,by have:=(hf x hx).d; omega⟩) (fun vp H6 S6 i6=>?_)
 have T6:=S5.trans S6
 have U6:=S1.trans (T4.trans T6)
 walk_at "gg"
 rcases hc with ⟨hp,q⟩ | ⟨hp,q⟩
 . exact zgV (i4.by T6) ok (.inr i6) h1 h8 hp (fun v H7 S7 i7=>q v H7 (U6.trans S7) i7)
 . refine zke (i4.by T6) ok ?_ (fun H7 S7=>q H7 (U6.trans S7))
   refine .inr (.inl ⟨xs.map N,.inr i6,fun e he x hx=>?_,?_⟩)
   . obtain ⟨y,hy,rfl⟩:=List.mem_map.mp he
     rw [<- zr1 hx]
     exact ((hf y hy).mono (by decide)).bdr
   . obtain ⟨x,hx,hd⟩:=hp
     have e : (xs.map N).all phD = false:=by
       rw [List.all_eq_false]
       refine ⟨N x,List.mem_map.mpr ⟨x,hx,rfl⟩,?_⟩
       rw [zqn]
       unfold ziA
       rw [decide_eq_false (show ¬ (x.den : Int) <= 60 by omega)]
       simp
     rw [e,Bool.and_false]
def Pen (H : Hp) (p : Addr) (k : Int) : Prop:=0 <= k /\ ∃ (a : Int) (b : Bool),H p = some (.lst [.int a,.bl b])
theorem Pen.same {H H' : Hp} {p : Addr} {k : Int} (s : zag H H') (h : Pen H p k) : Pen H' p k:=by
 obtain ⟨k0,x,y,e⟩:=h
 exact ⟨k0,x,y,s _ _ e⟩
theorem Pen.exc {H H' : Hp} {p l : Addr} {k : Int} (h : Pen H p k) (s : Exc l H H') (n : p ≠ l) : Pen H' p k:=by
 obtain ⟨k0,x,y,e⟩:=h
 exact ⟨k0,x,y,s _ _ n e⟩
theorem Pen.ne {H : Hp} {p q : Addr} {k : Int} (e : H q = none) (h : Pen H p k) : q ≠ p:=by
 obtain ⟨_,x,y,z⟩:=h
 exact (zaQ z e).symm
def zhE (K : PySem.W.Frag) : Sp:=fun vs H Q _=>∃ x0 x1,vs = [x0,x1] /\ ∃ (a : Addr) (ns : List Int) (k : Int),x0 = .ref a /\ x1 = .int k /\ SqF K H a (ns.map V.int) /\ ns.length <= 63 /\ 0 <= k /\ k <= 1000 /\
 ∀ p H',H p = none -> zag H H' -> Pen H' p 0 -> Q (.ref p) H'
theorem zmn {K : PySem.W.Frag} {H : Hp} {Q : VK} {E : XK} {a : Addr} {ns : List Int} {k : Int} (h : SqF K H a (ns.map V.int)) (hl : ns.length <= 63) (h0 : 0 <= k) (h1 : k <= 1000)
   (q : ∀ p H',H p = none -> zag H H' -> Pen H' p 0 -> Q (.ref p) H') : zhE K [.ref a,.int k] H Q E:=⟨_,_,rfl,a,ns,k,rfl,rfl,h,hl,h0,h1,q⟩
local macro_rules | `(tactic| walk_at "pen")=>`(tactic| first
 | assumption
 | (apply Pen.same; (focus assumption); walk_at "pen"))
local macro_rules | `(tactic| walk_at "ne")=>`(tactic| ((with_reducible apply Pen.ne); (focus assumption); walk_at "pen"))
local macro_rules | `(tactic| walk_at "penle")=>`(tactic| exact Pen.le (by walk_at "pen") (by omega))
set_option maxHeartbeats 4000000 in
theorem zme (T : Txt K mg a) : zaM P w K mg base CX0 1 a.law_pen a.fd_law_pen zeT (zhE K):=by
 refine T.d_law_pen.F.ok zfa ?_ ?_
 walk_at "b2"
 refine ⟨_,(zac (pst 2 zfa.nd (zam zaz (zam zaK zaf (pv 1)) zaf))
     (zac (za9 (zaC zmU (zao (show zaq _ (.builtin "len") (zdd K) from zaZ) rfl T.z_len zb3 (zaa (pv 0) zab)) zaf (zax _)) (zad (pst 2 zfa.nd (zam zaz (zd8 zcl (pv 0) (zam zck (pv 1) (zao (show zaq _ (.builtin "len") (zdd K) from zaZ) rfl T.z_len zb3 (zaa (pv 0) zab))) (fun _ _=>rfl)) (zam zaK (zam za0 (pv 1) (zao (show zaq _ (.builtin "len") (zdd K) from zaZ) rfl T.z_len zb3 (zaa (pv 0) zab))) zaf)))) zaw)
     (zac (za9 (PW.pt (zpc (zaC zmV (pv 1) (zao (show zaq _ (.builtin "len") (zdd K) from zaZ) rfl T.z_len zb3 (zaa (pv 0) zab)) (zax _)) (znw (zaC zrX (pv 2) (zhh (v:=1000000000000000000) ⟨by decide,by decide,by decide⟩ (by decide +kernel)) (zax _))))) (zad (zak (zbo (zaa (pv 2) (zaa zcn zab))))) zaw)
     (zad (zak (zbo (zaa (zam zck (zam zaK (zam zaz (zam zaz (zam zck (pv 2) zaf) (zam zaK zaf (pv 1))) zaf) zaf) zaf) (zaa zcn zab)))))))),?_⟩
 walk_at "cl"
 rw [show start ziP [x0,x1] = [some x0,some x1,none] from rfl]
 obtain ⟨a',ns,k,rfl,rfl,hs,hl,h0,h1,q⟩:=h
 have fin : ∀ (x : Int) (y : Bool),mkL K [.int x,.bl y] H Q:=fun x y=>zcR (by show 2 <= 1000; decide) fun p H' hp s e=>q p H' hp s ⟨by decide,x,y,e⟩
 walk_at "gg"
 refine zdZ hs.sq ?_
 walk_at "gg"
 . rename_i hz
   rw [List.length_map] at hz
   refine zdZ hs.sq ?_
   rw [List.length_map]
   walk_at "gg"
   refine ztl hs (Int.emod_nonneg _ (by omega)) (by rw [List.length_map]; exact Int.emod_lt_of_pos _ (by omega)) (fun z=>?_)
   walk_at "gg"
   refine zdZ hs.sq ?_
   rw [List.length_map]
   walk_at "gg"
   refine zqi ⟨by omega,(Bd.of128 (by omega) (by omega)).mono (by decide)⟩ ?_
   walk_at "gg"
   refine zdZ hs.sq ?_
   walk_at "gg"
   all_goals exact fin _ _
 . refine zdZ hs.sq ?_
   walk_at "gg"
   all_goals exact fin _ _
def zgR (K : PySem.W.Frag) : Sp:=fun vs H Q _=>∃ x0 x1,vs = [x0,x1] /\ ∃ (p : Addr) (k m : Int),x0 = .ref p /\ x1 = .int m /\ Pen H p k /\ 0 < m /\ Bd 8999 m /\
 ∀ (r : Int) (H' : Hp),0 <= r -> r < m -> Exc p H H' -> zaO H H' -> Pen H' p k -> Q (.int r) H'
theorem zk5 {K : PySem.W.Frag} {H : Hp} {Q : VK} {E : XK} {p : Addr} {k m : Int} (h : Pen H p k) (hm : 0 < m) (hb : Bd 8999 m)
   (q : ∀ (r : Int) (H' : Hp),0 <= r -> r < m -> Exc p H H' -> zaO H H' -> Pen H' p k -> Q (.int r) H') : zgR K [.ref p,.int m] H Q E:=⟨_,_,rfl,p,k,m,rfl,rfl,h,hm,hb,q⟩
local macro_rules | `(tactic| walk_at "gs")=>`(tactic| ((with_reducible apply zk5); (focus walk_at "pen"); (focus (first | decide | omega)); (focus walk_at "bd128"); intro _ _ _ _ _ _ _))
set_option maxHeartbeats 4000000 in
theorem zar (T : Txt K mg a) : zaM P w K mg base CX0 1 a.law_draw a.fd_law_draw zdF (zgR K):=by
 refine T.d_law_draw.F.ok zea ?_ ?_
 walk_at "b2"
 refine ⟨_,(zac (za9 (zbe (pix (pv 0))) (zac (pst 2 zea.nd (zam zck (pix (pv 0)) (pv 1)))
     (zac (zjP (zam za0 (pix (pv 0)) (pv 1)) (zku (pv 0) zaf zfY))
     (zad (zak (pv 2))))) zaw)
     (zac (zjP (zam zck (zam zaz (zam zaK (pix (pv 0)) zaf) zaf) zaf) (zku (pv 0) zaf zfY))
     (zac (pst 3 zea.nd (zam zck (zam zaK (zam zaz (zam zaz (zam zaK (zam zck (pix (pv 0)) zaf) zaf) (zam za0 (pix (pv 0)) zaf)) zaf) zaf) zaf))
     (zad (zak (zam zck (zam za0 (pv 3) zaf) (pv 1))))))),?_⟩
 walk_at "cl"
 rw [show start zhG [x0,x1] = [some x0,some x1,none,none] from rfl]
 obtain ⟨p,k,m,rfl,rfl,⟨hk0,x,y,hp⟩,hm,hbm,q⟩:=h
 walk_at "gg"
 all_goals
   exact q _ _ (Int.emod_nonneg _ (by omega)) (Int.emod_lt_of_pos _ hm) (by walk_at "exc") (Exc.keep (p:=p) (by walk_at "exc") hp) ⟨hk0,_,_,by assumption⟩
def zfq (K : PySem.W.Frag) : Sp:=fun vs H Q _=>∃ x0 x1,vs = [x0,x1] /\ ∃ (t b : Int),x0 = .int t /\ x1 = .int b /\ 0 < b /\ Bd 8999 b /\ ∀ v H',zag H H' -> Is K H' v (N (Rat.divInt t b)) -> Q v H'
theorem zh7 {K : PySem.W.Frag} {H : Hp} {Q : VK} {E : XK} {t b : Int} (hb : 0 < b) (hB : Bd 8999 b) (q : ∀ v H',zag H H' -> Is K H' v (N (Rat.divInt t b)) -> Q v H') : zfq K [.int t,.int b] H Q E:=⟨_,_,rfl,t,b,rfl,rfl,hb,hB,q⟩
theorem zod {K : PySem.W.Frag} {H : Hp} {Q : VK} {E : XK} {t b : Int} (hb : 0 < b) (h1 : -100000000000000000000000000000000000000 <= t) (h2 : t <= 100000000000000000000000000000000000000) (h3 : -100000000000000000000000000000000000000 <= b) (h4 : b <= 100000000000000000000000000000000000000)
   (q : ∀ v H' (x : Rat),zag H H' -> Is K H' v (N x) -> x = Rat.divInt t b -> Bdr 128 x -> Q v H') : zfq K [.int t,.int b] H Q E :=
 zh7 hb ((Bd.of128 h3 h4).mono (by decide)) fun v H' s h=>q v H' _ s h rfl (Bdr.divInt (show b ≠ 0 by omega) (Bd.of128 h1 h2) (Bd.of128 h3 h4))
local macro_rules | `(tactic| walk_at "gs")=>`(tactic| ((with_reducible apply zod); (focus omega); (focus omega); (focus omega); (focus omega); (focus omega); intro _ _ _ _ _ _ _))
set_option maxHeartbeats 4000000 in
theorem zdQ (T : Txt K mg a) : zaM P w K mg base CX0 1 a.law_low a.fd_law_low zeO (zfq K):=by
 refine T.d_law_low.F.ok zfv ?_ ?_
 walk_at "b2"
 refine ⟨_,(zac (zpJ (i:=2) (j:=3) rfl zfv.nd rfl rfl (by decide) rfl rfl (zaa (zao zdv rfl T.z_abs zis (zaa (pv 0) zab)) (zaa (pv 1) zab)) rfl)
     (zac (zh6 PassesOwn.never (zaC zmU (pv 3) zaf (zax _)) (zad (zpJ (i:=2) (j:=3) rfl zfv.nd rfl rfl (by decide) rfl rfl (zaa (pv 3) (zaa (zam zck (pv 2) (pv 3)) zab)) rfl)))
     (zad (zak (za8 (zaa (zam za0 (pv 0) (pv 2)) (zaa (zam za0 (pv 1) (pv 2)) zab))))))),?_⟩
 walk_at "cl"
 rw [show start zja [x0,x1] = [some x0,some x1,none,none] from rfl]
 obtain ⟨t,b,rfl,rfl,hp,hB,q⟩:=h
 have hb : b ≠ 0:=by omega
 walk_at "gg"
 refine zlu (fun σ H'=>∃ (x y : Int),σ = [some (.int t),some (.int b),some (.int x),some (.int y)] /\ 0 <= x /\ 0 <= y /\ Int.gcd x y = Int.gcd t b /\ H' = H) (fun σ=>(ixI σ 3).toNat) ⟨_,_,rfl,by split <;> omega,by omega,zhn t b,rfl⟩ ?_
 rintro σ H' ⟨x,y,rfl,hx,hy,hg,rfl⟩
 have hgb : Bd 8999 ((Int.gcd t b : Nat) : Int):=hB.le (by
   have : Int.gcd t b ∣ b.natAbs:=Int.gcd_dvd_natAbs_right t b
   have:=Nat.le_of_dvd (by omega) this
   simpa using this)
 walk_at "gg"
 . refine zns ?_
   walk_at "gg"
   have h1:=Int.emod_nonneg x (show y ≠ 0 by omega)
   have h2:=Int.emod_lt_of_pos x (show 0 < y by omega)
   refine ⟨?_,_,_,rfl,hy,h1,?_,rfl⟩
   . show (x % y).toNat < y.toNat
     omega
   . rw [<- hg]; exact zlM (by omega) hx
 . rename_i h0
   have e0 : y = 0:=by omega
   subst e0
   have e : x = ((Int.gcd t b : Nat) : Int):=by
     rw [<- hg,Int.gcd_zero_right]; omega
   have e1 : x = dv t b:=by unfold dv; rw [if_neg (by omega),<- e]
   rw [e1]
   have hd : zju t (dv t b):=⟨zsc hb,by unfold dv; rw [if_neg (by omega)]; exact hgb⟩
   refine zqi hd ?_
   walk_at "gg"
   exact zhk (zpu hb) (ztm hb) q
theorem zi8 {t w m u : Int} (h1 : 1 <= w) (h2 : w <= 8) (h3 : 1 <= t) (h4 : t <= 4 * w) (g1 : 1 <= u) (g2 : u <= 12) (g3 : 0 <= m) (g4 : m <= u) (h : w * u <= t * u + m * w) : zay (Rat.divInt t w) (Rat.divInt m u):=by
 obtain ⟨a1,a2,a3⟩:=ztN (x:=Rat.divInt t w) rfl h1 h2 h3 h4
 obtain ⟨b1,b2,b3⟩:=zuA (y:=Rat.divInt m u) rfl g1 g2 g3 g4
 refine ⟨a1,a2,a3,b1,b2,b3,?_⟩
 have k1:=zan t (show w ≠ 0 by omega)
 have k2:=zan m (show u ≠ 0 by omega)
 have hw : (0 : Rat) < (w : Rat):=Rat.intCast_pos.mpr (by omega)
 have hu : (0 : Rat) < (u : Rat):=Rat.intCast_pos.mpr (by omega)
 have hc : ((w * u : Int) : Rat) <= ((t * u + m * w : Int) : Rat):=Rat.intCast_le_intCast.mpr h
 rw [Rat.intCast_mul,Rat.intCast_add,Rat.intCast_mul,Rat.intCast_mul] at hc
 refine Rat.not_lt.mp fun z=>?_
 have z2:=Rat.mul_lt_mul_of_pos_right z (Rat.mul_pos hw hu)
 have e : (Rat.divInt t w + Rat.divInt m u) * ((w : Rat) * (u : Rat)) = (t : Rat) * (u : Rat) + (m : Rat) * (w : Rat):=by
   rw [<- k1,<- k2]
   grind
 rw [e,Rat.one_mul] at z2
 exact absurd hc (Rat.not_le.mpr z2)
def zgZ (K : PySem.W.Frag) : Sp:=fun vs H Q _=>∃ x0,vs = [x0] /\ ∃ (p : Addr) (k : Int),x0 = .ref p /\ Pen H p k /\ ∀ v H' (a b : Rat),Exc p H H' -> zaO H H' -> Pen H' p k -> Is K H' v (R a b) -> zay a b -> Q v H'
theorem zlE {K : PySem.W.Frag} {H : Hp} {Q : VK} {E : XK} {p : Addr} {k : Int} (h : Pen H p k) (q : ∀ v H' (a b : Rat),Exc p H H' -> zaO H H' -> Pen H' p k -> Is K H' v (R a b) -> zay a b -> Q v H') :
   zgZ K [.ref p] H Q E:=⟨_,rfl,p,k,rfl,h,q⟩
set_option maxHeartbeats 4000000 in
theorem zkS (T : Txt K mg a) : zaM P w K mg base CX0 2 a.law_rule a.fd_law_rule zdB (zgZ K):=by
 refine T.d_law_rule.F.ok zbL ?_ ?_
 walk_at "b1"
 refine ⟨_,(zac (pst 1 zbL.nd (zam zaz zaf (pcl (zar T) hr T.d_law_draw (zaa (pv 0) (zaa zaf zab)))))
     (zac (pst 2 zbL.nd (zd8 zcl (zbo (zaa (zam zaz zaf (pcl (zar T) hr T.d_law_draw (zaa (pv 0) (zaa (zam zaK zaf (pv 1)) zab)))) (zaa (zao (show zaq _ (.builtin "max") zoz from zmk rfl) rfl T.z_max zqh (zaa zaf (zaa (zam zoO (zam zaz (pv 1) (pcl (zar T) hr T.d_law_draw (zaa (pv 0) (zaa zaf zab)))) zaf) zab))) zab))) (pcl (zar T) hr T.d_law_draw (zaa (pv 0) (zaa zaf zab))) (fun _ _=>rfl)))
     (zac (pst 3 zbL.nd (zam zaz zaf (pcl (zar T) hr T.d_law_draw (zaa (pv 0) (zaa zaf zab)))))
     (zac (pst 4 zbL.nd (pcl (zar T) hr T.d_law_draw (zaa (pv 0) (zaa (zam zaz (pv 3) zaf) zab))))
     (zac (za9 (zaC zmV (zam zaz (zam zaK (pv 2) (pv 3)) (zam zaK (pv 4) (pv 1))) (zam zaK (pv 1) (pv 3)) (zax _)) (zad (pst 4 zbL.nd (pv 3))) zaw)
     (zad (zak (za8 (zaa (pcl (zdQ T) hr T.d_law_low (zaa (pv 2) (zaa (pv 1) zab))) (zaa (pcl (zdQ T) hr T.d_law_low (zaa (pv 4) (zaa (pv 3) zab))) zab)))))))))),?_⟩
 walk_at "cl"
 rw [show start zij [x0] = [some x0,none,none,none,none] from rfl]
 obtain ⟨p,k,rfl,hp,q⟩:=h
 walk_at "ga"
 refine zqx (fun m m1 m2 m3=>?_)
 walk_at "ga"
 all_goals
   rename_i r5 H9 c0 c1 E9 K9 P9 r4 H8 d0 d1 E8 K8 P8 r3 H7 f0 f1 E7 K7 P7 l6 H6 n6 S6 e6 r2 H5 g0 g1 E5 K5 P5 z hz r1 H4 j0 j1 E4 K4 P4 r H3 k0 k1 E3 K3 P3 hlt v2 H2 x1 S2 i2 ex b2 v1 H1 x S1 i1 ey b1 v Hf Sf iF
   have hz4 : 1 <= z /\ z <= 4 * (1 + r5):=by omega
   refine q v Hf x1 x (by walk_at "exc") (by walk_at "keep") (by walk_at "pen") iF ?_
   rw [ex,ey]
 . refine zi8 (by omega) (by omega) hz4.1 hz4.2 (by omega) (by omega) (by omega) (by omega) ?_
   have:=Int.mul_nonneg (show 0 <= z by omega) (show 0 <= 1 + r1 by omega)
   rw [Int.mul_comm (1 + r5) (1 + r1)]
   omega
 . exact zi8 (by omega) (by omega) hz4.1 hz4.2 (by omega) (by omega) (by omega) (by omega) (Int.not_lt.mp hlt)
def zeW (K : PySem.W.Frag) : Sp:=fun vs H Q _=>∃ x0 x1,vs = [x0,x1] /\ ∃ (p : Addr) (k : Int) (n : Nat),x0 = .ref p /\ x1 = .int (n : Int) /\ Pen H p k /\ n <= 8 /\ ∀ (l : Addr) (H' : Hp) (us : List V) (xs : List Rat),H l = none -> Exc p H H' -> zaO H H' -> Pen H' p k -> H' l = some (.lst us) -> IsAll K H' us (xs.map N) -> xs.length = n -> (∀ x ∈ xs,zaV x) -> Q (.ref l) H'
theorem ziB {K : PySem.W.Frag} {H : Hp} {Q : VK} {E : XK} {p : Addr} {k : Int} {n : Nat} (h : Pen H p k) (h8 : n <= 8) (q : ∀ (l : Addr) (H' : Hp) (us : List V) (xs : List Rat),H l = none -> Exc p H H' -> zaO H H' -> Pen H' p k -> H' l = some (.lst us) -> IsAll K H' us (xs.map N) -> xs.length = n -> (∀ x ∈ xs,zaV x) -> Q (.ref l) H') : zeW K [.ref p,.int (n : Int)] H Q E:=⟨_,_,rfl,p,k,n,rfl,rfl,h,h8,q⟩
theorem zqJ {K : PySem.W.Frag} {H : Hp} {us : List V} {xs : List Rat} {v : V} {x : Rat} (t : IsAll K H us (xs.map N)) (iv : Is K H v (N x)) (j : Nat) : IsAll K H (us.set j v) ((xs.set j x).map N):=by
 have hl:=t.length
 rw [List.length_map] at hl
 refine zi7 (by rw [List.length_set,List.length_map,List.length_set,hl]) fun i w hw=>?_
 rw [List.getElem?_set] at hw
 rw [List.getD_eq_getElem?_getD,List.getElem?_map,List.getElem?_set]
 split at hw
 . rename_i e
   rw [if_pos e]
   split at hw
   . rename_i z
     rw [if_pos (by omega)]
     cases hw
     exact iv
   . cases hw
 . rename_i e
   rw [if_neg e]
   obtain ⟨hi,ix⟩:=zf5 t hw
   rw [List.getD_eq_getElem?_getD,List.getElem?_eq_getElem hi] at ix
   rw [List.getElem?_eq_getElem hi]
   exact ix
theorem zrH {xs : List Rat} {j : Nat} {x : Rat} {P : Rat -> Prop} (h : ∀ y ∈ xs,P y) (hx : P x) : ∀ y ∈ xs.set j x,P y:=fun y hy=>by
 rcases List.mem_or_eq_of_mem_set hy with h' | h'
 . exact h y h'
 . rw [h']; exact hx
set_option maxHeartbeats 4000000 in
theorem ziy (T : Txt K mg a) : zaM P w K mg base CX0 2 a.law_phases a.fd_law_phases zco (zeW K):=by
 refine T.d_law_phases.F.ok zbi ?_ ?_
 walk_at "b2"
 refine ⟨_,(zac (pst 2 zbi.nd (zam zaz zaf (pcl (zar T) hr T.d_law_draw (zaa (pv 0) (zaa zaf zab)))))
     (zac (pst 3 zbi.nd (pcl (zar T) hr T.d_law_draw (zaa (pv 0) (zaa zaf zab))))
     (zac (pst 4 zbi.nd (zbo zab))
     (zac (zd2 PassesOwn.never rfl (zcG rfl T.z_range (zaa (pv 1) zab)) (zaE (i:=5) zbi.nd rfl (Or.inl rfl)) (zac (pst 6 zbi.nd (zd8 zcl (zbo (zaa (pv 2) (zaa (pv 2) (zaa (zam zaz zaf (pcl (zar T) hr T.d_law_draw (zaa (pv 0) (zaa zaf zab)))) zab)))) (pv 3) (fun _ _=>rfl)))
     (zac (zhm (zeZ PySem.F.plainAttrs_list PySem.F.slot_list_append PySem.F.type_list_append zeG (pv 4) (zaa (pcl (zdQ T) hr T.d_law_low (zaa (pcl (zar T) hr T.d_law_draw (zaa (pv 0) (zaa (pv 6) zab))) (zaa (pv 6) zab))) zab)))
     (zad (za9 (PW.pt (zpc (zaC zmU (pv 5) zaf (zax _)) (znw (zaC (show OpR _ (compareOp .Eq) (zig K) from zfe hu) (pcl (zar T) hr T.d_law_draw (zaa (pv 0) (zaa zaf zab))) zaf (zax _))))) (zad (zjP (zd8 zcl (pv 4) (pcl (zar T) hr T.d_law_draw (zaa (pv 0) (zaa (pv 5) zab))) (fun _ _=>rfl)) (zku (pv 4) (pv 5) zfY))) zaw)))))
     (zad (zak (pv 4))))))),?_⟩
 walk_at "cl"
 rw [show start zgb [x0,x1] = [some x0,some x1,none,none,none,none,none] from rfl]
 obtain ⟨p,k,n,rfl,rfl,hp,h8,q⟩:=h
 walk_at "ga"
 rename_i r H1 r0 r1 E1 K1 P1 w H2 w0 w1 E2 K2 P2 lf H3 hf S3 e3
 have nef : lf ≠ p:=Pen.ne hf P2
 have hfr : H lf = none:=by
   cases e : H lf with
   | none=>rfl
   | some o=>rw [E2 lf o nef (E1 lf o nef e)] at hf; cases hf
 have X0 : Exc p H H3:=E1.trans (E2.trans S3.exc)
 have K0 : zaO H H3:=K1.trans (K2.trans S3.keep)
 have P0:=P2.same S3
 clear E1 K1 P1 hp E2 K2 P2 S3 hf
 refine zcF (n:=(n : Int)) (by omega) (by omega) (fun i σ H'=>∃ (o5 o6 : Option V) (us : List V) (xs : List Rat),σ = [some (.ref p),some (.int (n : Int)),some (.int (1 + r)),some (.int w),some (.ref lf),o5,o6] /\ Exc p H H' /\ zaO H H' /\ Pen H' p k /\ H' lf = some (.lst us) /\ IsAll K H' us (xs.map N) /\ xs.length = i /\ ∀ x ∈ xs,zaV x)
   ⟨_,_,[],[],rfl,X0,K0,P0,e3,.nil,rfl,by simp⟩ ?_ ?_
 . rintro i σ H4 hi ⟨o5,o6,us,xs,rfl,X4,K4,P4,e4,t4,hlen,ph⟩
   have hi8 : i < 8:=by omega
   have hul : us.length = xs.length:=by rw [t4.length,List.length_map]
   walk_at "ga"
   rename_i u H5 u0 u1 E5 K5 P5 l6 H6 n6 S6 e6 b hb
   have b0 : 1 <= b:=by omega
   have b1 : b <= 60:=by omega
   have e7 : H6 lf = some (.lst us):=S6 _ _ (E5.at nef e4)
   have t7 : IsAll K H6 us (xs.map N):=IsAll.keep (K5.trans S6.keep) _ _ (zbW _) t4
   have X7 : Exc p H H6:=X4.trans (E5.trans S6.exc)
   have L7 : zaO H H6:=K4.trans (K5.trans S6.keep)
   have P7:=P5.same S6
   clear E5 K5 P5 S6 e6 n6 X4 K4 P4 e4 t4 hb
   walk_at "gg"
   refine zl9 (SqL.of e7) ?_
   walk_at "gg"
   rename_i t H8 t0 t1 E8 K8 P8 v9 H9 x9 S9 i9 ex9 b9
   have e9:=S9 _ _ (E8.at nef e7)
   have t9 : IsAll K H9 us (xs.map N):=IsAll.keep (K8.trans S9.keep) _ _ (zbW _) t7
   have px : zaV x9:=by rw [ex9]; exact zoZ (by omega) (by omega) (by omega)
   refine zgs e9 (by omega) (fun H10 E10 e10=>?_)
   have k10:=E10.keep e9
   have t10 : IsAll K H10 (us ++ [v9]) ((xs ++ [x9]).map N):=by
     rw [List.map_append]
     exact (IsAll.keep k10 _ _ (zbW _) t9).append (.cons (i9.byN k10) .nil)
   have ph10 : ∀ x ∈ xs ++ [x9],zaV x:=fun y hy=>by
     rcases List.mem_append.mp hy with h | h
     . exact ph y h
     . rw [List.mem_singleton.mp h]; exact px
   have X9 : Exc p H H9:=X7.trans (E8.trans S9.exc)
   have X10 : Exc p H H10:=fun b o hb h=>E10 b o (zaQ h hfr) (X9 b o hb h)
   have L10 : zaO H H10:=L7.trans (K8.trans (S9.keep.trans k10))
   have P10 : Pen H10 p k:=(P8.same S9).exc E10 (Ne.symm nef)
   have hl10 : (xs ++ [x9]).length = i + 1:=by rw [List.length_append,hlen]; rfl
   have hu10 : (us ++ [v9]).length = i + 1:=by rw [List.length_append,hul,hlen]; rfl
   clear E8 K8 P8 S9 e9 t9 X9 X7 L7 P7 e7 t7 E10 k10 i9
   generalize us ++ [v9] = us at *
   generalize xs ++ [x9] = xs at *
   walk_at "gg"
   . rename_i y0 d H11 d0 d1 E11 K11 P11 yd c H12 c0 c1 E12 K12 P12
     have e12:=E12.at nef (E11.at nef e10)
     have K112:=K11.trans K12
     have t12 : IsAll K H12 us (xs.map N):=IsAll.keep K112 _ _ (zbW _) t10
     refine zhr (zhM e12 t12) c0 (by omega) (fun v13 i13=>?_)
     walk_at "gg"
     refine zj5 (j:=i) e12 (by unfold ixN; rw [if_pos (by omega),if_pos (by omega)]; simp) (fun H14 E14 e14=>?_)
     have K14:=E14.keep e12
     walk_at "gg"
     exact ⟨_,_,_,xs.set i (xs.getD c.toNat 0),rfl,fun b o hb h=>E14 b o (zaQ h hfr) (E12 b o hb (E11 b o hb (X10 b o hb h))),L10.trans (K112.trans K14),P12.exc E14 (Ne.symm nef),e14,zqJ (IsAll.keep K14 _ _ (zbW _) t12) (i13.byN K14) i,by rw [List.length_set]; exact hl10,zrH ph10 (ph10 _ (getD_mem (by omega)))⟩
   . rename_i y0 d H11 d0 d1 E11 K11 P11 yd
     exact ⟨_,_,us,xs,rfl,X10.trans E11,L10.trans K11,P11,E11.at nef e10,IsAll.keep K11 _ _ (zbW _) t10,hl10,ph10⟩
   . exact ⟨_,_,us,xs,rfl,X10,L10,P10,e10,t10,hl10,ph10⟩
 . rintro σ H4 ⟨o5,o6,us,xs,rfl,X4,K4,P4,e4,t4,hlen,ph⟩
   walk_at "gg"
   exact q lf H4 us xs hfr X4 K4 P4 e4 t4 (by omega) ph
def zgi (K : PySem.W.Frag) : Sp:=fun vs H Q _=>∃ x0,vs = [x0] /\ ∃ r : Rat,Is K H x0 (N r) /\ Fit 400 r /\ Q (.str (zbg r)) H
theorem zfE {K : PySem.W.Frag} {H : Hp} {Q : VK} {E : XK} {r : Rat} {v : V} (h : Is K H v (N r)) (hf : Fit 400 r) (q : Q (.str (zbg r)) H) : zgi K [v] H Q E:=⟨_,rfl,r,h,hf,q⟩
set_option maxHeartbeats 4000000 in
theorem zfL (T : Txt K mg a) : zaM P w K mg base CX0 1 a.law_shown a.fd_law_shown zc4 (zgi K):=by
 refine T.d_law_shown.F.ok zjB ?_ ?_
 walk_at "b1"
 have hgd:=hr.gd
 refine ⟨_,(zac (za9 (zaC (show OpR _ (compareOp .Eq) (zig K) from zfe hu) (pix (pv 0)) zaf (zax _)) (zad (zak (za2 (show zaq _ (.type "str") zhK from zdr) rfl T.z_str zgE (zaa (pix (pv 0)) zab)))) zaw)
     (zad (zak (zam zaz (zam zaz (za2 (show zaq _ (.type "str") zhK from zdr) rfl T.z_str zgE (zaa (pix (pv 0)) zab)) zba) (za2 (show zaq _ (.type "str") zhK from zdr) rfl T.z_str zgE (zaa (pix (pv 0)) zab)))))),?_⟩
 walk_at "cl"
 rw [show start zeu [x0] = [some x0] from rfl]
 obtain ⟨r,hr,hf,q⟩:=h
 have z : 2000 <= sizeLine:=by decide
 have l1:=zf7 r.num
 have f1:=hf.n
 have f2:=hf.d
 walk_at "gg"
 . rename_i e
   have e : r.den = 1:=by omega
   unfold zbg at q
   rw [if_pos e] at q
   refine zgg (zfM f1) ?_
   rw [zfJ]
   exact q
 . rename_i e
   have e : ¬ r.den = 1:=by omega
   unfold zbg at q
   rw [if_neg e] at q
   refine zgg (zfM f1) ?_
   rw [zfJ]
   walk_at "gg"
   refine .inr (.inr ⟨_,_,rfl,rfl,by show _ + 1 <= _; omega,?_⟩)
   walk_at "gg"
   refine zgg (by rw [Int.natAbs_natCast]; exact zfM f2) ?_
   rw [zfJ,zhJ]
   walk_at "gg"
   refine .inr (.inr ⟨_,_,rfl,rfl,by rw [zai,zbD]; show _ + 1 + _ <= _; omega,?_⟩)
   rw [show (PySem.Str.ofString "/") = ⟨#[47]⟩ from zm9]
   exact q
def zfX (K : PySem.W.Frag) : Sp:=fun vs H Q _=>∃ x0,vs = [x0] /\ ∃ xs : List Rat,Is K H x0 (TN xs) /\ xs.length <= 20 /\ (∀ x ∈ xs,Fit 400 x) /\ ∀ H',zag H H' -> Q (.str (zbr xs)) H'
theorem zfT {K : PySem.W.Frag} {H : Hp} {Q : VK} {E : XK} {xs : List Rat} {v : V} (h : Is K H v (TN xs)) (hl : xs.length <= 20) (hf : ∀ x ∈ xs,Fit 400 x) (q : ∀ H',zag H H' -> Q (.str (zbr xs)) H') : zfX K [v] H Q E:=⟨_,rfl,xs,h,hl,hf,q⟩
set_option maxHeartbeats 4000000 in
theorem zfG (T : Txt K mg a) : zaM P w K mg base CX0 2 a.law_words a.fd_law_words zc3 (zfX K):=by
 refine T.d_law_words.F.ok zkr ?_ ?_
 walk_at "b1"
 refine ⟨_,(zad (zak (zeZ PySem.F.plainAttrs_str PySem.F.slot_str_join PySem.F.type_str_join (show MtM _ "str.join" (zkm K) from zkV) zba (zaa (zbT rfl (zbl.by (N':=["_law_one"]) (src:=[none]) rfl (show zbc _ (zae zcT).names zcS ["_law_one"] [none] = true from by decide +kernel)) (zjX (pv 0)) (fun _ _ _ _ _=>(zaE (i:=0) (show (["_law_one"] : List Str).Nodup from by decide) rfl (Or.inl rfl))) (fun _ _ _ _ _=>zbQ) (fun _ _ _ _ _=>(pcl (zfL (K:=K) (mg:=mg) (a:=a) T) hr T.d_law_shown (zaa (pv 0) zab)))) zab)))),?_⟩
 walk_at "cl"
 rw [show start zcS [x0] = [some x0] from rfl]
 obtain ⟨xs,hx,hl,hf,q⟩:=h
 obtain ⟨a1,vs,rfl,hs,tv⟩:=zaY.mp hx
 walk_at "gg"
 refine zfb ?_
 walk_at "gg"
 refine zf6 hs (o0:=none) (tl:=[]) rfl (fun j y _=>y = .str (zbg (xs.getD j 0))) ?_ ?_
 . intro D j x ys o H1 hx inv
   obtain ⟨hj,iy⟩:=zf5 tv hx
   walk_at "gg"
   refine zfE (iy.by inv.2.2.1) (hf _ (getD_mem hj)) ?_
   walk_at "gg"
   exact zbA inv (by omega) (fun _ _ _ _ _ h=>h) ⟨_,rfl⟩ (zag.refl _) rfl
 . intro D ys H1 n1 S1 e1 l1 r1
   have lv:=tv.length
   rw [List.length_map] at lv
   have ey : ys = (xs.map zbg).map V.str:=by
     refine List.ext_getElem (by rw [l1]; simp; omega) fun i h1 h2=>?_
     rw [r1 i ys[i] (List.getElem?_eq_getElem h1)]
     rw [List.length_map,List.length_map] at h2
     simp [List.getD_eq_getElem?_getD,List.getElem?_eq_getElem h2]
   rw [ey] at e1
   walk_at "gg"
   refine zlv (B:=802) (.of e1) (fun y hy=>?_) ?_ (q _ S1)
   . obtain ⟨x,hx',rfl⟩:=List.mem_map.mp hy
     exact zec (hf x hx')
   . rw [List.length_map,zna]
     show xs.length * 802 + xs.length * 1 <= _
     omega
def zc9 (K : PySem.W.Frag) : Sp:=fun vs H Q _=>∃ x0,vs = [x0] /\ ∃ (p : Addr) (k : Int),x0 = .ref p /\ Pen H p k /\ ∀ v H' (r : Rat),Exc p H H' -> zaO H H' -> Pen H' p k -> Is K H' v (N r) -> Fit 101 r -> Q v H'
theorem zf2 {K : PySem.W.Frag} {H : Hp} {Q : VK} {E : XK} {p : Addr} {k : Int} (h : Pen H p k) (q : ∀ v H' (r : Rat),Exc p H H' -> zaO H H' -> Pen H' p k -> Is K H' v (N r) -> Fit 101 r -> Q v H') : zc9 K [.ref p] H Q E:=⟨_,rfl,p,k,rfl,h,q⟩
set_option maxHeartbeats 4000000 in
theorem zfD (T : Txt K mg a) : zaM P w K mg base CX0 2 a.law_any_number a.fd_law_any_number zbu (zc9 K):=by
 refine T.d_law_any_number.F.ok zaD ?_ ?_
 walk_at "b1"
 refine ⟨_,(zac (pst 1 zaD.nd (zd8 zcl (zbo (zaa zaf (zaa zaf (zaa (zhh (v:=1000000000000000000000000000000) ⟨by decide,by decide,by decide⟩ (by decide +kernel)) (zaa (zrB (v:=10000000000000000000000000000000000000000000000000000000000000000000000000000000000000000000000000000) (zhh (v:=100000000000000000000000000000000000000000000000000) ⟨by decide,by decide,by decide⟩ (by decide +kernel)) ⟨by decide,by decide,⟨by decide +kernel⟩⟩ (by decide +kernel)) zab))))) (pcl (zar T) hr T.d_law_draw (zaa (pv 0) (zaa zaf zab))) (fun _ _=>rfl)))
     (zac (pst 2 zaD.nd zaf)
     (zac (zd2 PassesOwn.never rfl (zcG rfl T.z_range (zaa zaf zab)) (zaE (i:=3) zaD.nd rfl (Or.inl rfl)) (zad (pst 2 zaD.nd (zam zaz (zam zaK (pv 2) zaf) (pcl (zar T) hr T.d_law_draw (zaa (pv 0) (zaa (zhh (v:=100000000) ⟨by decide,by decide,by decide⟩ (by decide +kernel)) zab)))))))
     (zac (pst 4 zaD.nd (zam zaz zaf (zam zck (zam zaK (pv 2) zaf) (zd8 zcl (zbo (zaa zaf (zaa zaf (zaa (pv 1) (zaa (pv 1) zab))))) (pcl (zar T) hr T.d_law_draw (zaa (pv 0) (zaa zaf zab))) (fun _ _=>rfl)))))
     (zac (pst 2 zaD.nd (zam zck (zam zaK (pv 2) zaf) (pv 1)))
     (zad (zak (pcl (zdQ T) hr T.d_law_low (zaa (zd8 zcl (zbo (zaa (pv 2) (zaa (zam zoO zaf (pv 2)) zab))) (pcl (zar T) hr T.d_law_draw (zaa (pv 0) (zaa zaf zab))) (fun _ _=>rfl)) (zaa (pv 4) zab)))))))))),?_⟩
 walk_at "cl"
 rw [show start zdt [x0] = [some x0,none,none,none,none] from rfl]
 obtain ⟨p,k,rfl,hp,q⟩:=h
 walk_at "gg"
 refine zcR (by simp) (fun l1 H1 n1 S1 e1=>?_)
 have np : l1 ≠ p:=Pen.ne n1 hp
 walk_at "gg"
 rename_i d H2 d0 d1 E2 K2 P2 z hz
 have z1 : 1 <= z /\ z.natAbs <= 10 ^ 100 /\ 60 <= 10 ^ 100:=by
   have : (10 : Nat) ^ 100 = 10000000000000000000000000000000000000000000000000000000000000000000000000000000000000000000000000000:=by decide +kernel
   omega
 clear hz
 refine zcF (n:=12) (by omega) (by omega) (fun i σ H'=>∃ (t : Int) (o : Option V),σ = [some (.ref p),some (.int z),some (.int t),o,none] /\ 0 <= t /\ Exc p H2 H' /\ zaO H2 H' /\ Pen H' p k) ⟨0,none,rfl,by omega,Exc.refl _ _,zaO.refl _,P2⟩ ?_ ?_
 . rintro i σ H3 hi ⟨t,o,rfl,t0,E3,K3,P3⟩
   walk_at "gg"
   rename_i c H4 c0 c1 E4 K4 P4
   exact ⟨_,_,rfl,by omega,E3.trans E4,K3.trans K4,P4⟩
 . rintro σ H3 ⟨t,o,rfl,t0,E3,K3,P3⟩
   have X3 : Exc p H H3:=S1.exc.trans (E2.trans E3)
   have Y3 : zaO H H3:=S1.keep.trans (K2.trans K3)
   clear S1 E2 K2 E3 K3 P2 e1 n1 np
   walk_at "gg"
   refine zcR (by simp) (fun l4 H4 n4 S4 e4=>?_)
   have np4 : l4 ≠ p:=Pen.ne n4 P3
   have P4:=P3.same S4
   walk_at "gg"
   rename_i d2 H5 f0 f1 E5 K5 P5 w hw
   have X5:=X3.trans (S4.exc.trans E5)
   have Y5:=Y3.trans (S4.keep.trans K5)
   have m0:=Int.emod_nonneg (t * 48271) (show z ≠ 0 by omega)
   have m1:=Int.emod_lt_of_pos (t * 48271) (show 0 < z by omega)
   have b0:=Int.emod_nonneg (t * 31) (show w ≠ 0 by omega)
   have b1:=Int.emod_lt_of_pos (t * 31) (show 0 < w by omega)
   generalize t * 48271 % z = x at *
   generalize t * 31 % w = y at *
   have hw2 : w.natAbs <= 10 ^ 100:=by
     have:=z1.2
     rcases hw with rfl | rfl | rfl | rfl <;> omega
   clear X3 Y3 S4 E5 K5 P3 P4 e4 n4 np4 hw
   refine zcR (by simp) (fun l6 H6 n6 S6 e6=>?_)
   have np6 : l6 ≠ p:=Pen.ne n6 P5
   have P6:=P5.same S6
   walk_at "gg"
   rename_i d3 H7 g0 g1 E7 K7 P7 u hu
   have hu2 : u.natAbs < z.natAbs:=by omega
   have e101 : (10 : Nat) ^ 101 = 10 ^ 100 * 10:=Nat.pow_succ ..
   have zl:=z1.2.1
   have y1 : (1 + y).natAbs <= 10 ^ 100:=by omega
   have yb : Bd 8999 (1 + y):=(zmA y1 (by decide)).mono (by decide)
   generalize (10 : Nat) ^ 100 = TT at *
   refine zh7 (b:=1 + y) (by omega) yb (fun v H8 S8 i8=>?_)
   exact q v H8 _ (X5.trans (S6.exc.trans (E7.trans S8.exc))) (Y5.trans (S6.keep.trans (K7.trans S8.keep))) (P7.same S8) i8 (zrc (by decide) (by omega) (by omega) (by omega))
def zgX (K : PySem.W.Frag) : Sp:=fun vs H Q _=>∃ x0,vs = [x0] /\ ∃ (ra rb : Rat) (xs : List Rat),Is K H x0 (SwD ra rb xs) /\ zay ra rb /\ xs.length <= 8 /\ (∀ x ∈ xs,Fit 60 x) /\ ∀ H',zag H H' -> Q (.str (zby ra rb xs)) H'
theorem zkM {K : PySem.W.Frag} {H : Hp} {Q : VK} {E : XK} {ra rb : Rat} {xs : List Rat} {v : V} (h : Is K H v (SwD ra rb xs)) (ok : zay ra rb) (h8 : xs.length <= 8) (hf : ∀ x ∈ xs,Fit 60 x) (q : ∀ H',zag H H' -> Q (.str (zby ra rb xs)) H') : zgX K [v] H Q E:=⟨_,rfl,ra,rb,xs,h,ok,h8,hf,q⟩
set_option maxHeartbeats 4000000 in
theorem zkR (T : Txt K mg a) : zaM P w K mg base CX0 3 a.law_text a.fd_law_text zdI (zgX K):=by
 refine T.d_law_text.F.ok zkU ?_ ?_
 walk_at "b1"
 refine ⟨_,(zad (zak (zam zaz (zam zaz (zam zaz zba (pcl (zfG T) hr T.d_law_words (zaa (pix (pv 0)) zab))) zba) (pcl (zfG T) hr T.d_law_words (zaa (pix (pv 0)) zab))))),?_⟩
 walk_at "cl"
 rw [show start zfp [x0] = [some x0] from rfl]
 obtain ⟨ra,rb,xs,hw,ok,h8,hf,q⟩:=h
 have z : 4000 <= sizeLine:=by decide
 have fr : ∀ x ∈ [ra,rb],Fit 60 x:=zit ok
 have w1:=zca fr
 have w2:=zca hf
 have w3 : xs.length * (2 * 60 + 3) <= 8 * 123:=Nat.mul_le_mul_right _ h8
 have l1 : (PySem.Str.ofString "rule ").length = 5:=by decide
 have l3 : (PySem.Str.ofString "\nworms ").length = 7:=by decide
 simp only [List.length_cons,List.length_nil] at w1
 walk_at "gg"
 refine zaI (j:=0) hw rfl (fun v0 i0=>?_)
 walk_at "gg"
 refine zfT (xs:=[ra,rb]) i0 (by simp) (fun x hx=>(fr x hx).mono (by decide)) (fun H1 S1=>?_)
 walk_at "gg"
 refine .inr (.inr ⟨_,_,rfl,rfl,by omega,?_⟩)
 walk_at "gg"
 refine .inr (.inr ⟨_,_,rfl,rfl,by rw [zai]; omega,?_⟩)
 walk_at "gg"
 refine zaI (j:=1) (hw.by S1) rfl (fun v1 i1=>?_)
 walk_at "gg"
 refine zfT i1 (by omega) (fun x hx=>(hf x hx).mono (by decide)) (fun H2 S2=>?_)
 walk_at "gg"
 refine .inr (.inr ⟨_,_,rfl,rfl,by rw [zai,zai]; omega,?_⟩)
 exact q _ (S1.trans S2)
def zeg (K : PySem.W.Frag) : Sp:=fun vs H Q _=>∃ x0,vs = [x0] /\ ∃ (ra rb : Rat) (xs : List Rat),x0 = .str (zby ra rb xs) /\ zay ra rb /\ 1 <= xs.length /\ xs.length <= 8 /\ (∀ x ∈ xs,Fit 60 x) /\ (∃ x ∈ xs,60 < x.den) /\ ∀ v H',zag H H' -> Is K H' v (.list [.bool true,.bool false]) -> Q v H'
theorem zhQ {K : PySem.W.Frag} {H : Hp} {Q : VK} {E : XK} {ra rb : Rat} {xs : List Rat} (ok : zay ra rb) (h1 : 1 <= xs.length) (h8 : xs.length <= 8) (hf : ∀ x ∈ xs,Fit 60 x) (hp : ∃ x ∈ xs,60 < x.den) (q : ∀ v H',zag H H' -> Is K H' v (.list [.bool true,.bool false]) -> Q v H') : zeg K [.str (zby ra rb xs)] H Q E:=⟨_,rfl,ra,rb,xs,rfl,ok,h1,h8,hf,hp,q⟩
set_option maxHeartbeats 4000000 in
theorem zii (T : Txt K mg a) : zaM P w K mg base CX0 7 a.law_refusal a.fd_law_refusal zcc (zeg K):=by
 refine T.d_law_refusal.F.ok zbZ ?_ ?_
 walk_at "b1"
 refine ⟨_,(zac (pst 1 zbZ.nd zsO)
     (zac (zqE (i:=2) (tb:=fun W=>zpg (zlV (zcf K a) W (zoQ (zoN 0) ztD))) (th:=fun ex C=>zow (zoN 2) (zif 1)) rfl rfl zbZ.nd rfl rfl rfl T.g_GlowError (fun W pn E' hx=>by exact (zad (zhm (zo0 (zde T) (hr.mono (by decide)) rfl T.d_read_swarm.g T.d_read_swarm.F.kp T.d_read_swarm.b hx (zaa (pv 0) zab))))) (fun pn ex C oe hob=>by exact (zad (pst 1 zbZ.nd (pv 2)))))
     (zad (zak (zbo (zaa (zao (show zaq _ (.builtin "isinstance") (zhX K) from zh5) rfl T.z_isinstance zaL (zaa (pv 1) (zaa (zaX (v:=.ref a.C_NoSwarm) rfl T.g_NoSwarm rfl) zab))) (zaa (zao (show zaq _ (.builtin "isinstance") (zhX K) from zh5) rfl T.z_isinstance zaL (zaa (pv 1) (zaa (za8 (zaa (zaX (v:=.ref a.C_NoRule) rfl T.g_NoRule rfl) (zaa (zaX (v:=.ref a.C_NoText) rfl T.g_NoText rfl) zab))) zab))) zab))))))),?_⟩
 walk_at "cl"
 rw [show start ze3 [x0] = [some x0,none,none] from rfl]
 obtain ⟨ra,rb,xs,rfl,ok,h1,h8,hf,hp,q⟩:=h
 walk_at "gg"
 refine zrb (fun σ' C o H'=>σ' = [some (.str (zby ra rb xs)),some .non,none] /\ C = .ref a.C_NoSwarm /\ zag H H') ?_ ?_
 . walk_at "gg"
   exact zir ok h1 h8 hf hp (fun H' S=>⟨rfl,rfl,S⟩)
 . rintro σ' C o H' ⟨rfl,rfl,S0⟩
   refine ⟨T.m_NoSwarm,fun ex hex=>?_⟩
   walk_at "gg"
   intro hex2
   have Sx : zag H' (upd H' ex (ExO ex (.ref a.C_NoSwarm))):=zag.upd hex2
   have ee : (upd H' ex (ExO ex (.ref a.C_NoSwarm))) ex = some (ExO ex (.ref a.C_NoSwarm)):=zaB
   generalize upd H' ex (ExO ex (.ref a.C_NoSwarm)) = H1 at *
   walk_at "gg"
   refine zog ee T.e_NoSwarm T.k_NoSwarm_NoSwarm ?_
   walk_at "gg"
   refine zfo (by simp) (fun tp H2 n2 S2 e2=>?_)
   walk_at "gg"
   refine zn9 (cs:=[a.C_NoRule,a.C_NoText]) (S2 _ _ ee) T.e_NoSwarm (.of e2) (fun c hc=>by
     simp only [List.mem_cons,List.not_mem_nil,or_false] at hc
     rcases hc with rfl | rfl <;> walk_at "kit") ?_
   walk_at "gg"
   refine zcR (by simp) (fun l3 H3 n3 S3 e3=>?_)
   exact q _ _ (S0.trans (Sx.trans (S2.trans S3))) (zbk.mpr ⟨l3,_,rfl,.of e3,.cons (zce.mpr rfl) (.cons (zce.mpr rfl) .nil)⟩)
def Ov (B : Int) (x : Rat) : Prop:=∃ t : Int,x = Rat.divInt t B
theorem Ov.zero (B : Int) : Ov B 0:=⟨0,by simp⟩
theorem Ov.more {B d : Int} {x : Rat} (h : Ov B x) (hB : 0 < B) (hd : 0 < d) : Ov (B * d) x:=by
 obtain ⟨t,rfl⟩:=h
 exact ⟨t * d,zc0 hB hd⟩
theorem zqG (t u : Int) : ∃ m,Bd m t /\ Bd m u:=⟨t.natAbs + u.natAbs,⟨Nat.lt_of_le_of_lt (by omega : t.natAbs <= t.natAbs + u.natAbs) Nat.lt_two_pow_self⟩,⟨Nat.lt_of_le_of_lt (by omega : u.natAbs <= t.natAbs + u.natAbs) Nat.lt_two_pow_self⟩⟩
theorem zuy {a b : Rat} (h : zay a b) : Bd 6 a.num:=by
 have h1:=h.a0
 have h2:=h.a4
 have h3:=h.ad
 have n0 : 0 <= a.num:=Rat.num_nonneg.mpr (Rat.le_of_lt h1)
 have n1 : a.num <= 4 * a.den:=by
   have:=(Rat.le_iff a 4).mp h2
   simpa using this
 exact ⟨by have : (2 : Nat) ^ 6 = 64 := by decide
           omega⟩
theorem zuc {a b : Rat} (h : zay a b) : Bd 4 (a.den : Int):=by
 have h3:=h.ad
 exact ⟨by have : (2 : Nat) ^ 4 = 16 := by decide
           omega⟩
theorem zt3 {a b : Rat} (h : zay a b) : Bd 4 b.num:=by
 have h1:=h.b0
 have h2:=h.b1
 have h3:=h.bd
 have n0 : 0 <= b.num:=Rat.num_nonneg.mpr h1
 have n1 : b.num <= b.den:=by
   have:=(Rat.le_iff b 1).mp h2
   simpa using this
 exact ⟨by have : (2 : Nat) ^ 4 = 16 := by decide
           omega⟩
theorem Ov.push {a b : Rat} (ok : zay a b) {B : Int} {x : Rat} (hB : 0 < B) (hd : (b.den : Int) ∣ B) (h : Ov B x) (n : Nat) : Ov (B * (a.den : Int) ^ n) (push a b n x):=by
 obtain ⟨t,rfl⟩:=h
 obtain ⟨m,h1,h2⟩:=zqG t B
 obtain ⟨_,_,_,T,e,_⟩:=zh3 (zuy ok) (zuc ok) (zt3 ok) hB hd h1 h2 n
 exact ⟨T,e⟩
theorem zcg (a : Rat) (n : Nat) : 0 < (a.den : Int) ^ n:=Int.pow_pos (den_pos a)
theorem Ov.up {a : Rat} {B : Int} {x : Rat} (h : Ov B x) (hB : 0 < B) (n : Nat) : Ov (B * (a.den : Int) ^ n) x:=h.more hB (zcg a n)
theorem zp5 {B : Int} {xs : List Rat} (h : ∀ x ∈ xs,Ov B x) (i : Nat) : Ov B (xs.getD i 0):=by
 rcases Nat.lt_or_ge i xs.length with z | z
 . exact h _ (getD_mem z)
 . rw [List.getD_eq_getElem?_getD,List.getElem?_eq_none z]; exact Ov.zero B
theorem znL {B : Int} {xs : List Rat} (h : ∀ i,i < xs.length -> Ov B (xs.getD i 0)) : ∀ x ∈ xs,Ov B x:=fun x hx=>by
 obtain ⟨j,hj,rfl⟩:=List.getElem_of_mem hx
 have:=h j hj
 rw [List.getD_eq_getElem?_getD,List.getElem?_eq_getElem hj] at this
 exact this
theorem zlx {a b : Rat} (ok : zay a b) : ∀ (n : Nat) (B : Int) (ps : List Rat) (left : List Nat),0 < B -> (b.den : Int) ∣ B -> left.Nodup -> (∀ w ∈ left,w < ps.length) -> (∀ x ∈ ps,Ov B x) -> ∀ x ∈ (zau a b n ps left).2.2,Ov (B * (a.den : Int) ^ (zau a b n ps left).1.flatten.length) x
 | 0,B,ps,left,hB,_,_,_,h=>fun x hx=>by
   have : Ov (B * (a.den : Int) ^ 0) x:=by rw [Int.pow_zero,Int.mul_one]; exact h x hx
   exact this
 | n + 1,B,ps,left,hB,hd,nd,lt,h=>by
   by_cases e : zah ps left = []
   . rw [zbN e]
     intro x hx
     have : Ov (B * (a.den : Int) ^ 0) x:=by rw [Int.pow_zero,Int.mul_one]; exact h x hx
     exact this
   . rw [zbd e]
     have nd' : (zat left (zah ps left)).Nodup:=zb2 nd
     have lt':=zcD (wave:=zah ps left) lt
     have ih:=zlx ok n (B * (a.den : Int) ^ (zah ps left).length) (zaN (a ^ (zah ps left).length) (shf a b (zah ps left).length) ps (zat left (zah ps left))) (zat left (zah ps left)) (Int.mul_pos hB (zcg a _)) (Int.dvd_trans hd (Int.dvd_mul_right ..)) nd' (fun w hw=>by rw [za6]; exact lt' w hw) (znL fun i hi=>by
       rw [zbK _ _ _ _ nd' lt']
       split
       . rw [<- znu]; exact (zp5 h i).push ok hB hd _
       . exact (zp5 h i).up hB _)
     intro x hx
     have:=ih x hx
     show Ov (B * (a.den : Int) ^ (zah ps left :: _).flatten.length) x
     rw [List.flatten_cons,List.length_append,Int.pow_add,<- Int.mul_assoc]
     exact this
theorem Ov.rise {B : Int} {x y : Rat} (hx : Ov B x) (hy : Ov B y) (hB : 0 < B) : Ov B (x + (1 - y)):=by
 obtain ⟨t,rfl⟩:=hx
 obtain ⟨z,rfl⟩:=hy
 refine ⟨t + B - z,?_⟩
 symm
 refine zb8 (by omega) ?_
 have q1:=zan t (show B ≠ 0 by omega)
 have q2:=zan z (show B ≠ 0 by omega)
 have q3 : ((t + B - z : Int) : Rat) = (t : Rat) + (B : Rat) - (z : Rat):=by push_cast; rfl
 rw [q3,<- q1,<- q2]
 grind
def zg3 (a b : Rat) (xs : List Rat) : Nat:=(zbj a b xs).flatten.length
theorem zqw {a b : Rat} (ok : zay a b) {B : Int} (hB : 0 < B) (hd : (b.den : Int) ∣ B) {xs : List Rat} (h1 : 1 <= xs.length) (h : ∀ x ∈ xs,Ov B x) : ∀ y ∈ zbf a b xs,Ov (B * (a.den : Int) ^ zg3 a b xs) y:=by
 have hr : ∀ x ∈ za5 xs,Ov B x:=fun x hx=>by
   obtain ⟨y,hy,rfl⟩:=List.mem_map.mp hx
   exact (h y hy).rise (h _ (zbh h1)) hB
 have:=zlx ok xs.length B (za5 xs) (List.range xs.length) hB hd List.nodup_range (fun w hw=>by rw [za1]; exact List.mem_range.mp hw) hr
 intro y hy
 rcases zlI y hy with z | z
 . exact this y z
 . rw [z]; exact Ov.zero _
def zbz (a b : Rat) (xs : List Rat) : Nat -> Nat
 | 0=>0
 | k + 1=>zbz a b xs k + zg3 a b (zaP a b xs k)
theorem ziX (a b : Rat) (xs : List Rat) (m : Nat) : ∀ k,zbz a b xs (m + k) = zbz a b xs m + zbz a b (zaP a b xs m) k
 | 0=>rfl
 | k + 1=>by
   show zbz a b xs (m + k) + zg3 a b (zaP a b xs (m + k)) = zbz a b xs m + (zbz a b (zaP a b xs m) k + zg3 a b (zaP a b (zaP a b xs m) k))
   rw [ziX a b xs m k,zeC]
   omega
theorem zm7 {a b : Rat} (ok : zay a b) {B : Int} (hB : 0 < B) (hd : (b.den : Int) ∣ B) {xs : List Rat} (h1 : 1 <= xs.length) (h : ∀ x ∈ xs,Ov B x) : ∀ k,(∀ y ∈ zaP a b xs k,Ov (B * (a.den : Int) ^ zbz a b xs k) y) /\ Ov (B * (a.den : Int) ^ zbz a b xs k) (zaF a b xs k)
 | 0=>by
   show (∀ y ∈ xs,Ov (B * (a.den : Int) ^ 0) y) /\ Ov (B * (a.den : Int) ^ 0) 0
   rw [Int.pow_zero,Int.mul_one]
   exact ⟨h,Ov.zero B⟩
 | k + 1=>by
   obtain ⟨hp,hh⟩:=zm7 ok hB hd h1 h k
   have hBk:=Int.mul_pos hB (zcg a (zbz a b xs k))
   have hpl:=zbC a b xs k
   have e : B * (a.den : Int) ^ zbz a b xs (k + 1) = B * (a.den : Int) ^ zbz a b xs k * (a.den : Int) ^ zg3 a b (zaP a b xs k):=by
     rw [Int.mul_assoc,<- Int.pow_add]; rfl
   rw [e]
   refine ⟨zqw ok hBk (Int.dvd_trans hd (Int.dvd_mul_right ..)) (by omega) hp,?_⟩
   exact (Ov.rise hh (hp _ (zbh (by omega))) hBk).up hBk _
theorem zg4 {a b : Rat} (a0 : 0 < a) (b0 : 0 <= b) {xs : List Rat} (h1 : 1 <= xs.length) (hp : zcW xs) : ∀ k : Nat,0 <= zaF a b xs k /\ zaF a b xs k <= ((k : Int) : Rat)
 | 0=>⟨Rat.le_refl,Rat.le_refl⟩
 | k + 1=>by
   obtain ⟨l,u⟩:=zg4 a0 b0 h1 hp k
   have hk:=hp.at a0 b0 k
   have hm:=zbh (xs:=zaP a b xs k) (by rw [zbC]; exact h1)
   have m0:=hk.nn _ hm
   have m1:=hk.lt _ hm
   have e : zaF a b xs (k + 1) = zaF a b xs k + (1 - zbv (zaP a b xs k)):=rfl
   have ek : (((k + 1 : Nat) : Int) : Rat) = ((k : Int) : Rat) + 1:=by push_cast; rfl
   rw [e,ek]
   exact ⟨by grind,by grind⟩
theorem zsm {B : Int} {m l : Nat} {x : Rat} (hB : 0 < B) (bB : Bd m B) (h : Ov B x) (x0 : 0 <= x) (x1 : x <= (((2 ^ l : Nat) : Int) : Rat)) : ∃ t : Int,x = Rat.divInt t B /\ Bd (m + l + 1) t:=by
 obtain ⟨t,rfl⟩:=h
 refine ⟨t,rfl,?_⟩
 have q1:=zan t (show B ≠ 0 by omega)
 have hBr : (0 : Rat) < (B : Rat):=Rat.intCast_pos.mpr hB
 have t0 : (0 : Rat) <= (t : Rat):=by rw [<- q1]; exact Rat.mul_nonneg x0 (Rat.le_of_lt hBr)
 have t1 : (t : Rat) <= (((2 ^ l : Nat) : Int) : Rat) * (B : Rat):=by
   rw [<- q1]
   exact Rat.mul_le_mul_of_nonneg_right x1 (Rat.le_of_lt hBr)
 have t0' : 0 <= t:=Rat.intCast_nonneg.mp t0
 have t1' : t <= ((2 ^ l : Nat) : Int) * B:=by
   rw [<- Rat.intCast_mul] at t1
   exact Rat.intCast_le_intCast.mp t1
 have b:=bB.lt
 refine ⟨?_⟩
 have hb : t.natAbs <= 2 ^ l * B.natAbs:=by
   have e : ((2 ^ l * B.natAbs : Nat) : Int) = ((2 ^ l : Nat) : Int) * B:=by
     rw [Int.natCast_mul]
     congr 1
     omega
   omega
 have : 2 ^ l * B.natAbs < 2 ^ l * 2 ^ m:=Nat.mul_lt_mul_of_pos_left b (Nat.two_pow_pos l)
 have e2 : 2 ^ (m + l + 1) = 2 ^ l * 2 ^ m * 2:=by rw [Nat.pow_succ,Nat.pow_add,Nat.mul_comm (2 ^ m)]
 omega
theorem zqZ {a b : Rat} (ok : zay a b) {B : Int} {m : Nat} (h : Bd m B) (n : Nat) : Bd (m + 3 * n) (B * (a.den : Int) ^ n):=by
 refine ⟨?_⟩
 have h1:=h.lt
 have h8:=ok.ad
 rw [Int.natAbs_mul,Int.natAbs_pow,Int.natAbs_natCast,Nat.pow_add,Nat.pow_mul]
 have e : (2 : Nat) ^ 3 = 8:=by decide
 rw [e]
 have h2 : a.den ^ n <= 8 ^ n:=Nat.pow_le_pow_left h8 n
 have hp : 0 < 8 ^ n:=Nat.pow_pos (by decide)
 exact Nat.lt_of_le_of_lt (Nat.mul_le_mul_left _ h2) (Nat.mul_lt_mul_of_pos_right h1 hp)
theorem Ov.sub {B : Int} {x y : Rat} (hx : Ov B x) (hy : Ov B y) (hB : 0 < B) : Ov B (x - y):=by
 obtain ⟨t,rfl⟩:=hx
 obtain ⟨z,rfl⟩:=hy
 refine ⟨t - z,?_⟩
 symm
 refine zb8 (by omega) ?_
 have q1:=zan t (show B ≠ 0 by omega)
 have q2:=zan z (show B ≠ 0 by omega)
 have q3 : ((t - z : Int) : Rat) = (t : Rat) - (z : Rat):=by push_cast; rfl
 rw [q3,<- q1,<- q2]
 grind
theorem zrG {a b : Rat} (ok : zay a b) {m : Nat} {xs : List Rat} (c : CmD b.den m xs) (h1 : 1 <= xs.length) (hp : zcW xs) {i k l : Nat} (hk : k <= 2 ^ l) : Cm (m + 3 * zbz a b xs (i + k) + l + 1) (zaF a b (zaP a b xs i) k :: zaP a b (zaP a b xs i) k):=by
 obtain ⟨B,hB,hd,bB,hx⟩:=c
 have hov:=zm7 ok hB hd h1 (fun x hx'=>let ⟨t,e,_⟩:=hx x hx'; ⟨t,e⟩)
 obtain ⟨hph,hh⟩:=hov (i + k)
 have hBk:=Int.mul_pos hB (zcg a (zbz a b xs (i + k)))
 have hi : Ov (B * (a.den : Int) ^ zbz a b xs (i + k)) (zaF a b xs i):=by
   have:=((hov i).2).up (a:=a) (Int.mul_pos hB (zcg a (zbz a b xs i))) (zbz a b (zaP a b xs i) k)
   rw [Int.mul_assoc,<- Int.pow_add,<- ziX] at this
   exact this
 have hhk : Ov (B * (a.den : Int) ^ zbz a b xs (i + k)) (zaF a b (zaP a b xs i) k):=by
   have e : zaF a b (zaP a b xs i) k = zaF a b xs (i + k) - zaF a b xs i:=by
     have:=zjf a b xs i k
     grind
   rw [e]
   exact hh.sub hi hBk
 have bb:=zqZ ok bB (zbz a b xs (i + k))
 have hpi:=hp.at ok.a0 ok.b0 i
 have hpk:=hpi.at ok.a0 ok.b0 k
 have hl : (((k : Nat) : Int) : Rat) <= (((2 ^ l : Nat) : Int) : Rat):=Rat.intCast_le_intCast.mpr (by omega)
 have h1l : (1 : Rat) <= (((2 ^ l : Nat) : Int) : Rat):=by
   have : ((1 : Int) : Rat) <= (((2 ^ l : Nat) : Int) : Rat):=Rat.intCast_le_intCast.mpr (by have:=Nat.two_pow_pos l; omega)
   exact this
 refine ⟨_,hBk,bb.mono (by omega),fun x hx'=>?_⟩
 rcases List.mem_cons.mp hx' with rfl | hx'
 . have hb:=zg4 ok.a0 ok.b0 (xs:=zaP a b xs i) (by rw [zbC]; exact h1) hpi k
   exact zsm hBk bb hhk hb.1 (Rat.le_trans hb.2 hl)
 . have:=hph x (by rw [<- zeC]; exact hx')
   exact zsm hBk bb this (hpk.nn x hx') (Rat.le_trans (Rat.le_of_lt (hpk.lt x hx')) h1l)
theorem zpa {a b : Rat} (a0 : 0 < a) (b0 : 0 <= b) {xs : List Rat} (h1 : 1 <= xs.length) (hp : zcW xs) : zg3 a b xs <= xs.length:=by
 obtain ⟨v,J⟩:=zsP a0 b0 h1 hp.nn hp.lt
 unfold zg3
 rw [J.perm.length_eq]
 unfold seg
 have:=List.length_filter_le (fun w=>decide (0 <= zaH xs w) && decide (zaH xs w < v)) (List.range xs.length)
 rw [List.length_range] at this
 exact this
theorem zk4 {a b : Rat} (a0 : 0 < a) (b0 : 0 <= b) {xs : List Rat} (h1 : 1 <= xs.length) (hp : zcW xs) : ∀ k,zbz a b xs k <= k * xs.length
 | 0=>Nat.zero_le _
 | k + 1=>by
   have ih:=zk4 a0 b0 h1 hp k
   have hl:=zbC a b xs k
   have:=zpa a0 b0 (xs:=zaP a b xs k) (by omega) (hp.at a0 b0 k)
   rw [Nat.succ_mul]
   show zbz a b xs k + zg3 a b (zaP a b xs k) <= _
   omega
theorem zpw {a b : Rat} {xs : List Rat} (ok : zay a b) (h1 : 1 <= xs.length) (h8 : xs.length <= 8) (ph : ∀ x ∈ xs,zaV x) {k : Nat} (hk : k <= 3) : Cm 135 (zaP a b xs k):=by
 have hp : zcW xs:=⟨fun x hx=>(ph x hx).nn,fun x hx=>(ph x hx).lt⟩
 have b6 : ∀ j,Bdr 6 (xs.getD j 0):=fun j=>by
   rcases Nat.lt_or_ge j xs.length with z | z
   . exact (ph _ (getD_mem z)).bdr
   . rw [List.getD_eq_getElem?_getD,List.getElem?_eq_none z]; exact Bdr.zero.mono (by decide)
 have c0 : Cm 55 xs:=(Cm.of_bdr b6).mono (by omega)
 have cD : CmD b.den 59 xs:=CmD.of c0 (den_pos b) ⟨by have:=ok.bd; have : (2 : Nat) ^ 4 = 16:=(by decide); omega⟩
 have c:=zrG ok cD h1 hp (i:=0) (k:=k) (l:=2) (by omega)
 rw [show zaP a b xs 0 = xs from rfl,Nat.zero_add] at c
 have g:=zk4 ok.a0 ok.b0 h1 hp k
 have g2 : k * xs.length <= 3 * 8:=Nat.mul_le_mul hk h8
 exact (c.zero_mem fun y hy=>.inl (List.mem_cons_of_mem _ hy)).mono (by omega)
def zj1 (K : PySem.W.Frag) : Sp:=fun vs H Q _=>∃ x0,vs = [x0] /\ ∃ (a : Addr) (ns : List Int),x0 = .ref a /\ SqF K H a (ns.map V.int) /\ ns.length <= 63 /\ ∀ H',Q (.bl true) H'
set_option maxHeartbeats 4000000 in
theorem zsD (T : Txt K mg a) : zaM P w K mg base CX0 8 a.law a.fd_law zmO (zj1 K):=by
 refine T.d_law.F.ok zdm ?_ ?_
 walk_at "b1"
 refine ⟨_,(zac (zd2 PassesOwn.never rfl (zcG rfl T.z_range (zaa zaf zab)) (zaE (i:=1) zdm.nd rfl (Or.inl rfl)) (zac (pst 2 zdm.nd (pcl (zme T) hr T.d_law_pen (zaa (pv 0) (zaa (pv 1) zab))))
     (zac (zd2 PassesOwn.never rfl (zcG rfl T.z_range (zaa zaf zab)) (zaE (i:=3) zdm.nd rfl (Or.inl rfl)) (zac (pst 4 zdm.nd (pcl (zfD T) hr T.d_law_any_number (zaa (pv 2) zab)))
     (zad (za9 (zaC (show OpR _ (compareOp .NotEq) (zeU K) from zcL hu) (pcl (zcJ T) hr T.d_show_number (zaa (pv 4) zab)) (pcl (zfL T) hr T.d_law_shown (zaa (pv 4) zab)) (zax _)) (zad (zak zcn)) zaw))))
     (zac (pst 5 zdm.nd (pcl (zkS T) hr T.d_law_rule (zaa (pv 2) zab)))
     (zac (pst 6 zdm.nd (pcx (zg0 T) hr T.d_swarm_of zpB (zaa (pv 5) (zaa (pcl (ziy T) hr T.d_law_phases (zaa (pv 2) (zaa (zam zaz zaf (pcl (zar T) hr T.d_law_draw (zaa (pv 2) (zaa zaf zab)))) zab))) zab))))
     (zac (pst 7 zdm.nd (pix (pcl (znO T) hr T.d_behind (zaa (pv 6) (zaa (pcl (zar T) hr T.d_law_draw (zaa (pv 2) (zaa zaf zab))) zab)))))
     (zad (zd2 PassesOwn.never rfl (zc5 (zbo (zaa (pv 6) (zaa (pv 7) zab)))) (zaE (i:=8) zdm.nd rfl (Or.inl rfl)) (zac (pst 9 zdm.nd (pcl (zkR T) hr T.d_law_text (zaa (pv 8) zab)))
     (zac (za9 (zaC (show OpR _ (compareOp .NotEq) (zeU K) from zcL hu) (pcl (ziG T) hr T.d_show_swarm (zaa (pv 8) zab)) (pv 9) (zax _)) (zad (zak zcn)) zaw)
     (zad (za9 (zaC zg2 (zao (show zaq _ (.builtin "max") (zpt K) from zoj rfl) rfl T.z_max zqh (zaa (zbT rfl (zbl.by (N':=["_law_phase"]) (src:=[none]) rfl (show zbc _ (zae zk8).names zqd ["_law_phase"] [none] = true from by decide +kernel)) (zjX (pix (pv 8))) (fun _ _ _ _ _=>(zaE (i:=0) (show (["_law_phase"] : List Str).Nodup from by decide) rfl (Or.inl rfl))) (fun _ _ _ _ _=>zbQ) (fun _ _ _ _ _=>(zuN (K:=K) zcl (pv 0)))) zab)) zaf (zax _)) (zad (za9 (PW.pt (zem (zaC (show OpR _ (compareOp .NotEq) (zeU K) from zcL hu) (pcx (zde T) hr T.d_read_swarm zpB (zaa (pv 9) zab)) (pv 8) (zax _)) (zdg (zbm (zbe (zao (show zaq _ (.builtin "isinstance") (zdw K) from zcE) rfl T.z_isinstance zaL (zaa (pix (pcx (zde T) hr T.d_read_swarm zpB (zaa (pv 9) zab))) (zaa (zcX (v:=.ty "tuple") rfl T.z_tuple zbP rfl) zab)))))))) (zad (zak zcn)) zaw)) (zad (za9 (zaC (show OpR _ (compareOp .NotEq) (zeU K) from zcL hu) (pcl (zii T) hr T.d_law_refusal (zaa (pv 9) zab)) (zbo (zaa zcn (zaa zcn zab))) (zax _)) (zad (zak zcn)) zaw))))))))))))))
     (zad (zak zcn))),?_⟩
 walk_at "cl"
 rw [show start zqd [x0] = [some x0,none,none,none,none,none,none,none,none,none] from rfl]
 obtain ⟨a',ns0,rfl,hs,hl,q⟩:=h
 walk_at "gg"
 refine zcF (n:=3) (by decide) (by decide) (fun i σ H'=>(∃ o1 o2 o3 o4 o5 o6 o7 o8 o9,σ = [some (.ref a'),o1,o2,o3,o4,o5,o6,o7,o8,o9]) /\ zaO H H') ⟨⟨_,_,_,_,_,_,_,_,_,rfl⟩,zaO.refl _⟩ ?_ ?_
 . rintro i σ H1 hi ⟨⟨o1,o2,o3,o4,o5,o6,o7,o8,o9,rfl⟩,K1⟩
   walk_at "gg"
   refine zmn (K1.sqF hs) hl (by omega) (by simp at hi; omega) (fun p H2 hp2 S2 P2=>?_)
   have K2:=K1.trans S2.keep
   clear K1 S2
   walk_at "gg"
   refine zcF (n:=4) (by decide) (by decide) (fun j σ H'=>(∃ o3 o4,σ = [some (.ref a'),some (.int (i : Int)),some (.ref p),o3,o4,o5,o6,o7,o8,o9]) /\ zaO H H' /\ Pen H' p 0) ⟨⟨_,_,rfl⟩,K2,P2⟩ ?_ ?_
   . rintro j σ H3 hj ⟨⟨o3,o4,rfl⟩,K3,P3⟩
     walk_at "gg"
     refine zf2 P3 (fun v H4 r E4 K4 P4 i4 f4=>?_)
     walk_at "gg"
     refine zcM i4 (f4.mono (by decide)) ?_
     walk_at "gg"
     refine zfE i4 (f4.mono (by decide)) ?_
     walk_at "gg"
     refine zew (zhg r) (zhg r) ?_
     rw [beq_self_eq_true]
     walk_at "gg"
     exact ⟨⟨_,_,rfl⟩,K3.trans K4,P4⟩
   . rintro σ H3 ⟨⟨o3,o4,rfl⟩,K3,P3⟩
     clear K2 P2 hp2
     walk_at "gg"
     refine zlE P3 (fun vr H4 ra rb E4 K4 P4 ir ok=>?_)
     walk_at "gg"
     rename_i d H5 d0 d1 E5 K5 P5
     obtain ⟨n,hn⟩ : ∃ n : Nat,1 + d = (n : Int):=⟨(1 + d).toNat,by omega⟩
     rw [hn]
     refine ziB P5 (by omega) (fun lp H6 us xs n6 E6 K6 P6 e6 t6 hx ph=>?_)
     have ir6:=ir.thruR (K5.trans K6)
     have K06:=K3.trans (K4.trans (K5.trans K6))
     walk_at "gg"
     refine zgV ir6 ok (.inl (zhM e6 t6)) (by omega) (by omega) ph (fun vw H7 S7 iw=>?_)
     have P7:=P6.same S7
     have K07:=K06.trans S7.keep
     have h1 : 1 <= xs.length:=by omega
     have h8 : xs.length <= 8:=by omega
     clear K06 S7 ir6 ir K4 K5 K6 E4 E5 E6 P3 P4 P5 P6 e6 t6 n6 K3
     walk_at "gg"
     rename_i c H8 c0 c1 E8 K8 P8
     have hp : zcW xs:=⟨fun x hx=>(ph x hx).nn,fun x hx=>(ph x hx).lt⟩
     have b6 : ∀ j,Bdr 6 (xs.getD j 0):=fun j=>by
       rcases Nat.lt_or_ge j xs.length with z | z
       . exact (ph _ (getD_mem z)).bdr
       . rw [List.getD_eq_getElem?_getD,List.getElem?_eq_none z]; exact Bdr.zero.mono (by decide)
     have cm : Cm 55 xs:=(Cm.of_bdr b6).mono (by omega)
     have iw8:=iw.byK K8 (znb _ _ _)
     have hm : (2 + 21 * xs.length) * c.toNat <= 170 * 3:=Nat.mul_le_mul (by omega) (by omega)
     refine znN iw8 (ok.ba.mono (by decide)) (ok.bb.mono (by decide)) h1 h8 c0 (by omega) cm (by omega) (fun vb H9 S9 ib=>?_)
     have K09:=K07.trans (K8.trans S9.keep)
     have iw9:=iw8.by S9
     clear K07 K8 S9 iw8 iw E8 P7 P8
     walk_at "gg"
     refine zaI (j:=1) ib rfl (fun v2 i2=>?_)
     walk_at "gg"
     refine zcR (by simp) (fun ll H10 n10 S10 e10=>?_)
     walk_at "gg"
     have both : ∀ v ∈ [vw,v2],∃ ys : List Rat,Is K H10 v (SwD ra rb ys) /\ 1 <= ys.length /\ ys.length <= 8 /\ zcW ys /\ ∀ x ∈ ys,Fit 60 x:=by
       intro v hv
       simp only [List.mem_cons,List.not_mem_nil,or_false] at hv
       rcases hv with rfl | rfl
       . exact ⟨xs,iw9.by S10,h1,h8,hp,fun x hx=>zor (ph x hx)⟩
       . refine ⟨_,i2.by S10,by rw [zbC]; exact h1,by rw [zbC]; exact h8,hp.at ok.a0 ok.b0 _,fun x hx=>?_⟩
         exact zrx ((zpw ok h1 h8 ph (by omega)).bdr hx)
     have K10:=K09.trans S10.keep
     refine zgJ (.of e10) (fun j σ H'=>(∃ o8 o9,σ = [some (.ref a'),some (.int (i : Int)),some (.ref p),o3,o4,some vr,some vw,some v2,o8,o9]) /\ zag H10 H') ⟨⟨_,_,rfl⟩,zag.refl _⟩ (fun j σ H' _ h=>.of (h.2 _ _ e10)) ?_ ?_
     . rintro j v σ H11 hv ⟨⟨o8,o9,rfl⟩,S11⟩
       obtain ⟨ys,iy,y1,y8,py,fy⟩:=both v (List.mem_of_getElem? hv)
       have iy:=iy.by S11
       clear both
       walk_at "gg"
       refine zkM iy ok y8 fy (fun H12 S12=>?_)
       walk_at "gg"
       refine ziD (iy.by S12) ok y8 fy (fun H13 S13=>?_)
       have T13:=S12.trans S13
       have iy13:=iy.by T13
       walk_at "gg"
       refine zew (zi0 _ _ _) (zi0 _ _ _) ?_
       rw [beq_self_eq_true]
       walk_at "gg"
       refine zaI (j:=1) iy13 rfl (fun v3 i3=>?_)
       walk_at "gg"
       obtain ⟨a3,vs3,rfl,s3,t3⟩:=zaY.mp i3
       have l3:=t3.length
       rw [List.length_map] at l3
       refine zf6 s3 (o0:=none) (tl:=[]) rfl (fun j y _=>y = .int (((ys.getD j 0).den : Nat) : Int)) ?_ ?_
       . intro D m x zs o H14 hx inv
         obtain ⟨hj,ix⟩:=zf5 t3 hx
         have ix:=ix.by inv.2.2.1
         walk_at "gg"
         exact zbA inv (by omega) (fun _ _ _ _ _ h=>h) ⟨_,rfl⟩ (zag.refl _) rfl
       . intro D zs H14 n14 S14 e14 l14 r14
         have ez : zs = (ys.map fun x=>((x.den : Nat) : Int)).map V.int:=by
           refine List.ext_getElem (by rw [l14]; simp; omega) fun m h1 h2=>?_
           rw [r14 m zs[m] (List.getElem?_eq_getElem h1)]
           rw [List.length_map,List.length_map] at h2
           simp [List.getD_eq_getElem?_getD,List.getElem?_eq_getElem h2]
         subst ez
         have T14:=T13.trans S14
         have iy14:=iy.by T14
         walk_at "gg"
         refine zqt (.of e14) (by rw [List.length_map]; omega) (fun M hM hmax=>?_)
         walk_at "gg"
         . rename_i hle
           have hph : ∀ x ∈ ys,zaV x:=fun x hx=>⟨py.nn x hx,py.lt x hx,by
             have:=hmax _ (List.mem_map.mpr ⟨x,hx,rfl⟩)
             omega⟩
           refine ze1 ok y1 y8 fy hph (fun v5 H15 S15 i15=>?_)
           walk_at "gg"
           refine zmY i15 (iy14.by S15) (zuI _ _ _) (by decide) (zuO _ _ _) ?_
           walk_at "gg"
           refine ze1 ok y1 y8 fy hph (fun v6 H16 S16 i16=>?_)
           walk_at "gg"
           refine zaI (j:=1) i16 rfl (fun v7 i7=>?_)
           walk_at "gg"
           . rename_i e
             cases (show true = false from e)
           exact ⟨⟨_,_,rfl⟩,S11.trans (T14.trans (S15.trans S16))⟩
         . rename_i hgt
           obtain ⟨x,hx,rfl⟩:=List.mem_map.mp hM
           refine zhQ ok y1 y8 fy ⟨x,hx,by omega⟩ (fun v5 H15 S15 i15=>?_)
           walk_at "gg"
           refine zcR (by simp) (fun l6 H16 n16 S16 e16=>?_)
           walk_at "gg"
           refine zmY (n:=2) (i15.by S16) (zbk.mpr ⟨l6,_,rfl,.of e16,.cons (zce.mpr rfl) (.cons (zce.mpr rfl) .nil)⟩) (ztq (zpD (znx _) (znx _))) (by decide) (ztG (zpD (by simp [PyData.eqv]) (by simp [PyData.eqv]))) ?_
           walk_at "gg"
           exact ⟨⟨_,_,rfl⟩,S11.trans (T14.trans (S15.trans S16))⟩
     . rintro σ H11 ⟨⟨o8,o9,rfl⟩,S11⟩
       exact ⟨⟨_,_,_,_,_,_,_,_,_,rfl⟩,K10.trans S11.keep⟩
 . rintro σ H1 ⟨⟨o1,o2,o3,o4,o5,o6,o7,o8,o9,rfl⟩,K1⟩
   walk_at "gg"
   exact q _
end
end G
namespace G
open PySem PySem.Spec PyProof.Rows L2 GM
theorem zr5 {us : List Value} (h : us.length = 1) : ∃ a,us = [a]:=by
 cases us with
 | nil=>cases h
 | cons a t=>exact ⟨a,by rw [List.length_eq_zero_iff.mp (Nat.succ.inj h)]⟩
theorem zt7 {us : List Value} (h : us.length = 2) : ∃ a0 a1,us = [a0,a1]:=by
 cases us with
 | nil=>cases h
 | cons a0 t =>
   obtain ⟨a1,e⟩:=zr5 (Nat.succ.inj h)
   exact ⟨a0,a1,by rw [e]⟩
inductive FnK (K : PySem.W.Frag) (n : Str) (st : Stmt) (f : Addr) : Prop
 | mk {od an : Option Addr} {sl : Array (Option Value)} {oc kV dc pm cd ct : Value} (a : PySem.W.nsIn K mainGlobals n = some (some (.ref f))) (l : K.lookup f = some ⟨oc,od,.func (PySem.W.fnOf n n (zeJ st) (zc8 st) (zae st) .none kV dc pm an cd ct),sl⟩) (c : PySem.W.codeIn K cd n = true) (k : PySem.W.keepIn K (.ref f) = true) : FnK K n st f
theorem FnK.dn {K : PySem.W.Frag} {h : Heap} {mg : Str -> Option Value} {n : Str} {st : Stmt} {f : Addr} {ps : List Str} (A : FnK K n st f) (X : K.In h) (G : h.Ns mainGlobals mg)
   (b : ∀ (kV doc pm : Value) (an : Option Addr) (cdv ct : Value) (us : List Value),us.length = ps.length -> bindArgs (PySem.W.fnOf n n (zeJ st) (zc8 st) (zae st) .none kV doc pm an cdv ct) ⟨us,[]⟩ = pure (ps.zip us)) : ∃ fd,Dn K mg n st ps f fd:=by
 obtain ⟨a,l,c,k⟩:=A
 have F:=zp7 (st:=st) l c k
 exact ⟨_,F,PySem.W.mg_of X G a,F.binds b⟩
set_option hygiene false in
local macro_rules | `(tactic| walk_at "bd")=>`(tactic| (intro _ _ _ _ _ _ us hl; first | (obtain ⟨_,rfl⟩:=zr5 hl; rfl) | (obtain ⟨_,_,rfl⟩:=zt7 hl; rfl)))
set_option maxHeartbeats 8000000 in
theorem all_mk {l : PySem.W.OpenLaw} {w : World} {K : PySem.W.Frag} {h : Heap} {mg : Str -> Option Value} {fa : Addr} (X : K.In h) (G : h.Ns mainGlobals mg) (hfa : mg "law" = some (.ref fa))
   {f0 f1 f2 f3 f4 f5 f6 f7 f8 f9 f10 f11 f12 f13 f14 f15 f16 f17 f18 f19 f20 f21 f22 f23 f24 f25 f26 f27 f28 f29 f30 f31 f32 f33 f34 f35 f36 f37 f38 f39 f40 f41 : Addr}
   {e0 : Addr}
   {e1 : Addr}
   {e2 : Addr}
   {e3 : Addr}
   {g0 : Addr} {gn0 : Nat} {gd0 : Option Addr} {gs0 : Array (Option Value)} {tk0_0 tk0_1 : Tok}
   {g1 : Addr} {gn1 : Nat} {gd1 : Option Addr} {gs1 : Array (Option Value)} {tk1_0 tk1_1 : Tok}
   {g2 : Addr} {gn2 : Nat} {gd2 : Option Addr} {gs2 : Array (Option Value)} {tk2_0 tk2_1 : Tok}
   {tk3 : Tok}
   {tk4 : Tok}
   {tk5 : Tok}
   {tk6 : Tok}
   {tk7 : Tok}
   {tk8 : Tok}
   (a0 : FnK K "is_whole" zfk f0)
   (a1 : FnK K "greatest_divisor" zbJ f1)
   (a2 : FnK K "is_number" zee f2)
   (a3 : FnK K "plus" zmD f3)
   (a4 : FnK K "minus" zjA f4)
   (a5 : FnK K "times" zkk f5)
   (a6 : FnK K "less" zmE f6)
   (a7 : FnK K "is_factor" zeh f7)
   (a8 : FnK K "is_shift" ze9 f8)
   (a9 : FnK K "make_rule" zer f9)
   (a10 : FnK K "is_rule" zgK f10)
   (a11 : FnK K "pushes" zhS f11)
   (a12 : FnK K "pushed_by" zet f12)
   (a13 : FnK K "is_phase" zft f13)
   (a14 : FnK K "are_phases" zct f14)
   (a15 : FnK K "swarm_of" zfi f15)
   (a16 : FnK K "greatest" zfm f16)
   (a17 : FnK K "at_the_end" zcy f17)
   (a18 : FnK K "glow" zgF f18)
   (a19 : FnK K "history" zgo f19)
   (a20 : FnK K "behind" zia f20)
   (a21 : FnK K "show_number" zdi f21)
   (a22 : FnK K "show_numbers" zbR f22)
   (a23 : FnK K "show_swarm" zdH f23)
   (a24 : FnK K "is_whole_text" zbG f24)
   (a25 : FnK K "number_in" zeA f25)
   (a26 : FnK K "is_number_text" zbx f26)
   (a27 : FnK K "numbers_in" zbU f27)
   (a28 : FnK K "parts_of" zfx f28)
   (a29 : FnK K "lines_of" zd0 f29)
   (a30 : FnK K "read_swarm" zdC f30)
   (a31 : FnK K "_law_pen" zgp f31)
   (a32 : FnK K "_law_draw" zfn f32)
   (a33 : FnK K "_law_low" zgH f33)
   (a34 : FnK K "_law_rule" zfg f34)
   (a35 : FnK K "_law_phases" zdE f35)
   (a36 : FnK K "_law_shown" zek f36)
   (a37 : FnK K "_law_words" zcT f37)
   (a38 : FnK K "_law_any_number" zb6 f38)
   (a39 : FnK K "_law_text" zfj f39)
   (a40 : FnK K "_law_refusal" zdj f40)
   (a41 : FnK K "law" zk8 f41)
   (n_NoSwarm : PySem.W.nsIn K mainGlobals "NoSwarm" = some (some (.ref e0)))
   (n_NoRule : PySem.W.nsIn K mainGlobals "NoRule" = some (some (.ref e1)))
   (n_NoText : PySem.W.nsIn K mainGlobals "NoText" = some (some (.ref e2)))
   (n_GlowError : PySem.W.nsIn K mainGlobals "GlowError" = some (some (.ref e3)))
   (z_abs : PySem.W.nsIn K mainGlobals "abs" = some none)
   (z_all : PySem.W.nsIn K mainGlobals "all" = some none)
   (z_bool : PySem.W.nsIn K mainGlobals "bool" = some none)
   (z_enumerate : PySem.W.nsIn K mainGlobals "enumerate" = some none)
   (z_int : PySem.W.nsIn K mainGlobals "int" = some none)
   (z_isinstance : PySem.W.nsIn K mainGlobals "isinstance" = some none)
   (z_len : PySem.W.nsIn K mainGlobals "len" = some none)
   (z_list : PySem.W.nsIn K mainGlobals "list" = some none)
   (z_max : PySem.W.nsIn K mainGlobals "max" = some none)
   (z_range : PySem.W.nsIn K mainGlobals "range" = some none)
   (z_str : PySem.W.nsIn K mainGlobals "str" = some none)
   (z_tuple : PySem.W.nsIn K mainGlobals "tuple" = some none)
   (h_x_NoSwarm : PySem.W.excIn K e0 zic "ValueError.__new__" = true)
   (h_m_NoSwarm : PySem.W.exmOne K (.ref e0) (.ref e3) = some true)
   (h_e_NoSwarm : ExcCls K e0)
   (h_k_NoSwarm_NoSwarm : PySem.W.kitOne K (.ref e0) (.ref e0) = some true)
   (h_k_NoSwarm_NoRule : PySem.W.kitOne K (.ref e0) (.ref e1) = some false)
   (h_k_NoSwarm_NoText : PySem.W.kitOne K (.ref e0) (.ref e2) = some false)
   (h_v_NoSwarm : PySem.W.kitOne K (.ref e0) (.type "ValueError") = some true)
   (h_x_NoRule : PySem.W.excIn K e1 zic "ValueError.__new__" = true)
   (h_m_NoRule : PySem.W.exmOne K (.ref e1) (.ref e3) = some true)
   (h_e_NoRule : ExcCls K e1)
   (h_k_NoRule_NoSwarm : PySem.W.kitOne K (.ref e1) (.ref e0) = some false)
   (h_k_NoRule_NoRule : PySem.W.kitOne K (.ref e1) (.ref e1) = some true)
   (h_k_NoRule_NoText : PySem.W.kitOne K (.ref e1) (.ref e2) = some false)
   (h_v_NoRule : PySem.W.kitOne K (.ref e1) (.type "ValueError") = some true)
   (h_x_NoText : PySem.W.excIn K e2 zic "ValueError.__new__" = true)
   (h_m_NoText : PySem.W.exmOne K (.ref e2) (.ref e3) = some true)
   (h_e_NoText : ExcCls K e2)
   (h_k_NoText_NoSwarm : PySem.W.kitOne K (.ref e2) (.ref e0) = some false)
   (h_k_NoText_NoRule : PySem.W.kitOne K (.ref e2) (.ref e1) = some false)
   (h_k_NoText_NoText : PySem.W.kitOne K (.ref e2) (.ref e2) = some true)
   (h_v_NoText : PySem.W.kitOne K (.ref e2) (.type "ValueError") = some true)
   (q0 : PySem.W.nsIn K mainGlobals "NOUGHT" = some (some (.ref g0)))
   (r0 : K.lookup g0 = some ⟨.type "tuple",gd0,.seq #[.int 0 tk0_0,.int 1 tk0_1] gn0,gs0⟩)
   (q1 : PySem.W.nsIn K mainGlobals "ONE" = some (some (.ref g1)))
   (r1 : K.lookup g1 = some ⟨.type "tuple",gd1,.seq #[.int 1 tk1_0,.int 1 tk1_1] gn1,gs1⟩)
   (q2 : PySem.W.nsIn K mainGlobals "GREATEST_FACTOR" = some (some (.ref g2)))
   (r2 : K.lookup g2 = some ⟨.type "tuple",gd2,.seq #[.int 4 tk2_0,.int 1 tk2_1] gn2,gs2⟩)
   (q3 : PySem.W.nsIn K mainGlobals "FACTOR_BOTTOM" = some (some (.int 8 tk3)))
   (q4 : PySem.W.nsIn K mainGlobals "SHIFT_BOTTOM" = some (some (.int 12 tk4)))
   (q5 : PySem.W.nsIn K mainGlobals "MOST_WORMS" = some (some (.int 8 tk5)))
   (q6 : PySem.W.nsIn K mainGlobals "PHASE_BOTTOM" = some (some (.int 60 tk6)))
   (q7 : PySem.W.nsIn K mainGlobals "FIGURES" = some (some (.str "0123456789" tk7)))
   (q8 : PySem.W.nsIn K mainGlobals "NUMBER_FIGURES" = some (some (.int 60 tk8)))
   : ∃ fd : FuncData,(∀ (s : Shared) (v : Value),BindsTo s fd ⟨[v],[]⟩ [("_law_script",v)]) /\ ∀ base : Heap,K.In base -> base.Ns mainGlobals mg -> zaM l.prog w K mg base CX0 8 fa fd ["_law_script"] (zj1 K):=by
 obtain ⟨aL,lL,cL,kL⟩:=a41
 cases hfa.symm.trans (PySem.W.mg_of X G aL)
 have FL:=zp7 (st:=zk8) lL cL kL
 have D41 : Dn K mg _ _ zmO _ _:=⟨FL,PySem.W.mg_of X G aL,FL.binds (by walk_at "bd")⟩
 have ⟨_,D0⟩:=a0.dn (ps:=zdA) X G (by walk_at "bd")
 have ⟨_,D1⟩:=a1.dn (ps:=zbb) X G (by walk_at "bd")
 have ⟨_,D2⟩:=a2.dn (ps:=zda) X G (by walk_at "bd")
 have ⟨_,D3⟩:=a3.dn (ps:=zjI) X G (by walk_at "bd")
 have ⟨_,D4⟩:=a4.dn (ps:=zhi) X G (by walk_at "bd")
 have ⟨_,D5⟩:=a5.dn (ps:=zhl) X G (by walk_at "bd")
 have ⟨_,D6⟩:=a6.dn (ps:=zjQ) X G (by walk_at "bd")
 have ⟨_,D7⟩:=a7.dn (ps:=zc6) X G (by walk_at "bd")
 have ⟨_,D8⟩:=a8.dn (ps:=zdP) X G (by walk_at "bd")
 have ⟨_,D9⟩:=a9.dn (ps:=zcV) X G (by walk_at "bd")
 have ⟨_,D10⟩:=a10.dn (ps:=zeH) X G (by walk_at "bd")
 have ⟨_,D11⟩:=a11.dn (ps:=zgm) X G (by walk_at "bd")
 have ⟨_,D12⟩:=a12.dn (ps:=zc7) X G (by walk_at "bd")
 have ⟨_,D13⟩:=a13.dn (ps:=zdN) X G (by walk_at "bd")
 have ⟨_,D14⟩:=a14.dn (ps:=zcw) X G (by walk_at "bd")
 have ⟨_,D15⟩:=a15.dn (ps:=zdz) X G (by walk_at "bd")
 have ⟨_,D16⟩:=a16.dn (ps:=zdM) X G (by walk_at "bd")
 have ⟨_,D17⟩:=a17.dn (ps:=zcs) X G (by walk_at "bd")
 have ⟨_,D18⟩:=a18.dn (ps:=zkx) X G (by walk_at "bd")
 have ⟨_,D19⟩:=a19.dn (ps:=zeL) X G (by walk_at "bd")
 have ⟨_,D20⟩:=a20.dn (ps:=zf4) X G (by walk_at "bd")
 have ⟨_,D21⟩:=a21.dn (ps:=zcd) X G (by walk_at "bd")
 have ⟨_,D22⟩:=a22.dn (ps:=zb5) X G (by walk_at "bd")
 have ⟨_,D23⟩:=a23.dn (ps:=zcz) X G (by walk_at "bd")
 have ⟨_,D24⟩:=a24.dn (ps:=zbE) X G (by walk_at "bd")
 have ⟨_,D25⟩:=a25.dn (ps:=zcZ) X G (by walk_at "bd")
 have ⟨_,D26⟩:=a26.dn (ps:=zbt) X G (by walk_at "bd")
 have ⟨_,D27⟩:=a27.dn (ps:=zcr) X G (by walk_at "bd")
 have ⟨_,D28⟩:=a28.dn (ps:=zdJ) X G (by walk_at "bd")
 have ⟨_,D29⟩:=a29.dn (ps:=zdD) X G (by walk_at "bd")
 have ⟨_,D30⟩:=a30.dn (ps:=zcp) X G (by walk_at "bd")
 have ⟨_,D31⟩:=a31.dn (ps:=zeT) X G (by walk_at "bd")
 have ⟨_,D32⟩:=a32.dn (ps:=zdF) X G (by walk_at "bd")
 have ⟨_,D33⟩:=a33.dn (ps:=zeO) X G (by walk_at "bd")
 have ⟨_,D34⟩:=a34.dn (ps:=zdB) X G (by walk_at "bd")
 have ⟨_,D35⟩:=a35.dn (ps:=zco) X G (by walk_at "bd")
 have ⟨_,D36⟩:=a36.dn (ps:=zc4) X G (by walk_at "bd")
 have ⟨_,D37⟩:=a37.dn (ps:=zc3) X G (by walk_at "bd")
 have ⟨_,D38⟩:=a38.dn (ps:=zbu) X G (by walk_at "bd")
 have ⟨_,D39⟩:=a39.dn (ps:=zdI) X G (by walk_at "bd")
 have ⟨_,D40⟩:=a40.dn (ps:=zcc) X G (by walk_at "bd")
 have T : Txt K mg ⟨f0,_,f1,_,f2,_,f3,_,f4,_,f5,_,f6,_,f7,_,f8,_,f9,_,f10,_,f11,_,f12,_,f13,_,f14,_,f15,_,f16,_,f17,_,f18,_,f19,_,f20,_,f21,_,f22,_,f23,_,f24,_,f25,_,f26,_,f27,_,f28,_,f29,_,f30,_,f31,_,f32,_,f33,_,f34,_,f35,_,f36,_,f37,_,f38,_,f39,_,f40,_,_,_,e0,e1,e2,e3,g0,g1,g2⟩:=⟨D0,
   D1,
   D2,
   D3,
   D4,
   D5,
   D6,
   D7,
   D8,
   D9,
   D10,
   D11,
   D12,
   D13,
   D14,
   D15,
   D16,
   D17,
   D18,
   D19,
   D20,
   D21,
   D22,
   D23,
   D24,
   D25,
   D26,
   D27,
   D28,
   D29,
   D30,
   D31,
   D32,
   D33,
   D34,
   D35,
   D36,
   D37,
   D38,
   D39,
   D40,
   D41,
   PySem.W.mg_none_of X G z_abs,
   PySem.W.mg_none_of X G z_all,
   PySem.W.mg_none_of X G z_bool,
   PySem.W.mg_none_of X G z_enumerate,
   PySem.W.mg_none_of X G z_int,
   PySem.W.mg_none_of X G z_isinstance,
   PySem.W.mg_none_of X G z_len,
   PySem.W.mg_none_of X G z_list,
   PySem.W.mg_none_of X G z_max,
   PySem.W.mg_none_of X G z_range,
   PySem.W.mg_none_of X G z_str,
   PySem.W.mg_none_of X G z_tuple,
   PySem.W.mg_of X G n_NoSwarm,
   PySem.W.mg_of X G n_NoRule,
   PySem.W.mg_of X G n_NoText,
   PySem.W.mg_of X G n_GlowError,
   h_x_NoSwarm,
   h_m_NoSwarm,
   h_e_NoSwarm,
   h_k_NoSwarm_NoSwarm,
   h_k_NoSwarm_NoRule,
   h_k_NoSwarm_NoText,
   h_v_NoSwarm,
   h_x_NoRule,
   h_m_NoRule,
   h_e_NoRule,
   h_k_NoRule_NoSwarm,
   h_k_NoRule_NoRule,
   h_k_NoRule_NoText,
   h_v_NoRule,
   h_x_NoText,
   h_m_NoText,
   h_e_NoText,
   h_k_NoText_NoSwarm,
   h_k_NoText_NoRule,
   h_k_NoText_NoText,
   h_v_NoText,
   PySem.W.mg_of X G q0,
   fun H=>.inr ⟨_,_,_,r0,rfl,rfl,by simp; decide,(.cons ⟨_,rfl⟩ (.cons ⟨_,rfl⟩ .nil))⟩,
   PySem.W.mg_of X G q1,
   fun H=>.inr ⟨_,_,_,r1,rfl,rfl,by simp; decide,(.cons ⟨_,rfl⟩ (.cons ⟨_,rfl⟩ .nil))⟩,
   PySem.W.mg_of X G q2,
   fun H=>.inr ⟨_,_,_,r2,rfl,rfl,by simp; decide,(.cons ⟨_,rfl⟩ (.cons ⟨_,rfl⟩ .nil))⟩,
   ⟨_,PySem.W.mg_of X G q3⟩,
   ⟨_,PySem.W.mg_of X G q4⟩,
   ⟨_,PySem.W.mg_of X G q5⟩,
   ⟨_,PySem.W.mg_of X G q6⟩,
   ⟨_,PySem.W.mg_of X G q7⟩,
   ⟨_,PySem.W.mg_of X G q8⟩⟩
 exact ⟨_,fun s v=>.of_eq rfl,fun base _ _=>zsD T⟩
theorem walk {l : PySem.W.OpenLaw} {q : Program} {loose : List Str} {XP : (Str -> Option Value) -> Heap -> Prop} {YP : World -> Heap -> Prop} {d : DefRec} {K : Params -> PySem.W.Frag} (hn : l.most = some 63) (hdf : d.params.defaults = [])
   (hY : ∀ (w : World) (h : Heap),YP w h -> (K w.params).In h)
   (F : ∀ (w : World) (mg : Str -> Option Value) (fa : Addr) (h : Heap),(K w.params).In h -> h.Ns mainGlobals mg -> mg d.name = some (.ref fa) ->
     ∃ fd : FuncData,(∀ (s : Shared) (u : Value),BindsTo s fd ⟨[u],[]⟩ [("_law_script",u)]) /\ ∀ base : Heap,(K w.params).In base -> base.Ns mainGlobals mg -> zaM l.prog w (K w.params) mg base CX0 8 fa fd ["_law_script"] (zj1 (K w.params))) :
   PySem.W.WalkO q loose XP YP l.row.toRowW d [] (fun f vs=>PySem.call f vs) :=
 L2.walk_of (n:=63) (k:=8) (x:="_law_script") (CX:=fun _=>CX0) (sp:=fun w=>zj1 (K w.params)) hn (by decide) hdf ⟨rfl,by decide,by decide,rfl⟩ hY F (fun _ H a ns hl hO hS=>⟨.ref a,rfl,a,ns,rfl,zsr hO hS,hl,fun _=>rfl⟩) fun _ _ _ _ _ z=>z
end G
local macro_rules | `(tactic| walk_at "fk")=>`(tactic| (refine' G.FnK.mk ?a ?l ?c ?k; (case a=>k_is); (case l=>k_is); (case c=>k_is); (case k=>k_is)))
open PySem PySem.W PyProof.Rows
set_option maxRecDepth 100000 in
set_option maxHeartbeats 0 in
theorem PySem.Challenge.cw_glowflock_k55_swarms_written_and_read_holds : PySem.Challenge.rw_glowflock_k55_swarms_written_and_read.Holds := by
 w_on; refine GH.head ?_
 k_fill
 refine G.walk (l:=PySem.Challenge.rw_glowflock_k55_swarms_written_and_read) rfl rfl (fun w h Y=>PySem.W.kIn_of Y) ?F
 case F =>
   intro w mg fa h KX GG hmg
   refine' G.all_mk KX GG hmg ?a0 ?a1 ?a2 ?a3 ?a4 ?a5 ?a6 ?a7 ?a8 ?a9 ?a10 ?a11 ?a12 ?a13 ?a14 ?a15 ?a16 ?a17 ?a18 ?a19 ?a20 ?a21 ?a22 ?a23 ?a24 ?a25 ?a26 ?a27 ?a28 ?a29 ?a30 ?a31 ?a32 ?a33 ?a34 ?a35 ?a36 ?a37 ?a38 ?a39 ?a40 ?a41 ?n_NoSwarm ?n_NoRule ?n_NoText ?n_GlowError ?z_abs ?z_all ?z_bool ?z_enumerate ?z_int ?z_isinstance ?z_len ?z_list ?z_max ?z_range ?z_str ?z_tuple ?h_x_NoSwarm ?h_m_NoSwarm ?h_e_NoSwarm ?h_k_NoSwarm_NoSwarm ?h_k_NoSwarm_NoRule ?h_k_NoSwarm_NoText ?h_v_NoSwarm ?h_x_NoRule ?h_m_NoRule ?h_e_NoRule ?h_k_NoRule_NoSwarm ?h_k_NoRule_NoRule ?h_k_NoRule_NoText ?h_v_NoRule ?h_x_NoText ?h_m_NoText ?h_e_NoText ?h_k_NoText_NoSwarm ?h_k_NoText_NoRule ?h_k_NoText_NoText ?h_v_NoText ?q0 ?r0 ?q1 ?r1 ?q2 ?r2 ?q3 ?q4 ?q5 ?q6 ?q7 ?q8
   (case a0=>walk_at "fk")
   (case a1=>walk_at "fk")
   (case a2=>walk_at "fk")
   (case a3=>walk_at "fk")
   (case a4=>walk_at "fk")
   (case a5=>walk_at "fk")
   (case a6=>walk_at "fk")
   (case a7=>walk_at "fk")
   (case a8=>walk_at "fk")
   (case a9=>walk_at "fk")
   (case a10=>walk_at "fk")
   (case a11=>walk_at "fk")
   (case a12=>walk_at "fk")
   (case a13=>walk_at "fk")
   (case a14=>walk_at "fk")
   (case a15=>walk_at "fk")
   (case a16=>walk_at "fk")
   (case a17=>walk_at "fk")
   (case a18=>walk_at "fk")
   (case a19=>walk_at "fk")
   (case a20=>walk_at "fk")
   (case a21=>walk_at "fk")
   (case a22=>walk_at "fk")
   (case a23=>walk_at "fk")
   (case a24=>walk_at "fk")
   (case a25=>walk_at "fk")
   (case a26=>walk_at "fk")
   (case a27=>walk_at "fk")
   (case a28=>walk_at "fk")
   (case a29=>walk_at "fk")
   (case a30=>walk_at "fk")
   (case a31=>walk_at "fk")
   (case a32=>walk_at "fk")
   (case a33=>walk_at "fk")
   (case a34=>walk_at "fk")
   (case a35=>walk_at "fk")
   (case a36=>walk_at "fk")
   (case a37=>walk_at "fk")
   (case a38=>walk_at "fk")
   (case a39=>walk_at "fk")
   (case a40=>walk_at "fk")
   (case a41=>walk_at "fk")
   (case n_NoSwarm=>k_is)
   (case n_NoRule=>k_is)
   (case n_NoText=>k_is)
   (case n_GlowError=>k_is)
   (case z_abs=>k_is)
   (case z_all=>k_is)
   (case z_bool=>k_is)
   (case z_enumerate=>k_is)
   (case z_int=>k_is)
   (case z_isinstance=>k_is)
   (case z_len=>k_is)
   (case z_list=>k_is)
   (case z_max=>k_is)
   (case z_range=>k_is)
   (case z_str=>k_is)
   (case z_tuple=>k_is)
   (case h_x_NoSwarm=>k_exc)
   (case h_m_NoSwarm=>kts_exm)
   (case h_e_NoSwarm=>(refine L2.ExcCls.mk ?_ ?_ ?_ ?_ ?_ ?_ ?_ ?_ <;> first | k_is | (show PySem.W.isClsIn _ _ = true; k_is)))
   (case h_k_NoSwarm_NoSwarm=>kit_is)
   (case h_k_NoSwarm_NoRule=>kit_is)
   (case h_k_NoSwarm_NoText=>kit_is)
   (case h_v_NoSwarm=>kit_is)
   (case h_x_NoRule=>k_exc)
   (case h_m_NoRule=>kts_exm)
   (case h_e_NoRule=>(refine L2.ExcCls.mk ?_ ?_ ?_ ?_ ?_ ?_ ?_ ?_ <;> first | k_is | (show PySem.W.isClsIn _ _ = true; k_is)))
   (case h_k_NoRule_NoSwarm=>kit_is)
   (case h_k_NoRule_NoRule=>kit_is)
   (case h_k_NoRule_NoText=>kit_is)
   (case h_v_NoRule=>kit_is)
   (case h_x_NoText=>k_exc)
   (case h_m_NoText=>kts_exm)
   (case h_e_NoText=>(refine L2.ExcCls.mk ?_ ?_ ?_ ?_ ?_ ?_ ?_ ?_ <;> first | k_is | (show PySem.W.isClsIn _ _ = true; k_is)))
   (case h_k_NoText_NoSwarm=>kit_is)
   (case h_k_NoText_NoRule=>kit_is)
   (case h_k_NoText_NoText=>kit_is)
   (case h_v_NoText=>kit_is)
   (case q0=>k_is)
   (case r0=>k_is)
   (case q1=>k_is)
   (case r1=>k_is)
   (case q2=>k_is)
   (case r2=>k_is)
   (case q3=>k_is)
   (case q4=>k_is)
   (case q5=>k_is)
   (case q6=>k_is)
   (case q7=>k_is)
   (case q8=>k_is)
#print axioms PySem.Challenge.cw_glowflock_k55_swarms_written_and_read_holds
