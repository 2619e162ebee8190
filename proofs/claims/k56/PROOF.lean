import PyProof.Rows.All
import Wide.All
import OpenK.AllK
import Wide.FinOn
import Lean
import PyProof.EqAt
import PyProof.EqKinds
import PyProof.TupleCall
import PyProof.P3In
import PyProof.ReprRoads
import PyProof.MaxThree
import PyProof.Rows.SetFrom
import PyProof.SetRoads
import PyProof.Rows.TupDisplay
import PySem.SetTable
import PyProof.TupleKey
import PyProof.SetKind
import PyProof.IsRules
import KE.KSortTup
import PyProof.FactsAll.set_1
import KE.KDictList
import PyProof.ReprLen
import PyProof.ReprRoads
import PyProof.ListMulRoad
import PyProof.FactsAll.tuple
import PyProof.CallStr
import PyProof.StrCalls2
import PyProof.StrLawsJoin
import PyProof.ReprLen
import PyProof.ReprRoads
import PyProof.StrLawsTight
import PyProof.StrLawsJoin
import PyProof.StrCalls3
import PyProof.StrLoop
import PyProof.StrWalks
import PyProof.FString
import PyProof.Conv_int
import PySem.Challenge.RW_glowflock_k56_webs_written_and_read
set_option compiler.extract_closed false
set_option Elab.async false
set_option linter.all false
set_option maxRecDepth 100000
namespace GH
open PySem PySem.W PyProof.Rows
noncomputable def zqT (p : Program) (w : World) (m : Nat) (an : Option Value) (N : Nat) (s0 : Shared) : Option Shared :=
 Option.bind (Fast.tw14082659384304107361 Fast.tw14364793385576792824 p w m an N s0 (topStub p)) fun s1=>match staticsOk (Fast.tw5923862056798008813 p.main.body) s0.heap s1.heap && namesBound p s1.heap && gensDone s1 && laidKept s0.heap s1.heap with | true=>some s1 | false=>none
noncomputable def zp5 (w : World) (os : OsState) : Shared:=⟨boot_heap w.params,#[],boot_drawn,boot_toks,os⟩
theorem left_once {p q : Program} {loose : List Str} {Xt : Shared -> Bool} {A : Type} {Yf : Shared -> A} {Ya : World -> A} {N : Nat} (e : opening p = plainProg p.main.scope.names) (hN : Nat.ble 600 N = true) (f : ∀ s,fenceModules? p s = some s) {m : Nat} {an : Option Value}
   (size : ∀ w : World,((boot_heap w.params).isNs mainGlobals,(boot_heap w.params).objs.size,(boot_heap w.params).nsMap mainGlobals "__annotations__") = (true,m,an))
   (h : ∀ w : World,(fun os=>(zqT p w m an N (zp5 w os)).map (fun s=>(Fast.tw4187177175401517315 q loose (Fast.tw5923862056798008813 p.main.body) Xt true s,Yf s))) = fun _=>some (openGood q loose,Ya w)) : LeftO p q loose Xt Yf Ya N:=fun w=>by
 obtain ⟨⟨h',gs,d,k,os⟩,e',e2⟩:=Option.map_eq_some_iff.mp (boot_open e hN f (w:=w))
 obtain ⟨rfl,rfl,rfl,rfl⟩ : h' = boot_heap w.params /\ gs = #[] /\ d = boot_drawn /\ k = boot_toks:=by simpa using e2
 obtain ⟨z1,z2,z3⟩ : _ /\ _ /\ _:=by simpa only [Prod.mk.injEq] using size w
 have r:=congrFun (h w) os
 unfold openEnds
 rw [e']
 show Option.map _ (topFrom treeTable p w N _) = _
 rw [<- r]
 unfold topFrom zqT zp5
 rw [<- Fast.te14082659384304107361,<- Fast.te14364793385576792824,<- Fast.te5923862056798008813,<- Fast.te4187177175401517315]
 dsimp only
 rw [z1,z2,z3]
 rfl
def qv : Program:=view PySem.Challenge.pw_glowflock_k56_webs_written_and_read [1,2,3,5,6,8,9,10,11,12,13,14,15,16,17,18,19,21,22,23,24,25,26,27,28,29,30,31,33,34,35,36,37,38]
theorem said : PySem.Challenge.rw_glowflock_k56_webs_written_and_read.wellSaid = true:=by kernel_rfl
theorem size (w : World) : ((boot_heap w.params).isNs mainGlobals,(boot_heap w.params).objs.size,(boot_heap w.params).nsMap mainGlobals "__annotations__") = (true,11,some (.ref 6)):=by kernel_rfl
local macro_rules | `(tactic| o_head $H)=>`(tactic| (refine holds_open (q:=GH.qv) (loose:=[]) (Xt:=fun s=>xlAt GH.qv [] s && recOk (RowW.records (OpenRow.toRowW (OpenLaw.row PySem.Challenge.rw_glowflock_k56_webs_written_and_read))) s) (XP:=XL GH.qv []) (Yf:=Hook.obs $H) (Ya:=Hook.val $H) (YP:=Hook.says $H) (N:=2894) ?hl (Hook.of $H) (Hook.keeps $H) (fun s e=>xl_of s (Bool.and_eq_true_iff.mp e).1) XL.keeps (by rfl) (by rfl) (by rfl) (fun s e=>recFacts_of (Bool.and_eq_true_iff.mp e).2) (by rfl) (by first | assumption | decide +kernel) (by decide +kernel) ⟨rfl,rfl,rfl,rfl,rfl,by decide +kernel⟩ ?hw ?hc; (case hl=>refine GH.left_once (by kernel_rfl) rfl (fun s=>by kernel_rfl) GH.size ?_; intro w; kernel_rfl)))
local macro_rules | `(tactic| o_law)=>`(tactic| refine holds_law GH.said fun said=>?_)
set_option maxHeartbeats 0
open_top head for PySem.Challenge.rw_glowflock_k56_webs_written_and_read
end GH
set_option maxHeartbeats 200000
set_option Elab.async false
set_option linter.all false
set_option maxRecDepth 100000
namespace L2
open PySem PySem.Spec PyProof.Rows
abbrev Key:=Sum Int Str
def zor : Key -> Value -> Bool
 | .inl k,v=>Value.isInt k v
 | .inr x,v=>Value.isStrOf x v
def zrb (w : World) : Key -> Int
 | .inl k=>hashInt k
 | .inr x=>hashStr w x
theorem zaJ : ∀ {k : Key} {v : Value},zor k v = true -> (∃ i t,k = Sum.inl i /\ v = Value.int i t) \/ (∃ x t,k = Sum.inr x /\ v = Value.str x t)
 | .inl i,v,h=>by
   obtain ⟨t,e⟩:=Value.isInt_shape (k:=i) (v:=v) h
   exact .inl ⟨i,t,rfl,e⟩
 | .inr x,v,h=>by
   obtain ⟨t,e⟩:=Value.isStrOf_shape (x:=x) (v:=v) h
   exact .inr ⟨x,t,rfl,e⟩
theorem zpC (a b : Int) : decide ((Sum.inl a : Key) = Sum.inl b) = (a == b):=by
 by_cases e : a = b
 . subst e; simp
 . have h : ¬ (Sum.inl a : Key) = Sum.inl b:=fun q=>e (Sum.inl.inj q)
   rw [decide_eq_false h]
   exact (beq_eq_false_iff_ne.mpr e).symm
theorem zpu (a b : Str) : decide ((Sum.inr a : Key) = Sum.inr b) = decide (a = b):=by
 by_cases e : a = b
 . subst e; simp
 . have h : ¬ (Sum.inr a : Key) = Sum.inr b:=fun q=>e (Sum.inr.inj q)
   rw [decide_eq_false h,decide_eq_false e]
theorem zpX (a : Int) (b : Str) : decide ((Sum.inl a : Key) = Sum.inr b) = false:=decide_eq_false (fun q=>nomatch q)
theorem zp2 (a : Str) (b : Int) : decide ((Sum.inr a : Key) = Sum.inl b) = false:=decide_eq_false (fun q=>nomatch q)
def zhj (prog : Program) (w : World) : PySem.KeyKind prog w Key where
 is:=zor
 hash:=zrb w
 inj:=fun v a b ha hb=>by
   rcases zaJ ha with ⟨i,t,rfl,rfl⟩ | ⟨x,t,rfl,rfl⟩
   . rcases zaJ hb with ⟨j,u,rfl,e⟩ | ⟨y,u,rfl,e⟩
     . injection e with e1 _; rw [e1]
     . exact nomatch e
   . rcases zaJ hb with ⟨j,u,rfl,e⟩ | ⟨y,u,rfl,e⟩
     . exact nomatch e
     . injection e with e1 _; rw [e1]
 byValue:=fun k v h=>by
   rcases zaJ h with ⟨i,t,rfl,rfl⟩ | ⟨x,t,rfl,rfl⟩ <;> rfl
 pyHash:=fun hv h=>by
   rcases zaJ hv with ⟨i,t,rfl,rfl⟩ | ⟨x,t,rfl,rfl⟩
   . exact wpAny_pyHash_int h
   . exact wpAny_pyHash_str h
 eqBool:=fun hu hv h=>by
   rcases zaJ hu with ⟨i,t,rfl,rfl⟩ | ⟨x,t,rfl,rfl⟩
   . rcases zaJ hv with ⟨j,u,rfl,rfl⟩ | ⟨y,u,rfl,rfl⟩
     . rw [zpC] at h; exact wpAny_eqBool_int h
     . rw [zpX] at h; exact SeqAt.EqAt.int_str i t y u _ _ _ _ h
   . rcases zaJ hv with ⟨j,u,rfl,rfl⟩ | ⟨y,u,rfl,rfl⟩
     . rw [zp2] at h; exact SeqAt.EqAt.str_int x t j u _ _ _ _ h
     . rw [zpu] at h; exact wpAny_eqBool_str h
 «strs»:=fun k x t v h=>by
   rcases zaJ h with ⟨i,u,rfl,e⟩ | ⟨y,u,rfl,e⟩
   . exact nomatch e
   . injection e with e1 _
     subst e1
     cases v <;> rfl
end L2
namespace L2
open PySem PySem.Spec PyProof.Rows
inductive V where
 | non | bl (b : Bool) | int (i : Int) | str (x : Str) | byt (b : Array UInt8) | flt (b : UInt64) | ref (a : Addr) | ty (n : String)
 deriving DecidableEq
def zaG : V -> Value -> Prop
 | .non,u=>u = Value.none
 | .bl b,u=>u = Value.bool b
 | .int i,u=>∃ t,u = Value.int i t
 | .str x,u=>∃ t,u = Value.str x t
 | .byt b,u=>∃ t,u = Value.bytes b t
 | .flt b,u=>∃ t,u = Value.float b t
 | .ref a,u=>u = Value.ref a
 | .ty n,u=>u = Value.type n
abbrev zak : List V -> List Value -> Prop:=Paired zaG
theorem zak.length {xs : List V} {us : List Value} (r : zak xs us) : xs.length = us.length:=Paired.length r
theorem zak.get : ∀ {xs : List V} {us : List Value} {i : Nat} {x : V},zak xs us -> xs[i]? = some x -> ∃ u,us[i]? = some u /\ zaG x u
 | _,_,_,_,.nil,e=>by simp at e
 | _,_,0,_,.cons r _,e=>by simp at e; subst e; exact ⟨_,rfl,r⟩
 | _,_,i + 1,x,.cons _ t,e=>by
   obtain ⟨u,h1,h2⟩:=zak.get (i:=i) (x:=x) t (by simpa using e)
   exact ⟨u,by simpa using h1,h2⟩
theorem zak.set {x : V} {u : Value} (r : zaG x u) : ∀ {xs : List V} {us : List Value} (i : Nat),zak xs us -> zak (xs.set i x) (us.set i u)
 | _,_,_,.nil=>.nil
 | _,_,0,.cons _ t=>.cons r t
 | _,_,i + 1,.cons q t=>.cons q (zak.set r i t)
theorem zak.append : ∀ {xs ys : List V} {us ws : List Value},zak xs us -> zak ys ws -> zak (xs ++ ys) (us ++ ws)
 | _,_,_,_,.nil,s=>s
 | _,_,_,_,.cons r t,s=>.cons r (zak.append t s)
theorem zak.take : ∀ {xs : List V} {us : List Value} (n : Nat),zak xs us -> zak (xs.take n) (us.take n)
 | _,_,0,_=>.nil
 | _,_,_ + 1,.nil=>.nil
 | _,_,n + 1,.cons r t=>.cons r (zak.take n t)
theorem zak.drop : ∀ {xs : List V} {us : List Value} (n : Nat),zak xs us -> zak (xs.drop n) (us.drop n)
 | _,_,0,r=>r
 | _,_,_ + 1,.nil=>.nil
 | _,_,n + 1,.cons _ t=>zak.drop n t
def zq0 : Option V -> Option Value -> Prop
 | some v,some u=>zaG v u
 | none,none=>True
 | _,_=>False
def KV {κ : Type} : List (κ × V) -> List (κ × Value) -> Prop:=Paired fun (p : κ × V) (q : κ × Value)=>p.1 = q.1 /\ zaG p.2 q.2
def kV : Key -> V
 | .inl i=>.int i
 | .inr x=>.str x
inductive HO where
 /-- a list -/
 | lst (xs : List V)
 /-- a tuple (never changes) -/
 | tup (xs : List V)
 /-- a dict whose keys are ints and texts; one whose keys are tuples of ints and texts (the empty one is both) -/
 | dK (kvs : List (Key × V)) | dT (kvs : List (List Key × V))
 /-- a set of ints: its members,its size -/
 | set (S : Int -> Bool) (n : Nat)
 /-- an instance of the class at C,its dict at dx,its attributes -/
 | ins (C dx : Addr) (fs : List (Str × V))
 /-- the dict of the instance at x -/
 | own (x : Addr)
 /-- the dict of an exception -/
 | xd (fs : List (Str × V))
 /-- a bound method,f of x -/
 | met (f x : Addr)
 /-- a range object lo,lo + 1,.. below hi -/
 | rng (lo hi : Int)
 /-- a thing that is known to the object (the script; a dict while a loop walks it): read,never written while it is so -/
 | frz (o : Obj) (u : HO)
 /-- a code object's table -/
 | tbl (ps : Array Value)
 /-- any other thing,by what is true of its one object (a def of one's own: SetO a S n:=HO.ext fun h=>..) -/
 | ext (φ : Heap -> Prop)
abbrev Hp:=Addr -> Option HO
def upd (H : Hp) (a : Addr) (o : HO) : Hp:=fun b=>if b = a then some o else H b
theorem zal {H : Hp} {a : Addr} {o : HO} : upd H a o a = some o:=by unfold upd; rw [if_pos rfl]
theorem zaZ {H : Hp} {a b : Addr} {o : HO} (h : b ≠ a) : upd H a o b = H b:=by unfold upd; rw [if_neg h]
theorem zoy {H : Hp} {a b : Addr} {o u : HO} (h : H a = some o) (h' : H b = some u) (d : o ≠ u) : a ≠ b:=by
 intro e; subst e; rw [h] at h'; exact d (Option.some.inj h')
theorem zaA {H : Hp} {a b : Addr} {o : HO} (h : H a = some o) (h' : H b = none) : a ≠ b:=by
 intro e; subst e; rw [h] at h'; cases h'
section
variable (P : Program) (w : World)
def zbe (H : Hp) (h : Heap) (a : Addr) : HO -> Prop
 | .lst xs=>xs.length <= sizeLine /\ ∃ (its : List Value) (n : Nat),zak xs its /\ h.get? a = some { cls:=.type "list",data:=.seq its.toArray n }
 | .tup xs=>xs.length <= sizeLine /\ ∃ its : List Value,zak xs its /\ IsTup h a its.toArray
 | .dK kvs=>kvs.length <= sizeLine /\ (a == sysModules) = false /\ ∃ vs,KV kvs vs /\ h.DictOf (zhj P w) a vs
 | .dT kvs=>kvs.length <= sizeLine /\ (a == sysModules) = false /\ ∃ xs : List (List Key × Addr × Value),
     Paired (fun (p : List Key × V) (q : List Key × Addr × Value)=>p.1 = q.1 /\ H q.2.1 = some (.tup (p.1.map kV)) /\ zaG p.2 q.2.2) kvs xs /\
     ∃ o es ep,h.get? a = some o /\ o.ExactDict /\ o.data = .dict es ep /\ es.toList = xs.map (entryOfKey (tupleKind (zhj P w))) /\ (xs.map (·.1)).Nodup
 | .set S n=>h.SetOf (intKind P w) a S n
 | .ins C dx fs=>H dx = some (.own a) /\ fs.length <= 1000 /\ dx ≠ a /\ h.get? a = some (PySem.W.instObj C dx) /\
     ∃ mA,h.Ns1 dx mA /\ (∀ f,zq0 (fs.lookup f) (mA f)) /\ PySem.Within mA (fs.map (·.1))
 | .own _=>∃ o,h.get? a = some o
 | .xd fs=>∃ mA,h.Ns1 a mA /\ ∀ f,zq0 (fs.lookup f) (mA f)
 | .rng lo hi=>∃ t u v,h.get? a = some { cls:=.type "range",data:=.fields #[.int lo t,.int hi u,.int 1 v] }
 | .frz o u=>h.get? a = some o /\ zbe H h a u
 | .tbl ps=>h.get? a = some { cls:=.none,data:=.fields ps }
 | .met f x=>h.get? a = some (PySem.W.methodObj (.ref f) (.ref x))
 | .ext φ=>φ h /\ (∃ o,h.get? a = some o) /\ ∀ h1 h2 : Heap,φ h1 -> (∀ o,h1.get? a = some o -> h2.get? a = some o) -> φ h2
def HOk (H : Hp) (h : Heap) : Prop:=∀ a o,H a = some o -> zbe P w H h a o
end
section
variable {P : Program} {w : World} {H H' : Hp} {h h' : Heap} {a : Addr} {o : HO}
theorem zbe.lt (x : zbe P w H h a o) : a < h.objs.size:=by
 cases o with
 | lst xs=>obtain ⟨_,_,_,_,e⟩:=x; exact Heap.lt_size e
 | tup xs=>obtain ⟨_,_,_,p⟩:=x; exact p.lt
 | dK kvs=>obtain ⟨_,_,_,_,o,_,_,e,_⟩:=x; exact Heap.lt_size e
 | dT kvs=>obtain ⟨_,_,_,_,o,_,_,e,_⟩:=x; exact Heap.lt_size e
 | set S n=>obtain ⟨o,_,_,_,e,_⟩:=x; exact Heap.lt_size e
 | ins C dx fs=>obtain ⟨_,_,_,e,_⟩:=x; exact Heap.lt_size e
 | own y=>obtain ⟨_,e⟩:=x; exact Heap.lt_size e
 | xd fs=>obtain ⟨_,⟨_,_,_,e,_⟩,_⟩:=x; exact Heap.lt_size e
 | rng lo hi=>obtain ⟨_,_,_,e⟩:=x; exact Heap.lt_size e
 | frz ob u=>obtain ⟨e,_⟩:=x; exact Heap.lt_size e
 | tbl ps=>exact Heap.lt_size (show h.get? a = some _ from x)
 | met f y=>exact Heap.lt_size (show h.get? a = some _ from x)
 | ext φ=>obtain ⟨_,⟨_,e⟩,_⟩:=x; exact Heap.lt_size e
theorem Paired.mapP {α β : Type} {F G : α -> β -> Prop} : ∀ {l₁ : List α} {l₂ : List β},Paired F l₁ l₂ -> (∀ a b,F a b -> G a b) -> Paired G l₁ l₂
 | _,_,.nil,_=>.nil
 | _,_,.cons r t,f=>.cons (f _ _ r) (Paired.mapP t f)
theorem zbe.stay (x : zbe P w H h a o) (k : ∀ b u,(b = a \/ H b = some (.own a)) -> h.get? b = some u -> h'.get? b = some u)
   (ho : ∀ b,H b = some (.own a) -> H' b = some (.own a)) (ht : ∀ b xs,H b = some (.tup xs) -> H' b = some (.tup xs)) : zbe P w H' h' a o:=by
 induction o with
 | lst xs=>obtain ⟨z,its,n,r,e⟩:=x; exact ⟨z,its,n,r,k _ _ (.inl rfl) e⟩
 | tup xs=>obtain ⟨z,its,r,ob,e,c⟩:=x; exact ⟨z,its,r,ob,k _ _ (.inl rfl) e,c⟩
 | dK kvs=>obtain ⟨z,y,vs,r,ob,es,ep,e,c⟩:=x; exact ⟨z,y,vs,r,ob,es,ep,k _ _ (.inl rfl) e,c⟩
 | dT kvs =>
   obtain ⟨z,y,xs,r,ob,es,ep,e,c⟩:=x
   exact ⟨z,y,xs,Paired.mapP r fun p q z=>⟨z.1,ht _ _ z.2.1,z.2.2⟩,ob,es,ep,k _ _ (.inl rfl) e,c⟩
 | set S n=>obtain ⟨ob,es,ep,t,e,c⟩:=x; exact ⟨ob,es,ep,t,k _ _ (.inl rfl) e,c⟩
 | ins C dx fs =>
   obtain ⟨d,z,ne,e,mA,⟨od,es,ep,e2,c⟩,r⟩:=x
   exact ⟨ho _ d,z,ne,k _ _ (.inl rfl) e,mA,⟨od,es,ep,k _ _ (.inr d) e2,c⟩,r⟩
 | own y=>obtain ⟨ob,e⟩:=x; exact ⟨ob,k _ _ (.inl rfl) e⟩
 | xd fs=>obtain ⟨mA,⟨od,es,ep,e,c⟩,r⟩:=x; exact ⟨mA,⟨od,es,ep,k _ _ (.inl rfl) e,c⟩,r⟩
 | rng lo hi=>obtain ⟨t,u,v,e⟩:=x; exact ⟨t,u,v,k _ _ (.inl rfl) e⟩
 | frz ob u ih=>obtain ⟨e,q⟩:=x; exact ⟨k _ _ (.inl rfl) e,ih q⟩
 | tbl ps =>
   have e : h.get? a = some { cls:=.none,data:=.fields ps }:=x
   show h'.get? a = some { cls:=.none,data:=.fields ps }
   exact k a _ (.inl rfl) e
 | met f y =>
   have e : h.get? a = some (PySem.W.methodObj (.ref f) (.ref y)):=x
   show h'.get? a = some (PySem.W.methodObj (.ref f) (.ref y))
   exact k a _ (.inl rfl) e
 | ext φ=>obtain ⟨p,⟨o,e⟩,st⟩:=x; exact ⟨st _ _ p fun o q=>k _ _ (.inl rfl) q,⟨o,k _ _ (.inl rfl) e⟩,st⟩
theorem HOk.lt (x : HOk P w H h) (e : H a = some o) : a < h.objs.size:=(x a o e).lt
theorem HOk.fresh (x : HOk P w H h) (e : h.objs.size <= a) : H a = none:=by
 cases q : H a with
 | none=>rfl
 | some u=>exact absurd (Nat.lt_of_lt_of_le (x.lt q) e) (Nat.lt_irrefl _)
theorem HOk.kept (x : HOk P w H h) (k : ∀ b u,h.get? b = some u -> h'.get? b = some u) : HOk P w H h':=fun a o e =>
 (x a o e).stay (fun b u _ q=>k b u q) (fun _ q=>q) fun _ _ q=>q
theorem HOk.laid (x : HOk P w H h) (k : ∀ b u,h.get? b = some u -> h'.get? b = some u) (hp : h.objs.size <= a) (new : zbe P w (upd H a o) h' a o) : HOk P w (upd H a o) h':=fun b u e=>by
 have hn:=x.fresh hp
 by_cases hb : b = a
 . subst hb; rw [zal] at e; cases e; exact new
 . rw [zaZ hb] at e
   exact (x b u e).stay (fun c v _ q=>k c v q) (fun c q=>by rw [zaZ (zaA q hn)]; exact q) fun c xs q=>by rw [zaZ (zaA q hn)]; exact q
end
def Rd (H : Hp) (a : Addr) (u : HO) : Prop:=H a = some u \/ ∃ o,H a = some (.frz o u)
theorem Rd.ok {P : Program} {w : World} {H : Hp} {h : Heap} {a : Addr} {u : HO} (r : Rd H a u) (x : HOk P w H h) : zbe P w H h a u:=by
 rcases r with r | ⟨o,r⟩
 . exact x a u r
 . obtain ⟨_,q⟩:=x a _ r
   exact q
def Mut : Option HO -> Prop
 | some (.lst _)=>True
 | some (.dK _)=>True
 | some (.dT _)=>True
 | some (.set _ _)=>True
 | some (.ins _ _ _)=>True
 | some (.ext _)=>True
 | _=>False
section
variable {P : Program} {w : World} {H : Hp} {h h' : Heap} {x e : Addr} {o' : HO}
theorem HOk.write (ok : HOk P w H h) (mu : Mut (H x)) (he : e = x \/ H e = some (.own x)) (k : ∀ b u,b ≠ e -> h.get? b = some u -> h'.get? b = some u) (heo : ∃ u,h'.get? e = some u)
   (new : zbe P w (upd H x o') h' x o') : HOk P w (upd H x o') h':=fun b u q=>by
 have nown : ∀ c y,H c = some (.own y) -> c ≠ x:=fun c y r z=>by subst z; rw [r] at mu; exact mu
 have ntup : ∀ c xs,H c = some (.tup xs) -> c ≠ x:=fun c xs r z=>by subst z; rw [r] at mu; exact mu
 by_cases hb : b = x
 . subst hb; rw [zal] at q; cases q; exact new
 . rw [zaZ hb] at q
   by_cases hbe : b = e
   . have q' : H b = some (.own x):=by
       rcases he with z | z
       . exact absurd (hbe.trans z) hb
       . rw [hbe]; exact z
     rw [q] at q'; cases q'
     obtain ⟨v,hv⟩:=heo
     exact ⟨v,by rw [hbe]; exact hv⟩
   . refine (ok b u q).stay (fun c v hc r=>k c v ?_ r) (fun c r=>by rw [zaZ (nown c b r)]; exact r) fun c xs r=>by rw [zaZ (ntup c xs r)]; exact r
     rcases hc with rfl | hc
     . exact hbe
     . rintro rfl
       rcases he with z | z
       . exact nown c b hc z
       . rw [hc] at z; cases z; exact hb rfl
end
structure Un (fs ex : List Addr) (H H' : Hp) (h h' : Heap) : Prop where
 keep : ∀ b o,h.get? b = some o -> H b = none -> b ∉ fs -> b ∉ ex -> h'.get? b = some o
 slot : ∀ b o,h.get? b = some o -> H b = none -> b ∈ fs -> b ∉ ex -> ∃ sl,h'.get? b = some { o with slots:=sl }
 free : ∀ b o,h.get? b = some o -> H b = none -> b ∉ ex -> H' b = none
 there : ∀ b o,h.get? b = some o -> b ∉ ex -> ∃ o',h'.get? b = some o'
 tups : ∀ b xs,H b = some (.tup xs) -> H' b = some (.tup xs)
 frzs : ∀ b o u,H b = some (.frz o u) -> H' b = some (.frz o u)
 tbls : ∀ b ps,H b = some (.tbl ps) -> ∃ more,H' b = some (.tbl (ps ++ more))
section
variable {fs fs' ex ex' : List Addr} {H H1 H2 : Hp} {h h1 h2 h' : Heap} {a x e : Addr} {o : HO}
theorem Un.any (u : Un fs ex H H1 h h1) {b : Addr} {ob : Obj} (q : h.get? b = some ob) (n : H b = none) (hx : b ∉ ex) : ∃ sl,h1.get? b = some { ob with slots:=sl }:=by
 by_cases hb : b ∈ fs
 . exact u.slot b ob q n hb hx
 . exact ⟨ob.slots,u.keep b ob q n hb hx⟩
theorem Un.kept (k : ∀ b u,h.get? b = some u -> h'.get? b = some u) : Un fs ex H H h h' :=
 ⟨fun b ob q _ _ _=>k b ob q,fun b ob q _ _ _=>⟨ob.slots,k b ob q⟩,fun _ _ _ n _=>n,fun b ob q _=>⟨ob,k b ob q⟩,fun _ _ q=>q,fun _ _ _ q=>q,fun _ ps q=>⟨#[],by rw [q]; simp⟩⟩
theorem Un.refl : Un fs ex H H h h:=Un.kept fun _ _ q=>q
theorem Un.laid (k : ∀ b u,h.get? b = some u -> h'.get? b = some u) (hp : h.objs.size <= a) (hn : H a = none) : Un fs ex H (upd H a o) h h' where
 keep:=fun b u q _ _ _=>k b u q
 slot:=fun b u q _ _ _=>⟨u.slots,k b u q⟩
 free:=fun b u q n _=>by rw [zaZ (Nat.ne_of_lt (Nat.lt_of_lt_of_le (Heap.lt_size q) hp))]; exact n
 there:=fun b u q _=>⟨u,k b u q⟩
 tups:=fun b xs q=>by rw [zaZ (zaA q hn)]; exact q
 frzs:=fun b u xs q=>by rw [zaZ (zaA q hn)]; exact q
 tbls:=fun b ps q=>⟨#[],by rw [zaZ (zaA q hn),q]; simp⟩
theorem Un.write (mu : Mut (H x)) (he : e = x \/ H e = some (.own x)) (k : ∀ b u,b ≠ e -> h.get? b = some u -> h'.get? b = some u) (heo : ∃ u,h'.get? e = some u) : Un fs ex H (upd H x o) h h':=by
 have hx : ∀ b,H b = none -> b ≠ x:=fun b n z=>by subst z; rw [n] at mu; exact mu
 have hb : ∀ b,H b = none -> b ≠ e:=fun b n z=>by
   subst z
   rcases he with r | r
   . exact hx b n r
   . rw [n] at r; cases r
 have hm : ∀ b u,H b = some u -> ¬ Mut (some u) -> b ≠ x:=fun b u q nm z=>by subst z; rw [q] at mu; exact nm mu
 refine ⟨fun b u q n _ _=>k b u (hb b n) q,fun b u q n _ _=>⟨u.slots,k b u (hb b n) q⟩,fun b u q n _=>by rw [zaZ (hx b n)]; exact n,fun b u q _=>?_,
   fun b xs q=>by rw [zaZ (hm b _ q fun z=>z)]; exact q,fun b u xs q=>by rw [zaZ (hm b _ q fun z=>z)]; exact q,fun b ps q=>⟨#[],by rw [zaZ (hm b _ q fun z=>z),q]; simp⟩⟩
 by_cases hbe : b = e
 . subst hbe; exact heo
 . exact ⟨u,k b u hbe q⟩
end
def trk (h : Heap) (H : Hp) : List Addr:=(List.range h.objs.size).filter fun a=>(H a).isSome
def zh0 (h : Heap) (H : Hp) : Heap:=PySem.W.hideAll h (trk h H)
theorem zk4 (h : Heap) (H : Hp) : (zh0 h H).objs.size = h.objs.size:=PySem.W.hideAll_size _ _
theorem zlJ {h : Heap} {H : Hp} {b : Addr} {o : Obj} (e : h.get? b = some o) (n : H b = none) : (zh0 h H).get? b = some o :=
 PySem.W.hideAll_get _ e fun hm=>by
   have q : (H b).isSome = true:=(List.mem_filter.mp hm).2
   rw [n] at q; simp at q
theorem zoc {h : Heap} {H : Hp} {b : Addr} {o : Obj} (e : (zh0 h H).get? b = some o) : h.get? b = some o /\ H b = none:=by
 have e' : h.get? b = some o:=PySem.W.of_hideAll (trk h H) e
 refine ⟨e',?_⟩
 cases q : H b with
 | none=>rfl
 | some x =>
   have hm : b ∈ trk h H:=List.mem_filter.mpr ⟨List.mem_range.mpr (Heap.lt_size e'),by simp [q]⟩
   have z : (zh0 h H).get? b = none:=PySem.W.hideAll_none (trk h H) hm
   rw [z] at e; cases e
def znM (g h : Heap) (L : Addr) : List (Addr × Obj):=(List.range h.objs.size).filterMap fun a=>if a = L \/ (g.get? a).isSome = true then none else (h.get? a).map fun o=>(a,o)
def za1 (g h : Heap) (L d : Addr) : List (Addr × Obj):=(znM g h L).filter fun p=>decide (p.1 ≠ d)
end L2
namespace L2
open PySem PySem.Spec PyProof.Rows
structure Mod (K : PySem.W.Frag) (mg : Str -> Option Value) (base : Heap) : Prop where
 kin : K.In base
 glob : base.Ns mainGlobals mg
 blt : ∃ mb,base.Ns builtinsNs mb /\ ∀ x : Str,x ≠ "__name__" -> mb x = bootBuiltins x
 nolimit : base.NoLimit
structure Cx where
 prog : Program
 w : World
 K : PySem.W.Frag
 mg : Str -> Option Value
 base : Heap
 A : Around
 N : List Str
 s₀ : Shared
 H₀ : Hp
 env : Env
 outer : List Env
 stack : List Env
 ex : List Addr
 fn : Str -> Bool
 calm : Bool
 pn : List (Addr × Obj)
 xe : Value -> Shared -> Prop
def frs (l : List Env) : List Addr:=l.filterMap (·.frame)
abbrev Cx.fs (X : Cx) : List Addr:=frs X.outer
def Vis (sc : Scope) (x : Str) : Prop:=sc.names.lookup x = some .local \/ sc.names.lookup x = some .cell \/ sc.names.lookup x = some .free
def Loc (sc : Scope) (x : Str) : Prop:=sc.names.lookup x = some .local \/ sc.names.lookup x = some .cell
def zrm (env : Env) (h : Heap) (m : Str -> Option Value) (x : Str) (u : Value) : Prop :=
 (env.kindOf x = some .local /\ m x = some u) \/ ((env.kindOf x = some .cell \/ env.kindOf x = some .free) /\ ∃ c,env.cells.lookup x = some c /\ h.IsCell c (some u))
structure Cx.Ok (X : Cx) : Prop where
 mod : Mod X.K X.mg X.base
 kind : X.env.scope.kind = .function
 glob : X.env.globals = mainGlobals
 blt : X.env.builtins = builtinsNs
 above : X.s₀.heap.objs.size <= X.env.locals
 inj : ∀ x y c,X.env.cells.lookup x = some c -> X.env.cells.lookup y = some c -> x = y
 has : ∀ x,(X.env.kindOf x = some .cell \/ X.env.kindOf x = some .free) -> ∃ c,X.env.cells.lookup x = some c
 cab : ∀ x c,X.fn x = true -> X.env.cells.lookup x = some c -> X.s₀.heap.objs.size <= c
 hd : X.calm = true -> X.A.handled = none
 frames : X.A.frames = some X.stack
 stk : X.stack = X.outer \/ (X.stack = X.env :: X.outer /\ X.env.frame = some X.env.locals)
 exf : ∀ b ∈ X.ex,b ≠ X.env.locals /\ ∀ x c,X.env.cells.lookup x = some c -> c ≠ b
 bs : ∀ b o,X.base.get? b = some o -> X.s₀.heap.get? b = some o /\ X.H₀ b = none
 bsz : X.base.objs.size <= X.s₀.heap.objs.size
 noex : ∀ b o,X.base.get? b = some o -> b ∉ X.ex
 exfs : ∀ b ∈ X.ex,b ∉ X.fs
 funs : X.s₀.heap.FunFrames X.base X.outer
 frf : ∀ b ∈ X.fs,X.H₀ b = none
structure Inv (X : Cx) (pins : List (Addr × Obj)) (σ : List (Option V)) (H : Hp) (s : Shared) : Prop where
 ok : X.Ok
 os : s.os = X.s₀.os
 bare : AllBare s.gens
 base : Un X.fs X.ex X.H₀ H X.s₀.heap s.heap
 loc : ∃ m,s.heap.Ns X.env.locals m /\ ∀ (i : Nat) (x : Str) (v : V),X.N[i]? = some x -> σ[i]? = some (some v) -> Vis X.env.scope x -> ∃ u,zaG v u /\ zrm X.env s.heap m x u
 cell : ∀ x c,X.env.cells.lookup x = some c -> ∃ v,s.heap.IsCell c v
 free : H X.env.locals = none
 freeC : ∀ x c,X.env.cells.lookup x = some c -> H c = none
 pin : ∀ p ∈ X.pn ++ pins,s.heap.get? p.1 = some p.2 /\ H p.1 = none /\ p.1 ≠ X.env.locals /\ p.1 ∉ X.fs /\ ∀ v,p.2.data ≠ .cell v
 hok : HOk X.prog X.w H s.heap
 len : σ.length = X.N.length
section
variable {X : Cx} {pins : List (Addr × Obj)} {σ : List (Option V)} {H H' : Hp} {s : Shared} {h' : Heap}
theorem Cx.Ok.nofr (ok : X.Ok) {b : Addr} {o : Obj} (e : X.base.get? b = some o) : b ∉ X.fs:=fun hb=>by
 have:=(ok.funs.mem hb).1
 rw [e] at this; cases this
theorem Inv.bs (I : Inv X pins σ H s) : ∀ b o,X.base.get? b = some o -> s.heap.get? b = some o /\ H b = none:=fun b o e =>
 ⟨I.base.keep b o (I.ok.bs b o e).1 (I.ok.bs b o e).2 (I.ok.nofr e) (I.ok.noex b o e),I.base.free b o (I.ok.bs b o e).1 (I.ok.bs b o e).2 (I.ok.noex b o e)⟩
theorem Inv.bk (I : Inv X pins σ H s) : ∀ b o,X.base.get? b = some o -> s.heap.get? b = some o:=fun b o e=>(I.bs b o e).1
theorem Inv.mod (I : Inv X pins σ H s) : Mod X.K X.mg X.base:=I.ok.mod
theorem Inv.kIn (I : Inv X pins σ H s) : X.K.In s.heap:=I.ok.mod.kin.keeps I.bk
theorem Inv.lt (I : Inv X pins σ H s) : X.env.locals < s.heap.objs.size:=let ⟨_,hn,_⟩:=I.loc; hn.lt
theorem Inv.sz (I : Inv X pins σ H s) : X.s₀.heap.objs.size <= s.heap.objs.size:=Nat.le_trans I.ok.above (Nat.le_of_lt I.lt)
theorem Inv.nofs (I : Inv X pins σ H s) {a : Addr} (h : s.heap.objs.size <= a) : a ∉ X.fs:=fun hb=>by
 obtain ⟨_,o,ho,_⟩:=I.ok.funs.mem hb
 exact absurd (Nat.lt_of_lt_of_le (Heap.lt_size ho) (Nat.le_trans I.sz h)) (Nat.lt_irrefl _)
theorem Inv.cne (I : Inv X pins σ H s) : ∀ x c,X.env.cells.lookup x = some c -> c ≠ X.env.locals:=fun x c e z=>by
 obtain ⟨v,o,ho,hd⟩:=I.cell x c e
 obtain ⟨m,⟨o',es,ep,ho',hd',_⟩,_⟩:=I.loc
 rw [z,ho'] at ho; cases ho; rw [hd'] at hd; cases hd
theorem Inv.funs (I : Inv X pins σ H s) : s.heap.FunFrames X.base X.outer:=by
 have all : ∀ (l : List Env),(∀ b ∈ frs l,b ∈ X.fs) -> X.s₀.heap.FunFrames X.base l -> s.heap.FunFrames X.base l:=by
   intro l
   induction l with
   | nil=>intro _ _; trivial
   | cons env r ih =>
     intro hs hl
     obtain ⟨hk,⟨L,o,hf,hn,ho,hd⟩,hr⟩:=hl
     have hL : L ∈ X.fs:=hs L (by unfold frs; rw [List.filterMap_cons,hf]; exact List.mem_cons_self)
     obtain ⟨sl,e⟩:=I.base.slot L o ho (I.ok.frf L hL) hL fun z=>I.ok.exfs L z hL
     exact ⟨hk,⟨L,_,hf,hn,e,hd⟩,ih (fun b hb=>hs b (by unfold frs; rw [List.filterMap_cons,hf]; exact List.mem_cons_of_mem _ hb)) hr⟩
 exact all X.outer (fun _ hb=>hb) I.ok.funs
theorem Inv.stack (I : Inv X pins σ H s) : s.heap.FunFrames X.base X.stack:=by
 rcases I.ok.stk with e | ⟨e,hf⟩
 . rw [e]; exact I.funs
 . rw [e]
   obtain ⟨m,hn,_⟩:=I.loc
   refine .cons (by rw [I.ok.kind]; decide) hf hn ?_ I.funs
   exact Heap.get?_none_of_le (Nat.le_trans I.ok.bsz I.ok.above)
theorem Inv.stkSub (I : Inv X pins σ H s) : ∀ b ∈ frs X.stack,b ∈ X.env.locals :: X.fs:=fun b hb=>by
 rcases I.ok.stk with e | ⟨e,hf⟩
 . rw [e] at hb; exact List.mem_cons_of_mem _ hb
 . rw [e] at hb
   unfold frs at hb
   rw [List.filterMap_cons,hf] at hb
   exact hb
theorem Inv.stkFree (I : Inv X pins σ H s) : ∀ b ∈ frs X.stack,H b = none:=fun b hb=>by
 rcases List.mem_cons.mp (I.stkSub b hb) with e | hb
 . rw [e]; exact I.free
 . obtain ⟨_,o,ho,_⟩:=I.ok.funs.mem hb
   exact I.base.free b o ho (I.ok.frf b hb) fun z=>I.ok.exfs b z hb
theorem Inv.step {g' : Array GenState} {t' : Nat} {d' : Drawn} {ch : List Addr} (I : Inv X pins σ H s)
   (hch : ∀ b ∈ ch,(b ∈ X.ex \/ X.s₀.heap.objs.size <= b) /\ b ≠ X.env.locals /\ (∀ x c,X.env.cells.lookup x = some c -> c ≠ b) /\ ∀ p ∈ X.pn ++ pins,p.1 ≠ b)
   (keep : ∀ b o,b ≠ X.env.locals -> b ∉ X.fs -> b ∉ ch -> s.heap.get? b = some o -> H b = none -> h'.get? b = some o)
   (slot : ∀ b o,b ≠ X.env.locals -> b ∈ X.fs -> b ∉ ch -> s.heap.get? b = some o -> H b = none -> ∃ sl,h'.get? b = some { o with slots:=sl }) (free : ∀ b o,b ∉ ch -> s.heap.get? b = some o -> H b = none -> H' b = none)
   (there : ∀ b o,b ∉ ch -> s.heap.get? b = some o -> ∃ o',h'.get? b = some o')
   (tups : ∀ b xs,H b = some (.tup xs) -> H' b = some (.tup xs)) (frzs : ∀ b o u,H b = some (.frz o u) -> H' b = some (.frz o u)) (tbls : ∀ b ps,H b = some (.tbl ps) -> ∃ more,H' b = some (.tbl (ps ++ more)))
   (ns : ∀ m,s.heap.Ns X.env.locals m -> h'.Ns X.env.locals m) (hok : HOk X.prog X.w H' h') (hg : AllBare g') :
   Inv X pins σ H' { s with heap:=h',gens:=g',drawn:=d',toks:=t' }:=by
 have neL : ∀ b o,X.s₀.heap.get? b = some o -> b ≠ X.env.locals:=fun b o e=>Nat.ne_of_lt (Nat.lt_of_lt_of_le (Heap.lt_size e) I.ok.above)
 have neC : ∀ b o,X.s₀.heap.get? b = some o -> b ∉ X.ex -> b ∉ ch:=fun b o e hx hb=>by
   rcases (hch b hb).1 with z | z
   . exact hx z
   . exact absurd (Nat.lt_of_lt_of_le (Heap.lt_size e) z) (Nat.lt_irrefl _)
 have cellK : ∀ x c,X.env.cells.lookup x = some c -> ∀ v,s.heap.IsCell c v -> h'.IsCell c v:=fun x c e v ⟨o,ho,hd⟩=>by
   have nch : c ∉ ch:=fun z=>(hch c z).2.2.1 x c e rfl
   by_cases hc : c ∈ X.fs
   . obtain ⟨sl,q⟩:=slot c o (I.cne x c e) hc nch ho (I.freeC x c e)
     exact ⟨_,q,hd⟩
   . exact ⟨o,keep c o (I.cne x c e) hc nch ho (I.freeC x c e),hd⟩
 refine ⟨I.ok,I.os,hg,⟨fun b o e n hb hx=>?_,fun b o e n hb hx=>?_,fun b o e n hx=>?_,fun b o e hx=>?_,fun b xs e=>tups b xs (I.base.tups b xs e),fun b o xs e=>frzs b o xs (I.base.frzs b o xs e),fun b ps e=>?_⟩,?_,fun x c e=>?_,?_,fun x c e=>?_,fun p hp=>?_,hok,I.len⟩
 . exact keep b o (neL b o e) hb (neC b o e hx) (I.base.keep b o e n hb hx) (I.base.free b o e n hx)
 . obtain ⟨sl,e1⟩:=I.base.slot b o e n hb hx
   obtain ⟨sl',e2⟩:=slot b _ (neL b o e) hb (neC b o e hx) e1 (I.base.free b o e n hx)
   exact ⟨sl',e2⟩
 . obtain ⟨o',e1⟩:=I.base.there b o e hx
   exact free b o' (neC b o e hx) e1 (I.base.free b o e n hx)
 . obtain ⟨o',e1⟩:=I.base.there b o e hx
   exact there b o' (neC b o e hx) e1
 . obtain ⟨m1,e1⟩:=I.base.tbls b ps e
   obtain ⟨m2,e2⟩:=tbls b _ e1
   exact ⟨m1 ++ m2,by rw [e2,Array.append_assoc]⟩
 . obtain ⟨m,hn,hl⟩:=I.loc
   refine ⟨m,ns m hn,fun i x v e1 e2 e3=>?_⟩
   obtain ⟨u,r,l⟩:=hl i x v e1 e2 e3
   refine ⟨u,r,?_⟩
   rcases l with l | ⟨k,c,e,z⟩
   . exact .inl l
   . exact .inr ⟨k,c,e,cellK x c e _ z⟩
 . obtain ⟨v,z⟩:=I.cell x c e
   exact ⟨v,cellK x c e v z⟩
 . obtain ⟨m,⟨o,_,_,ho,_⟩,_⟩:=I.loc
   exact free _ o (fun z=>(hch _ z).2.1 rfl) ho I.free
 . obtain ⟨v,o,ho,hd⟩:=I.cell x c e
   exact free c o (fun z=>(hch c z).2.2.1 x c e rfl) ho (I.freeC x c e)
 . obtain ⟨e,n,ne,nf,d⟩:=I.pin p hp
   have nch : p.1 ∉ ch:=fun z=>(hch p.1 z).2.2.2 p hp rfl
   exact ⟨keep p.1 p.2 ne nf nch e n,free p.1 p.2 nch e n,ne,nf,d⟩
theorem Inv.un {t' : Nat} (I : Inv X pins σ H s) (u : Un X.fs [] H H' s.heap h') (hok : HOk X.prog X.w H' h') : Inv X pins σ H' { s with heap:=h',toks:=t' }:=by
 obtain ⟨m,⟨o,es,ep,ho,r⟩,_⟩:=id I.loc
 obtain ⟨sl,hL⟩:=u.any ho I.free (by simp)
 exact I.step (g':=s.gens) (d':=s.drawn) (ch:=[]) (fun _ z=>nomatch z) (fun b o _ hb _ e n=>u.keep b o e n hb (by simp)) (fun b o _ hb _ e n=>u.slot b o e n hb (by simp)) (fun b o _ e n=>u.free b o e n (by simp)) (fun b o _ e=>u.there b o e (by simp)) u.tups u.frzs u.tbls (fun m' hm=>by
   obtain ⟨o',es',ep',ho',r'⟩:=hm
   rw [ho] at ho'; cases ho'
   exact ⟨_,es',ep',hL,r'⟩) hok I.bare
theorem Inv.call {g' : Array GenState} {t' : Nat} {d' : Drawn} {ch : List Addr} (I : Inv X pins σ H s) (u : Un (frs X.stack) ch H H' s.heap h') (hok : HOk X.prog X.w H' h') (hg : AllBare g')
   (hch : ∀ b ∈ ch,(b ∈ X.ex \/ X.s₀.heap.objs.size <= b) /\ b ≠ X.env.locals /\ (∀ x c,X.env.cells.lookup x = some c -> c ≠ b) /\ ∀ p ∈ X.pn ++ pins,p.1 ≠ b) :
   Inv X pins σ H' { s with heap:=h',gens:=g',drawn:=d',toks:=t' }:=by
 obtain ⟨m,⟨o,es,ep,ho,r⟩,_⟩:=id I.loc
 obtain ⟨sl,hL⟩:=u.any ho I.free fun z=>(hch _ z).2.1 rfl
 exact I.step (ch:=ch) hch (fun b o hL hb hc e n=>u.keep b o e n (fun z=>(List.mem_cons.mp (I.stkSub b z)).elim hL hb) hc) (fun b o _ _ hc e n=>u.any e n hc) (fun b o hc e n=>u.free b o e n hc) (fun b o hc e=>u.there b o e hc) u.tups u.frzs u.tbls (fun m' hm=>by
   obtain ⟨o',es',ep',ho',r'⟩:=hm
   rw [ho] at ho'; cases ho'
   exact ⟨_,es',ep',hL,r'⟩) hok hg
theorem Inv.turned {t' : Nat} {it : Addr} (I : Inv X pins σ H s) (k : ∀ b o,b ≠ it -> s.heap.get? b = some o -> h'.get? b = some o) (hn : H it = none) (hL : it ≠ X.env.locals)
   (h1 : it ∈ X.ex \/ X.s₀.heap.objs.size <= it) (h2 : ∀ x c,X.env.cells.lookup x = some c -> c ≠ it) (h3 : ∀ p ∈ X.pn ++ pins,p.1 ≠ it) : Inv X pins σ H { s with heap:=h',toks:=t' }:=by
 have nit : ∀ b u,H b = some u -> b ≠ it:=fun b u e z=>by rw [z,hn] at e; cases e
 refine I.step (g':=s.gens) (d':=s.drawn) (ch:=[it]) (fun b hb=>?_) (fun b o _ _ hc e _=>k b o (fun z=>hc (by simp [z])) e) (fun b o _ _ hc e _=>⟨o.slots,k b o (fun z=>hc (by simp [z])) e⟩) (fun _ _ _ _ n=>n)
   (fun b o hc e=>⟨o,k b o (fun z=>hc (by simp [z])) e⟩) (fun _ _ e=>e) (fun _ _ _ e=>e) (fun b ps e=>⟨#[],by rw [e]; simp⟩) (fun m hm=>?_) (fun b u e=>?_) I.bare
 . have e : b = it:=by simpa using hb
   subst e
   exact ⟨h1,hL,h2,h3⟩
 . obtain ⟨o,es,ep,ho,r⟩:=hm
   exact ⟨o,es,ep,k _ o (Ne.symm hL) ho,r⟩
 . refine (I.hok b u e).stay (fun c v hc q=>k c v ?_ q) (fun _ q=>q) fun _ _ q=>q
   rcases hc with z | z
   . rw [z]; exact nit b u e
   . exact nit c _ z
theorem Inv.tok (I : Inv X pins σ H s) (t : Nat) : Inv X pins σ H { s with toks:=t }:=I.un (h':=s.heap) (t':=t) Un.refl I.hok
theorem Inv.kept {t' : Nat} (I : Inv X pins σ H s) (k : ∀ b u,s.heap.get? b = some u -> h'.get? b = some u) : Inv X pins σ H { s with heap:=h',toks:=t' }:=I.un (Un.kept k) (I.hok.kept k)
theorem Inv.laid {a : Addr} {o : HO} {t' : Nat} (I : Inv X pins σ H s) (k : ∀ b u,s.heap.get? b = some u -> h'.get? b = some u) (hp : s.heap.objs.size <= a) (new : zbe X.prog X.w (upd H a o) h' a o) :
   Inv X pins σ (upd H a o) { s with heap:=h',toks:=t' }:=I.un (Un.laid k hp (I.hok.fresh hp)) (I.hok.laid k hp new)
theorem Inv.write {x e : Addr} {o : HO} {t' : Nat} (I : Inv X pins σ H s) (mu : Mut (H x)) (he : e = x \/ H e = some (.own x)) (k : ∀ b u,b ≠ e -> s.heap.get? b = some u -> h'.get? b = some u) (heo : ∃ u,h'.get? e = some u)
   (new : zbe X.prog X.w (upd H x o) h' x o) : Inv X pins σ (upd H x o) { s with heap:=h',toks:=t' }:=I.un (Un.write mu he k heo) (I.hok.write mu he k heo new)
theorem Inv.pins_of {pins' : List (Addr × Obj)} (I : Inv X pins σ H s) (h : ∀ p ∈ pins',s.heap.get? p.1 = some p.2 /\ H p.1 = none /\ p.1 ≠ X.env.locals /\ p.1 ∉ X.fs /\ ∀ v,p.2.data ≠ .cell v) : Inv X pins' σ H s :=
 ⟨I.ok,I.os,I.bare,I.base,I.loc,I.cell,I.free,I.freeC,fun p hp=>(List.mem_append.mp hp).elim (fun z=>I.pin p (List.mem_append_left _ z)) (h p),I.hok,I.len⟩
theorem ziq {N : List Str} (hN : N.Nodup) {i j : Nat} {x : Str} (a : N[i]? = some x) (b : N[j]? = some x) : i = j:=by
 obtain ⟨h1,e1⟩:=List.getElem?_eq_some_iff.mp a
 obtain ⟨h2,e2⟩:=List.getElem?_eq_some_iff.mp b
 exact (List.getElem_inj hN).mp (e1.trans e2.symm)
theorem zg8 {M : Model} {A : Around} {E : Value -> Shared -> Prop} {i : Nat} {x : Str} {v : V} {u : Value} {Q : Unit -> Shared -> Prop} (I : Inv X pins σ H s) (hN : X.N.Nodup) (hi : X.N[i]? = some x) (hx : Loc X.env.scope x) (r : zaG v u)
   (h : ∀ s',Inv X pins (σ.set i (some v)) H s' -> (∃ a,Heap.SameBut a s.heap s'.heap /\ (a = X.env.locals \/ X.env.cells.lookup x = some a)) -> Q () s') (hf : X.fn x = true \/ X.env.scope.names.lookup x = some .local:=by first | exact .inl rfl | exact .inr rfl | assumption) : wpAny M A (storeName X.env x u) Q E s:=by
 obtain ⟨m,hn,hl⟩:=id I.loc
 have hcls : (X.env.scope.kind == .class || (X.env.scope.kind == .module && X.env.locals != X.env.globals)) = false:=by rw [I.ok.kind]; rfl
 have hiσ : i < σ.length:=by rw [I.len]; exact (List.getElem?_eq_some_iff.mp hi).1
 have cne:=I.cne
 have tracked : ∀ {a : Addr} {h' : Heap},(∃ o,s.heap.get? a = some o /\ H a = none) -> Heap.SameBut a s.heap h' -> HOk X.prog X.w H h':=fun {a h'} ha hs b ob e=>by
   obtain ⟨_,_,hfree⟩:=ha
   refine (I.hok b ob e).stay (fun c w' hc q=>(hs.2 c ?_).trans q) (fun _ q=>q) fun _ _ q=>q
   rintro rfl
   rcases hc with rfl | hc
   . rw [hfree] at e; cases e
   . rw [hfree] at hc; cases hc
 rcases hx with hk | hk
 . refine wpAny_storeName_local hk hn (fun h' hn' hs=>?_) hcls
   obtain ⟨oL,_,_,hoL,_⟩:=id hn
   refine h _ ⟨I.ok,I.os,I.bare,⟨fun b o e n hb hx=>?_,fun b o e n hb hx=>?_,I.base.free,fun b o e hx=>?_,I.base.tups,I.base.frzs,I.base.tbls⟩,⟨_,hn',fun j y v' e1 e2 e3=>?_⟩,fun y c e=>?_,I.free,I.freeC,fun p hp=>?_,tracked ⟨oL,hoL,I.free⟩ hs,by simpa using I.len⟩ ⟨_,hs,.inl rfl⟩
   . exact (hs.2 b (Nat.ne_of_lt (Nat.lt_of_lt_of_le (Heap.lt_size e) I.ok.above))).trans (I.base.keep b o e n hb hx)
   . obtain ⟨sl,e1⟩:=I.base.slot b o e n hb hx
     exact ⟨sl,(hs.2 b (Nat.ne_of_lt (Nat.lt_of_lt_of_le (Heap.lt_size e) I.ok.above))).trans e1⟩
   . obtain ⟨o',e1⟩:=I.base.there b o e hx
     exact ⟨o',(hs.2 b (Nat.ne_of_lt (Nat.lt_of_lt_of_le (Heap.lt_size e) I.ok.above))).trans e1⟩
   . by_cases hj : j = i
     . subst hj
       rw [hi] at e1; cases e1
       rw [List.getElem?_set_self hiσ] at e2
       cases e2
       exact ⟨u,r,.inl ⟨hk,by simp⟩⟩
     . rw [List.getElem?_set_ne (Ne.symm hj)] at e2
       obtain ⟨u',r',q⟩:=hl j y v' e1 e2 e3
       refine ⟨u',r',?_⟩
       rcases q with ⟨k,e⟩ | ⟨k,c,e,z⟩
       . refine .inl ⟨k,?_⟩
         have : y ≠ x:=fun e=>hj (ziq hN e1 (e ▸ hi))
         simp [this,e]
       . exact .inr ⟨k,c,e,z.sameBut hs (cne y c e)⟩
   . obtain ⟨w',z⟩:=I.cell y c e
     exact ⟨w',z.sameBut hs (cne y c e)⟩
   . obtain ⟨e,n,ne,nf,d⟩:=I.pin p hp
     exact ⟨(hs.2 p.1 ne).trans e,n,ne,nf,d⟩
 . have hfn : X.fn x = true:=by
     rcases hf with z | z
     . exact z
     . rw [z] at hk; cases hk
   obtain ⟨c,hc⟩:=I.ok.has x (.inl hk)
   obtain ⟨w',z⟩:=I.cell x c hc
   refine wpAny_storeName_cell I.ok.kind hk hc z (fun h' hc' hs=>?_)
   obtain ⟨oc,hoc,hocd⟩:=id z
   refine h { s with heap:=h' } ⟨I.ok,I.os,I.bare,⟨fun b o e n hb hx=>?_,fun b o e n hb hx=>?_,I.base.free,fun b o e hx=>?_,I.base.tups,I.base.frzs,I.base.tbls⟩,⟨m,hn.sameBut hs (Ne.symm (cne x c hc)),fun j y v' e1 e2 e3=>?_⟩,fun y c' e=>?_,I.free,I.freeC,fun p hp=>?_,tracked ⟨oc,hoc,I.freeC x c hc⟩ hs,by simpa using I.len⟩ ⟨c,hs,.inr hc⟩
   . exact (hs.2 b (Nat.ne_of_lt (Nat.lt_of_lt_of_le (Heap.lt_size e) (I.ok.cab x c hfn hc)))).trans (I.base.keep b o e n hb hx)
   . obtain ⟨sl,e1⟩:=I.base.slot b o e n hb hx
     exact ⟨sl,(hs.2 b (Nat.ne_of_lt (Nat.lt_of_lt_of_le (Heap.lt_size e) (I.ok.cab x c hfn hc)))).trans e1⟩
   . obtain ⟨o',e1⟩:=I.base.there b o e hx
     exact ⟨o',(hs.2 b (Nat.ne_of_lt (Nat.lt_of_lt_of_le (Heap.lt_size e) (I.ok.cab x c hfn hc)))).trans e1⟩
   . by_cases hj : j = i
     . subst hj
       rw [hi] at e1; cases e1
       rw [List.getElem?_set_self hiσ] at e2
       cases e2
       exact ⟨u,r,.inr ⟨.inl hk,c,hc,hc'⟩⟩
     . rw [List.getElem?_set_ne (Ne.symm hj)] at e2
       obtain ⟨u',r',q⟩:=hl j y v' e1 e2 e3
       refine ⟨u',r',?_⟩
       rcases q with q | ⟨k,c',e,z'⟩
       . exact .inl q
       . refine .inr ⟨k,c',e,z'.sameBut hs ?_⟩
         rintro rfl
         exact hj (ziq hN e1 (I.ok.inj _ _ _ e hc ▸ hi))
   . by_cases hcc : c' = c
     . subst hcc; exact ⟨_,hc'⟩
     . obtain ⟨w2,z2⟩:=I.cell y c' e
       exact ⟨w2,z2.sameBut hs hcc⟩
   . obtain ⟨e,n,ne,nf,d⟩:=I.pin p hp
     refine ⟨(hs.2 p.1 ?_).trans e,n,ne,nf,d⟩
     intro q
     rw [q,hoc] at e
     have q' : oc = p.2:=Option.some.inj e
     exact d w' (by rw [<- q']; exact hocd)
theorem zim {M : Model} {A : Around} {E : Value -> Shared -> Prop} {i : Nat} {x : Str} {v : V} {u : Value} {Q : Unit -> Shared -> Prop} (I : Inv X pins σ H s) (hN : X.N.Nodup) (hi : X.N[i]? = some x) (hx : Loc X.env.scope x) (r : zaG v u)
   (h : ∀ s',Inv X pins (σ.set i (some v)) H s' -> Q () s') (hf : X.fn x = true \/ X.env.scope.names.lookup x = some .local:=by first | exact .inl rfl | exact .inr rfl | assumption) : wpAny M A (storeName X.env x u) Q E s :=
 zg8 I hN hi hx r (fun s' I' _=>h s' I') hf
theorem Inv.call' {s' : Shared} {ch : List Addr} (I : Inv X pins σ H s) (ho : s'.os = s.os) (u : Un (frs X.stack) ch H H' s.heap s'.heap) (hok : HOk X.prog X.w H' s'.heap) (hg : AllBare s'.gens)
   (hch : ∀ b ∈ ch,(b ∈ X.ex \/ X.s₀.heap.objs.size <= b) /\ b ≠ X.env.locals /\ (∀ x c,X.env.cells.lookup x = some c -> c ≠ b) /\ ∀ p ∈ X.pn ++ pins,p.1 ≠ b) : Inv X pins σ H' s':=by
 obtain ⟨h',g',d',t',o'⟩:=s'
 have e : o' = s.os:=ho
 subst e
 exact I.call (g':=g') (t':=t') (d':=d') u hok hg hch
end
abbrev XK:=Value -> Option Addr -> Hp -> Prop
abbrev St:=List (Option V)
abbrev VK:=V -> Hp -> Prop
abbrev TE:=St -> Hp -> VK -> Prop
abbrev TT:=St -> Hp -> (Bool -> Hp -> Prop) -> Prop
abbrev TA:=St -> Hp -> (List V -> Hp -> Prop) -> Prop
structure zb3 where
 nx : St -> Hp -> Prop
 rt : VK
 bk : St -> Hp -> Prop:=fun _ _=>False
 ct : St -> Hp -> Prop:=fun _ _=>False
abbrev TS:=zb3 -> St -> Hp -> Prop
def EP (X : Cx) (pins : List (Addr × Obj)) (σ : St) (Q : VK) (u : Value) (s' : Shared) : Prop:=∃ v H',Inv X pins σ H' s' /\ zaG v u /\ Q v H'
def TP (X : Cx) (pins : List (Addr × Obj)) (σ : St) (Q : Bool -> Hp -> Prop) (b : Bool) (s' : Shared) : Prop:=∃ H',Inv X pins σ H' s' /\ Q b H'
def AP (X : Cx) (pins : List (Addr × Obj)) (σ : St) (Q : List V -> Hp -> Prop) (us : List Value) (s' : Shared) : Prop:=∃ vs H',Inv X pins σ H' s' /\ zak vs us /\ Q vs H'
def SP (X : Cx) (pins : List (Addr × Obj)) (D : zb3) (f : Flow) (s' : Shared) : Prop :=
 match f with
 | .next=>∃ σ' H',Inv X pins σ' H' s' /\ D.nx σ' H'
 | .brk=>∃ σ' H',Inv X pins σ' H' s' /\ D.bk σ' H'
 | .cont=>∃ σ' H',Inv X pins σ' H' s' /\ D.ct σ' H'
 | .ret u=>∃ v σ' H',Inv X pins σ' H' s' /\ zaG v u /\ D.rt v H'
def PE (X : Cx) (e : Expr) (t : TE) : Prop :=
 ∀ (pins : List (Addr × Obj)) (s : Shared) (σ : St) (H : Hp) (Q : VK),Inv X pins σ H s -> t σ H Q -> wpAny (model X.prog X.w) X.A (eval e X.env) (EP X pins σ Q) X.xe s
def PT (X : Cx) (e : Expr) (t : TT) : Prop :=
 ∀ (pins : List (Addr × Obj)) (s : Shared) (σ : St) (H : Hp) (Q : Bool -> Hp -> Prop),Inv X pins σ H s -> t σ H Q -> wpAny (model X.prog X.w) X.A (isTrue e X.env (eval e X.env)) (TP X pins σ Q) X.xe s
def PW (X : Cx) (e : Expr) (t : TT) : Prop :=
 ∀ (whole : Sem Value) (pins : List (Addr × Obj)) (s : Shared) (σ : St) (H : Hp) (Q : Bool -> Hp -> Prop),Inv X pins σ H s -> t σ H Q -> wpAny (model X.prog X.w) X.A (isTrue e X.env whole) (TP X pins σ Q) X.xe s
theorem PW.pt {X : Cx} {e : Expr} {t : TT} (h : PW X e t) : PT X e t:=h _
def PA (X : Cx) (es : List Expr) (t : TA) : Prop :=
 ∀ (pos : Pos) (pins : List (Addr × Obj)) (s : Shared) (σ : St) (H : Hp) (Q : List V -> Hp -> Prop),Inv X pins σ H s -> t σ H Q -> wpAny (model X.prog X.w) X.A (spliced (backTo pos (starEach es X.env))) (AP X pins σ Q) X.xe s
def PS (X : Cx) (st : Stmt) (t : TS) : Prop :=
 ∀ (pins : List (Addr × Obj)) (s : Shared) (σ : St) (H : Hp) (D : zb3),Inv X pins σ H s -> t D σ H -> wpAny (model X.prog X.w) X.A (exec st X.env) (SP X pins D) X.xe s
def PSs (X : Cx) (st : List Stmt) (t : TS) : Prop :=
 ∀ (pins : List (Addr × Obj)) (s : Shared) (σ : St) (H : Hp) (D : zb3),Inv X pins σ H s -> t D σ H -> wpAny (model X.prog X.w) X.A (execs st X.env) (SP X pins D) X.xe s
theorem thn {α : Type} {t : Sem α} {Q Q' : α -> Shared -> Prop} {M : Model} {A : Around} {E : Value -> Shared -> Prop} {s : Shared} (h : wpAny M A t Q E s) (hQ : ∀ a s,Q a s -> Q' a s) : wpAny M A t Q' E s:=wpAny_mono h hQ fun _ _ x=>x
end L2
namespace L2
open PySem PySem.Spec PyProof.Rows
section
variable {X : Cx}
def zgv (i : Nat) : TE:=fun σ H Q=>∃ v,σ[i]? = some (some v) /\ Q v H
def tC (v : V) : TE:=fun _ H Q=>Q v H
theorem zpv {i : Nat} {x : Str} {pos : Pos} (hN : X.N[i]? = some x) (hv : Vis X.env.scope x) (hd : (x == ("__debug__" : Str)) = false:=by decide) (hcd : (x == ("__classdict__" : Str)) = false:=by decide) : PE X (.Name x pos) (zgv i):=by
 intro pins s σ H Q I h
 obtain ⟨v,e,h⟩:=h
 obtain ⟨m,hn,hl⟩:=I.loc
 obtain ⟨u,r,l⟩:=hl i x v hN e hv
 have fin : EP X pins σ Q u s:=⟨v,H,I,r,h⟩
 rcases l with ⟨hk,hm⟩ | ⟨hk,c,hc,hcell⟩
 . exact wpAny_Name (wpAny_loadName_local I.ok.kind hk hn hm fin) hd
 . rcases hk with hk | hk
   . exact wpAny_Name (wpAny_loadName_cell I.ok.kind hk hc hcell fin) hd
   . exact wpAny_Name (wpAny_loadName_free I.ok.kind hk hc hcell fin hcd) hd
theorem zaf {i j pos} : PE X (.Constant (.int i) j pos) (tC (.int i)):=fun _ _ _ H _ I h=>wpAny_Constant_int ⟨.int i,H,I.tok _,⟨_,rfl⟩,h⟩
theorem zes {b j pos} : PE X (.Constant (.bool b) j pos) (tC (.bl b)):=fun _ _ _ H _ I h=>Constant_bool ⟨.bl b,H,I,rfl,h⟩
theorem zaH {x j pos} : PE X (.Constant (.str x) j pos) (tC (.str x)):=fun _ _ _ H _ I h=>Calls.Constant_str ⟨.str x,H,I.tok _,⟨_,rfl⟩,h⟩
def Gl (X : Cx) (x : Str) : Prop:=X.env.kindOf x = some .globalImplicit
theorem zhn {E : Value -> Shared -> Prop} {pins : List (Addr × Obj)} {s : Shared} {σ : St} {H : Hp} {x : Str} {u : Value} {pos : Pos} {Q : Value -> Shared -> Prop} (I : Inv X pins σ H s) (hg : Gl X x) (hm : X.mg x = some u) (h : Q u s)
   (hd : (x == ("__debug__" : Str)) = false:=by decide) : wpAny (model X.prog X.w) X.A (eval (.Name x pos) X.env) Q E s :=
 Calls.Name_function_global I.ok.kind hg (Calls.loadGlobal_global (by rw [I.ok.glob]; exact I.mod.glob.keeps I.bk) hm h) hd
theorem zfV {E : Value -> Shared -> Prop} {pins : List (Addr × Obj)} {s : Shared} {σ : St} {H : Hp} {x : Str} {u : Value} {pos : Pos} {Q : Value -> Shared -> Prop} (I : Inv X pins σ H s) (hg : Gl X x) (hm : X.mg x = none) (hv : bootBuiltins x = some u) (h : Q u s)
   (hn : x ≠ "__name__":=by decide) (hd : (x == ("__debug__" : Str)) = false:=by decide) : wpAny (model X.prog X.w) X.A (eval (.Name x pos) X.env) Q E s:=by
 obtain ⟨mb,h1,h2⟩:=I.mod.blt
 exact Calls.Name_function_global I.ok.kind hg (Calls.loadGlobal_builtin (by rw [I.ok.glob]; exact I.mod.glob.keeps I.bk) hm (by rw [I.ok.blt]; exact h1.keeps I.bk) ((h2 x hn).trans hv) h) hd
theorem zka {x : Str} {v : V} {u : Value} {pos : Pos} (hg : Gl X x) (hm : X.mg x = some u) (r : zaG v u) (hd : (x == ("__debug__" : Str)) = false:=by decide) : PE X (.Name x pos) (tC v) :=
 fun _ _ _ H _ I h=>zhn I hg hm ⟨v,H,I,r,h⟩ hd
theorem zeB {x : Str} {v : V} {u : Value} {pos : Pos} (hg : Gl X x) (hm : X.mg x = none) (hv : bootBuiltins x = some u) (r : zaG v u) (hn : x ≠ "__name__":=by decide) (hd : (x == ("__debug__" : Str)) = false:=by decide) : PE X (.Name x pos) (tC v) :=
 fun _ _ _ H _ I h=>zfV I hg hm hv ⟨v,H,I,r,h⟩ hn hd
def t2I (ta tb : TE) (k : Int -> Int -> Hp -> Prop) : St -> Hp -> Prop:=fun σ H=>ta σ H fun x H1=>tb σ H1 fun y H2=>∃ i j,x = .int i /\ y = .int j /\ k i j H2
variable {a b : Expr} {ta tb : TE} {pos : Pos}
def zk2 (p : Int -> Int -> Bool) (ta tb : TE) : TE:=fun σ H Q=>t2I ta tb (fun i j H2=>Q (.bl (p i j)) H2) σ H
abbrev tLt : TE -> TE -> TE:=zk2 fun i j=>decide (i < j)
abbrev tLe : TE -> TE -> TE:=zk2 fun i j=>decide (i <= j)
abbrev tGt : TE -> TE -> TE:=zk2 fun i j=>decide (j < i)
abbrev tGe : TE -> TE -> TE:=zk2 fun i j=>decide (j <= i)
abbrev zrs : TE -> TE -> TE:=zk2 fun i j=>decide (i = j)
abbrev zrx : TE -> TE -> TE:=zk2 fun i j=>!decide (i = j)
def tB (t : TE) : TT:=fun σ H Q=>t σ H fun x H1=>∃ c,x = .bl c /\ Q c H1
theorem zbm {e : Expr} {t : TE} (h : PE X e t) (he : ∀ whole,isTrue e X.env whole = (do let v <- whole; standAt e.pos; holding [v] (truthy v)):=by intro _; rfl) : PT X e (tB t):=by
 intro pins s σ H Q I hw
 refine isTrue_plain (thn (h pins s σ H _ I hw) fun v s1 ⟨x,H1,I1,r1,q1⟩=>?_) (he _)
 obtain ⟨d,rfl,q⟩:=q1
 cases r1
 exact wpAny_truthy_bool ⟨H1,I1,q⟩
variable {tA tB' : TT} {za1 : List Expr}
def zqp (t u : TT) : TT:=fun σ H Q=>t σ H fun c H1=>if c = true then u σ H1 Q else Q false H1
def tOr (t u : TT) : TT:=fun σ H Q=>t σ H fun c H1=>if c = true then Q true H1 else u σ H1 Q
def zqu (t : TT) : TT:=fun σ H Q=>t σ H fun c H1=>Q (!c) H1
theorem zng (ha : PT X a tA) : PW X (.BoolOp .And [a] pos) tA:=by
 intro wh pins s σ H Q I h
 refine isTrue_and (thn (ha pins s σ H Q I h) fun c s1 e=>?_)
 cases c with
 | true=>exact isTrue_and_nil e
 | false=>exact e
theorem zd3 (ha : PT X a tA) : PW X (.BoolOp .Or [a] pos) tA:=by
 intro wh pins s σ H Q I h
 refine isTrue_or (thn (ha pins s σ H Q I h) fun c s1 e=>?_)
 cases c with
 | false=>exact isTrue_or_nil e
 | true=>exact e
theorem zoR (ha : PT X a tA) (hb : PW X (.BoolOp .And (b :: za1) pos) tB') : PW X (.BoolOp .And (a :: b :: za1) pos) (zqp tA tB'):=by
 intro wh pins s σ H Q I h
 refine isTrue_and (thn (ha pins s σ H _ I h) fun c s1 ⟨H1,I1,q1⟩=>?_)
 cases c with
 | true=>exact hb wh pins s1 σ H1 Q I1 q1
 | false=>exact ⟨H1,I1,q1⟩
theorem zdW (ha : PT X a tA) (hb : PW X (.BoolOp .Or (b :: za1) pos) tB') : PW X (.BoolOp .Or (a :: b :: za1) pos) (tOr tA tB'):=by
 intro wh pins s σ H Q I h
 refine isTrue_or (thn (ha pins s σ H _ I h) fun c s1 ⟨H1,I1,q1⟩=>?_)
 cases c with
 | true=>exact ⟨H1,I1,q1⟩
 | false=>exact hb wh pins s1 σ H1 Q I1 q1
theorem zbd (ha : PT X a tA) : PT X (.UnaryOp .Not a pos) (zqu tA):=by
 intro pins s σ H Q I h
 exact isTrue_not (ha pins s σ H (fun c H1=>Q (!c) H1) I h)
def zoi (ta tb : TE) : TE:=fun σ H Q=>ta σ H fun x H1=>∃ c,x = .bl c /\ if c = true then tb σ H1 Q else Q (.bl false) H1
def zqJ (ta tb : TE) : TE:=fun σ H Q=>ta σ H fun x H1=>∃ c,x = .bl c /\ if c = true then Q (.bl true) H1 else tb σ H1 Q
def zoL (ta : TE) : TE:=fun σ H Q=>ta σ H fun x H1=>∃ c,x = .bl c /\ Q (.bl (!c)) H1
theorem zem {op} {t : TE} (h : PE X a t) : PE X (.BoolOp op [a] pos) t:=fun pins s σ H Q I hw=>BoolOp_one (h pins s σ H Q I hw)
theorem zeG (ha : PE X a ta) (hb : PE X (.BoolOp .And (b :: za1) pos) tb) : PE X (.BoolOp .And (a :: b :: za1) pos) (zoi ta tb):=by
 intro pins s σ H Q I h
 refine BoolOp_and (thn (ha pins s σ H _ I h) fun v s1 ⟨x,H1,I1,r1,q1⟩=>?_)
 obtain ⟨c,rfl,q1⟩:=q1
 cases r1
 refine wpAny_truthy_bool ?_
 cases c with
 | true=>exact hb pins s1 σ H1 Q I1 q1
 | false=>exact ⟨.bl false,H1,I1,rfl,q1⟩
theorem zqw (ha : PE X a ta) (hb : PE X (.BoolOp .Or (b :: za1) pos) tb) : PE X (.BoolOp .Or (a :: b :: za1) pos) (zqJ ta tb):=by
 intro pins s σ H Q I h
 refine BoolOp_or (thn (ha pins s σ H _ I h) fun v s1 ⟨x,H1,I1,r1,q1⟩=>?_)
 obtain ⟨c,rfl,q1⟩:=q1
 cases r1
 refine wpAny_truthy_bool ?_
 cases c with
 | false=>exact hb pins s1 σ H1 Q I1 q1
 | true=>exact ⟨.bl true,H1,I1,rfl,q1⟩
theorem zpU (ha : PE X a ta) : PE X (.UnaryOp .Not a pos) (zoL ta):=by
 intro pins s σ H Q I h
 refine UnaryOp_ (thn (ha pins s σ H _ I h) fun v s1 ⟨x,H1,I1,r1,q1⟩=>?_)
 obtain ⟨c,rfl,q1⟩:=q1
 cases r1
 exact not_of (wpAny_truthy_bool ⟨.bl (!c),H1,I1,rfl,q1⟩)
end
end L2
namespace L2
open PySem PySem.Spec PyProof.Rows
def SqL (K : PySem.W.Frag) (H : Hp) (a : Addr) (xs : List V) : Prop :=
 Rd H a (.lst xs) \/
   ∃ (o : Obj) (its : Array Value) (n : Nat),K.lookup a = some o /\ o.cls = .type "list" /\ o.dict = none /\ o.data = .seq its n /\ its.size <= sizeLine /\ zak xs its.toList
def SqT (K : PySem.W.Frag) (H : Hp) (a : Addr) (xs : List V) : Prop :=
 Rd H a (.tup xs) \/
   ∃ (o : Obj) (its : Array Value) (n : Nat),K.lookup a = some o /\ o.cls = .type "tuple" /\ o.data = .seq its n /\ its.size <= sizeLine /\ zak xs its.toList
def zq6 : Value -> Option V
 | .none=>some .non
 | .bool b=>some (.bl b)
 | .int i _=>some (.int i)
 | .str x _=>some (.str x)
 | .bytes b _=>some (.byt b)
 | .float b _=>some (.flt b)
 | .ref a=>some (.ref a)
 | .type n=>some (.ty n)
 | _=>none
theorem zaG.abs {x : V} {u : Value} (r : zaG x u) : zq6 u = some x:=by
 cases x with
 | non=>cases r; rfl
 | bl _=>cases r; rfl
 | int _=>obtain ⟨t,rfl⟩:=r; rfl
 | str _=>obtain ⟨t,rfl⟩:=r; rfl
 | byt _=>obtain ⟨t,rfl⟩:=r; rfl
 | flt _=>obtain ⟨t,rfl⟩:=r; rfl
 | ref _=>cases r; rfl
 | ty _=>cases r; rfl
theorem zaG.inj {x y : V} {u : Value} (r : zaG x u) (q : zaG y u) : x = y:=Option.some.inj (r.abs.symm.trans q.abs)
theorem zak.inj : ∀ {xs ys : List V} {us : List Value},zak xs us -> zak ys us -> xs = ys
 | _,_,_,.nil,.nil=>rfl
 | _,_,_,.cons r t,.cons r' t'=>by rw [r.inj r',zak.inj t t']
section
variable {X : Cx} {pins : List (Addr × Obj)} {σ : St} {H : Hp} {s : Shared} {a : Addr} {xs ys : List V}
theorem SqL.of {K : PySem.W.Frag} (h : H a = some (.lst xs)) : SqL K H a xs:=.inl (.inl h)
theorem SqT.of {K : PySem.W.Frag} (h : H a = some (.tup xs)) : SqT K H a xs:=.inl (.inl h)
theorem Inv.list (I : Inv X pins σ H s) (h : SqL X.K H a xs) : ∃ its : List Value,zak xs its /\ PlainL s.heap a its.toArray /\ xs.length <= sizeLine:=by
 rcases h with h | ⟨o,its,n,hk,hc,hd,hs,hz,r⟩
 . obtain ⟨z,its,n,r,e⟩:=h.ok I.hok
   exact ⟨its,r,⟨_,n,e,rfl,rfl,rfl⟩,z⟩
 . refine ⟨its.toList,r,⟨o,n,I.kIn a o hk,hc,hd,by simpa using hs⟩,?_⟩
   have e:=r.length
   simp only [Array.length_toList] at e
   lia
theorem Inv.tuple (I : Inv X pins σ H s) (h : SqT X.K H a xs) : ∃ its : List Value,zak xs its /\ IsTup s.heap a its.toArray /\ xs.length <= sizeLine:=by
 rcases h with h | ⟨o,its,n,hk,hc,hs,hz,r⟩
 . obtain ⟨z,its,r,p⟩:=h.ok I.hok
   exact ⟨its,r,p,z⟩
 . refine ⟨its.toList,r,⟨o,I.kIn a o hk,hc,n,by simpa using hs⟩,?_⟩
   have e:=r.length
   simp only [Array.length_toList] at e
   lia
theorem Inv.list_inj (I : Inv X pins σ H s) (h : SqL X.K H a xs) (h' : SqL X.K H a ys) : xs = ys:=by
 obtain ⟨its,r,⟨o,n,e,_,_,d⟩,_⟩:=I.list h
 obtain ⟨its',r',⟨o',n',e',_,_,d'⟩,_⟩:=I.list h'
 rw [e] at e'; cases e'
 rw [d] at d'
 injection d' with d1 _
 have : its = its':=by simpa using congrArg Array.toList d1
 subst this
 exact r.inj r'
theorem Inv.tuple_inj (I : Inv X pins σ H s) (h : SqT X.K H a xs) (h' : SqT X.K H a ys) : xs = ys:=by
 obtain ⟨its,r,⟨o,e,_,n,d⟩,_⟩:=I.tuple h
 obtain ⟨its',r',⟨o',e',_,n',d'⟩,_⟩:=I.tuple h'
 rw [e] at e'; cases e'
 rw [d] at d'
 injection d' with d1 _
 have : its = its':=by simpa using congrArg Array.toList d1
 subst this
 exact r.inj r'
end
abbrev Cx.wish (X : Cx) (E : Value -> Shared -> Prop) : Cx:={ X with xe:=E }
abbrev Cx.nox (X : Cx) : Cx:=X.wish fun _ _=>False
theorem Cx.Ok.wish {X : Cx} (ok : X.Ok) (E : Value -> Shared -> Prop) : (X.wish E).Ok :=
 ⟨ok.mod,ok.kind,ok.glob,ok.blt,ok.above,ok.inj,ok.has,ok.cab,ok.hd,ok.frames,ok.stk,ok.exf,ok.bs,ok.bsz,ok.noex,ok.exfs,ok.funs,ok.frf⟩
theorem Cx.Ok.unwish {X : Cx} {E : Value -> Shared -> Prop} (ok : (X.wish E).Ok) : X.Ok :=
 ⟨ok.mod,ok.kind,ok.glob,ok.blt,ok.above,ok.inj,ok.has,ok.cab,ok.hd,ok.frames,ok.stk,ok.exf,ok.bs,ok.bsz,ok.noex,ok.exfs,ok.funs,ok.frf⟩
section
variable {X : Cx} {pins : List (Addr × Obj)} {σ : St} {H : Hp} {s : Shared} {E : Value -> Shared -> Prop}
theorem Inv.wish (I : Inv X pins σ H s) (E : Value -> Shared -> Prop) : Inv (X.wish E) pins σ H s:=⟨I.ok.wish E,I.os,I.bare,I.base,I.loc,I.cell,I.free,I.freeC,I.pin,I.hok,I.len⟩
theorem Inv.unwish (I : Inv (X.wish E) pins σ H s) : Inv X pins σ H s:=⟨I.ok.unwish,I.os,I.bare,I.base,I.loc,I.cell,I.free,I.freeC,I.pin,I.hok,I.len⟩
theorem SP.unwish {D : zb3} {f : Flow} {s' : Shared} (h : SP (X.wish E) pins D f s') : SP X pins D f s':=by
 cases f with
 | next=>obtain ⟨σ',H',I,q⟩:=h; exact ⟨σ',H',I.unwish,q⟩
 | brk=>obtain ⟨σ',H',I,q⟩:=h; exact ⟨σ',H',I.unwish,q⟩
 | cont=>obtain ⟨σ',H',I,q⟩:=h; exact ⟨σ',H',I.unwish,q⟩
 | ret u=>obtain ⟨v,σ',H',I,r,q⟩:=h; exact ⟨v,σ',H',I.unwish,r,q⟩
theorem PSs.nox {st : List Stmt} {t : TS} (h : PSs X.nox st t) : PSs X st t:=fun pins s σ H D I hw =>
 wpAny_mono (h pins s σ H D (I.wish _) hw) (fun _ _ q=>q.unwish) fun _ _ z=>False.elim z
end
section
variable {X : Cx} {st : Stmt} {za1 : List Stmt} {t u : TS} {e : Expr} {te : TE} {pos : Pos}
def zoJ : TS:=fun D σ H=>D.nx σ H
def zqG (t u : TS) : TS:=fun D σ H=>t { D with nx:=u D } σ H
theorem zaL : PSs X [] zoJ:=fun _ _ σ H _ I h=>wpAny_execs_nil ⟨σ,H,I,h⟩
theorem zae (h1 : PS X st t) (h2 : PSs X za1 u) : PSs X (st :: za1) (zqG t u):=by
 intro pins s σ H D I h
 refine wpAny_execs_cons (thn (h1 pins s σ H { D with nx:=u D } I h) fun f s1 q=>?_)
 cases f with
 | next =>
   obtain ⟨σ',H',I',q⟩:=q
   exact h2 pins s1 σ' H' D I' q
 | ret v=>exact q
 | brk=>exact q
 | cont=>exact q
theorem zag (h1 : PS X st t) : PSs X [st] t:=by
 intro pins s σ H D I h
 refine wpAny_execs_cons (thn (h1 pins s σ H D I h) fun f s1 q=>?_)
 cases f with
 | next=>exact wpAny_execs_nil q
 | ret v=>exact q
 | brk=>exact q
 | cont=>exact q
theorem Inv.quiet {pins : List (Addr × Obj)} {σ : St} {H : Hp} {s : Shared} (I : Inv X pins σ H s) : interactive X.env = false:=by simp [interactive,I.ok.kind]
def zoj (te : TE) : TS:=fun D σ H=>te σ H fun _ H1=>D.nx σ H1
theorem zfx (he : PE X e te) (hs : swapsWith e none pos.line X.env = pure false:=by rfl) : PS X (.Expr e pos) (zoj te):=by
 intro pins s σ H D I h
 exact wpAny_Expr_any (thn (he pins s σ H _ I h) fun v s1 ⟨x,H1,I1,r1,q1⟩=>⟨σ,H1,I1,q1⟩) I.quiet hs
def zp4 (te : TE) : TS:=fun D σ H=>te σ H D.rt
theorem zaq (he : PE X e te) : PS X (.Return (some e) pos) (zp4 te):=by
 intro pins s σ H D I h
 exact wpAny_Return_some (thn (he pins s σ H _ I h) fun v s1 ⟨x,H1,I1,r1,q1⟩=>⟨x,σ,H1,I1,r1,q1⟩)
def zqZ (c : TT) (t u : TS) : TS:=fun D σ H=>c σ H fun b H1=>if b = true then t D σ H1 else u D σ H1
theorem zbU {c : Expr} {a b : List Stmt} {tc : TT} (hc : PT X c tc) (ha : PSs X a t) (hb : PSs X b u) : PS X (.If c a b pos) (zqZ tc t u):=by
 intro pins s σ H D I h
 refine wpAny_If (thn (hc pins s σ H _ I h) fun d s1 ⟨H1,I1,q1⟩=>?_)
 cases d with
 | true=>exact ha pins s1 σ H1 D I1 q1
 | false=>exact hb pins s1 σ H1 D I1 q1
end
abbrev TG:=V -> St -> Hp -> (St -> Hp -> Prop) -> Prop
abbrev TGs:=List V -> St -> Hp -> (St -> Hp -> Prop) -> Prop
def PG (X : Cx) (target : Expr) (t : TG) : Prop :=
 ∀ (pins : List (Addr × Obj)) (s : Shared) (σ : St) (H : Hp) (v : V) (u : Value) (Q : St -> Hp -> Prop),Inv X pins σ H s -> zaG v u -> t v σ H Q ->
   wpAny (model X.prog X.w) X.A (assign target X.env u) (fun _ s'=>∃ σ' H',Inv X pins σ' H' s' /\ Q σ' H') X.xe s
def PGs (X : Cx) (ts : List Expr) (t : TGs) : Prop :=
 ∀ (pins : List (Addr × Obj)) (s : Shared) (σ : St) (H : Hp) (vs : List V) (us : List Value) (Q : St -> Hp -> Prop),Inv X pins σ H s -> zak vs us -> t vs σ H Q ->
   wpAny (model X.prog X.w) X.A (assignInOrder ((assignEach ts X.env).map (·.2)) us) (fun _ s'=>∃ σ' H',Inv X pins σ' H' s' /\ Q σ' H') X.xe s
abbrev znX:=V -> V -> V -> Hp -> (Hp -> Prop) -> Prop
def zqt (X : Cx) (t : znX) : Prop :=
 ∀ (pins : List (Addr × Obj)) (s : Shared) (σ : St) (H : Hp) (o i v : V) (ov iv u : Value) (Q : Hp -> Prop),Inv X pins σ H s -> zaG o ov -> zaG i iv -> zaG v u -> t o i v H Q ->
   wpAny (model X.prog X.w) X.A (setItem ov iv u) (fun _ s'=>∃ H',Inv X pins σ H' s' /\ Q H') X.xe s
abbrev TIp:=V -> V -> Hp -> VK -> Prop
section
variable {X : Cx} {pos : Pos}
def zcv (i : Nat) : TG:=fun v σ H Q=>Q (σ.set i (some v)) H
theorem zaj {i : Nat} {x : Str} (hN : X.N.Nodup) (hi : X.N[i]? = some x) (hx : Loc X.env.scope x) (hf : X.fn x = true \/ X.env.scope.names.lookup x = some .local:=by first | exact .inl rfl | exact .inr rfl | assumption) : PG X (.Name x pos) (zcv i):=by
 intro pins s σ H v u Q I r h
 exact wpAny_assign_Name (zim I hN hi hx r (fun s' I'=>⟨_,H,I',h⟩) hf)
def zo9 : TGs:=fun vs σ H Q=>vs = [] /\ Q σ H
def zj5 (t : TG) (u : TGs) : TGs:=fun vs σ H Q=>∃ v r,vs = v :: r /\ t v σ H fun σ' H'=>u r σ' H' Q
theorem zfs : PGs X [] zo9:=by
 intro pins s σ H vs us Q I r h
 obtain ⟨e,h⟩:=h
 subst e
 cases r
 exact assignInOrder_nil ⟨σ,H,I,h⟩
theorem zbM {e : Expr} {es : List Expr} {t : TG} {u : TGs} (h1 : PG X e t) (h2 : PGs X es u)
   (hs : (assignEach (e :: es) X.env).map (·.2) = assign e X.env :: (assignEach es X.env).map (·.2):=by rfl) : PGs X (e :: es) (zj5 t u):=by
 intro pins s σ H vs us Q I r h
 obtain ⟨v,vr,e1,h⟩:=h
 subst e1
 cases r with
 | cons r rr =>
   rw [hs]
   refine assignInOrder_cons (thn (h1 pins s σ H _ _ _ I r h) fun _ s1 ⟨σ1,H1,I1,q1⟩=>?_)
   exact h2 pins s1 σ1 H1 _ _ Q I1 rr q1
def zkH (K : PySem.W.Frag) (n : Nat) (t : TGs) : TG:=fun v σ H Q=>∃ a xs,v = .ref a /\ SqT K H a xs /\ xs.length = n /\ t xs σ H Q
theorem zhQ {es : List Expr} {k : Nat} {t : TGs} {n : Nat} (hc : X.calm = true) (h : PGs X es t)
   (hn : (assignEach es X.env).length = n:=by rfl) (hst : (assignEach es X.env).findIdx? (·.1) = none:=by rfl) : PG X (.Tuple es k pos) (zkH X.K n t):=by
 intro pins s σ H v u Q I r hw
 obtain ⟨a,xs,e1,hq,hl,hw⟩:=hw
 subst e1
 cases r
 obtain ⟨its,rv,ht,hz⟩:=I.tuple hq
 refine assign_Tuple_tuple (I.ok.hd hc) ht (by simp [hn,<- hl,rv.length]) hst fun h' hx=>?_
 have I1 : Inv X pins σ H { s with heap:=h' }:=I.kept (t':=s.toks) fun b o e=>hx b o (Nat.ne_of_lt (Heap.lt_size e)) e
 exact h pins _ σ H xs _ Q I1 (by simpa using rv) hw
def zql (to ti : TE) (t : znX) : TG:=fun v σ H Q=>to σ H fun o H1=>ti σ H1 fun i H2=>t o i v H2 fun H3=>Q σ H3
theorem zlz {o i : Expr} {to ti : TE} {t : znX} (ho : PE X o to) (hi : PE X i ti) (hs : zqt X t)
   (ha : ∀ v,assign (.Subscript o i pos) X.env v = (do
     let ov <- holding [v] (eval o X.env)
     let iv <- holding [v,ov] (eval i X.env)
     standAt pos
     holding [v,ov,iv] (setItem ov iv v)
     release [v,ov,iv] []):=by intro _; rfl) : PG X (.Subscript o i pos) (zql to ti t):=by
 intro pins s σ H v u Q I r h
 rw [ha]
 refine wpAny_bind (wpAny_holding (thn (ho pins s σ H _ I h) fun ov s1 ⟨x,H1,I1,r1,q1⟩=>?_))
 refine wpAny_bind (wpAny_holding (thn (hi pins s1 σ H1 _ I1 q1) fun iv s2 ⟨y,H2,I2,r2,q2⟩=>?_))
 refine wpAny_bind (wpAny_standAt (wpAny_bind (wpAny_holding (thn (hs pins s2 σ H2 x y v ov iv u _ I2 r1 r2 r q2) fun _ s3 ⟨H3,I3,q3⟩=>?_))))
 exact wpAny_release ⟨σ,H3,I3,q3⟩
def zmV (te : TE) (g : TG) : TS:=fun D σ H=>te σ H fun x H1=>g x σ H1 D.nx
theorem zlD {tg e : Expr} {te : TE} {g : TG} (he : PE X e te) (hg : PG X tg g) (hs : swapsWithSole [tg] e pos.line X.env = pure false:=by rfl) (hw : swappedStores [tg] e X.env = pure none:=by rfl)
   (h1 : (assignEach [tg] X.env).map (·.2) = [assign tg X.env]:=by rfl) : PS X (.Assign [tg] e pos) (zmV te g):=by
 intro pins s σ H D I h
 refine wpAny_Assign_stores (thn (he pins s σ H _ I h) fun v s1 ⟨x,H1,I1,r1,q1⟩=>?_) hs hw
 rw [h1]
 exact thn (hg pins s1 σ H1 x v _ I1 r1 q1) fun _ s2 q=>q
theorem zoY {i : Nat} {x : Str} {e : Expr} {te : TE} {pos' : Pos} (hN : X.N.Nodup) (hi : X.N[i]? = some x) (hx : Loc X.env.scope x) (he : PE X e te) (hs : swapsWith e (some (.Name x pos')) pos.line X.env = pure false:=by rfl) (hf : X.fn x = true \/ X.env.scope.names.lookup x = some .local:=by first | exact .inl rfl | exact .inr rfl | assumption) :
   PS X (.Assign [.Name x pos'] e pos) (zmV te (zcv i)):=by
 intro pins s σ H D I h
 refine wpAny_Assign_Name (thn (he pins s σ H _ I h) fun v s1 ⟨y,H1,I1,r1,q1⟩=>?_) hs
 exact zim I1 hN hi hx r1 (fun s2 I2=>⟨_,H1,I2,q1⟩) hf
end
section
variable {X : Cx} {pos : Pos}
end
structure It where
 go : Nat -> Hp -> Prop
 yld : Nat -> Hp -> V -> Hp -> Prop
 stop : Nat -> Hp -> Prop
def zdf (X : Cx) (pins : List (Addr × Obj)) (H : Hp) (b : Addr) : Prop :=
 H b = none /\ b ≠ X.env.locals /\ b ∉ X.fs /\ (b ∈ X.ex \/ X.s₀.heap.objs.size <= b) /\ (∀ x c,X.env.cells.lookup x = some c -> c ≠ b) /\ ∀ p ∈ X.pn ++ pins,p.1 ≠ b
theorem Inv.fpOk {X : Cx} {pins : List (Addr × Obj)} {σ : St} {H H' : Hp} {s : Shared} {b : Addr} (I : Inv X pins σ H s) (hb : s.heap.objs.size <= b) (hn : H' b = none) : zdf X pins H' b:=by
 refine ⟨hn,Nat.ne_of_gt (Nat.lt_of_lt_of_le I.lt hb),I.nofs hb,.inr (Nat.le_trans I.sz hb),fun x c e z=>?_,fun p hp z=>?_⟩
 . obtain ⟨v,q⟩:=I.cell x c e
   exact absurd (Nat.lt_of_lt_of_le q.lt (by rw [z]; exact hb)) (Nat.lt_irrefl _)
 . exact absurd (Nat.lt_of_lt_of_le (Heap.lt_size (I.pin p hp).1) (by rw [z]; exact hb)) (Nat.lt_irrefl _)
structure zhz (P : Program) (w : World) (K : PySem.W.Frag) (tg : Expr) (J : It) (fp : List Addr) (it : Addr) (tn : Nat -> Heap -> Prop) : Prop where
 mem : it ∈ fp
 obj : ∀ i h,tn i h -> ∀ b ∈ fp,∃ o,h.get? b = some o /\ ∀ v,o.data ≠ .cell v
 keep : ∀ i h h',tn i h -> (∀ b ∈ fp,∀ o,h.get? b = some o -> h'.get? b = some o) -> tn i h'
 item : ∀ (X : Cx),X.prog = P -> X.w = w -> X.K = K -> X.calm = true -> ∀ (i : Nat) (pins : List (Addr × Obj)) (s : Shared) (σ : St) (H : Hp) (E : Value -> Shared -> Prop),Inv X pins σ H s -> (∀ b ∈ fp,zdf X pins H b) -> tn i s.heap -> J.go i H ->
   wpAny (model P w) X.A (pyNext (.ref it)) (fun r s1=>∃ u,r = some u /\
     wpAny (model P w) X.A (letOwnedTupleGo tg (.ref it) u) (fun _ s2=>∃ x H',Inv X pins σ H' s2 /\ zaG x u /\ J.yld i H x H' /\ tn (i + 1) s2.heap /\ ∀ b ∈ fp,H' b = none) E s1) E s
 done : ∀ (X : Cx),X.prog = P -> X.w = w -> X.K = K -> X.calm = true -> ∀ (i : Nat) (pins : List (Addr × Obj)) (s : Shared) (σ : St) (H : Hp) (E : Value -> Shared -> Prop),Inv X pins σ H s -> (∀ b ∈ fp,zdf X pins H b) -> tn i s.heap -> J.stop i H ->
   wpAny (model P w) X.A (pyNext (.ref it)) (fun r s1=>r = none /\ Inv X pins σ H s1) E s
 self : ∀ (A : Around) (i : Nat) (s : Shared) (Q : Value -> Shared -> Prop) (E : Value -> Shared -> Prop),tn i s.heap -> Q (.ref it) s -> wpAny (model P w) A (pyIter (.ref it)) Q E s
abbrev TI:=St -> Hp -> (It -> Hp -> Prop) -> Prop
def PIE (X : Cx) (pins : List (Addr × Obj)) (σ : St) (tg : Expr) (R : It -> Hp -> Prop) (itv : Value) (s2 : Shared) : Prop :=
 ∃ (it : Addr) (fp : List Addr) (tn : Nat -> Heap -> Prop) (J : It) (H' : Hp),itv = .ref it /\ Inv X pins σ H' s2 /\ zhz X.prog X.w X.K tg J fp it tn /\ tn 0 s2.heap /\ (∀ b ∈ fp,zdf X pins H' b) /\ R J H'
def PI (X : Cx) (tg iter : Expr) (wi : TI) : Prop :=
 ∀ (pins : List (Addr × Obj)) (s : Shared) (σ : St) (H : Hp) (R : It -> Hp -> Prop),Inv X pins σ H s -> wi σ H R ->
   wpAny (model X.prog X.w) X.A (eval iter X.env) (fun v s1=>wpAny (model X.prog X.w) X.A (pyIter v) (PIE X pins σ tg R) X.xe s1) X.xe s
theorem zki {M : Model} {A : Around} {E : Value -> Shared -> Prop} {s : Shared} {tg : Expr} {it : Addr} {u : Value} {o : Obj} {n : String} {vs : Array Value} {Q : Unit -> Shared -> Prop} (ho : s.heap.get? it = some o) (hc : o.cls = .type n) (hd : o.data = .fields vs)
   (hn : ["enumerate","zip","dict_itemiterator","dict_reverseitemiterator","odict_iterator","itertools.zip_longest","itertools.pairwise"].contains n = false) (hQ : Q () s) : wpAny M A (letOwnedTupleGo tg (.ref it) u) Q E s:=by
 unfold letOwnedTupleGo
 cases tg <;> first
   | exact wpAny_pure hQ
   | (cases u <;> first
       | exact wpAny_pure hQ
       | (refine wpAny_bind (wpAny_load ho ?_)
          rw [hc,hd]
          show wpAny M A (if (["enumerate","zip","dict_itemiterator","dict_reverseitemiterator","odict_iterator","itertools.zip_longest","itertools.pairwise"].contains n && vs[0]? == some (rawInt _)) = true then _ else _) Q E s
          rw [if_neg (by intro h; rw [hn,Bool.false_and] at h; cases h)]
          exact wpAny_pure hQ))
def Itl (K : PySem.W.Frag) (a : Addr) : It :=
 ⟨fun i H=>∃ xs x,SqL K H a xs /\ xs[i]? = some x,fun i H x H'=>H' = H /\ ∀ xs,SqL K H a xs -> xs[i]? = some x,fun i H=>∃ xs,SqL K H a xs /\ xs.length <= i⟩
def Itt (K : PySem.W.Frag) (a : Addr) : It :=
 ⟨fun i H=>∃ xs x,SqT K H a xs /\ xs[i]? = some x,fun i H x H'=>H' = H /\ ∀ xs,SqT K H a xs -> xs[i]? = some x,fun i H=>∃ xs,SqT K H a xs /\ xs.length <= i⟩
def Itr (lo : Int) (n : Nat) : It:=⟨fun i _=>i < n,fun i H x H'=>H' = H /\ x = .int (lo + i),fun i _=>n <= i⟩
theorem zgM {P : Program} {w : World} {K : PySem.W.Frag} {tg : Expr} (a it : Addr) : zhz P w K tg (Itl K a) [it] it (fun i h=>h.IsListIter it a i) where
 mem:=by simp
 obj:=fun i h st b hb=>by
   have e : b = it:=by simpa using hb
   subst e
   obtain ⟨o,e,c,d⟩:=st
   exact ⟨o,e,fun v z=>by rw [d] at z; cases z⟩
 keep:=fun i h h' st k=>st.at fun o e=>k it (by simp) o e
 item:=by
   intro X hP hw hK hc i pins s σ H E I hf st hg
   subst hP hw hK
   obtain ⟨xs,x,hq,hx⟩:=hg
   obtain ⟨its,rv,p,hz⟩:=I.list hq
   obtain ⟨u,hu,ru⟩:=rv.get hx
   obtain ⟨f0,f1,f2,f3,f4,f5⟩:=hf it (by simp)
   refine wpAny_pyNext_list_item st p.isList (x:=u) (by simpa using hu) fun h' st' sb=>?_
   have I1 : Inv X pins σ H { s with heap:=h' }:=I.turned (t':=s.toks) (fun b o hb e=>(sb.2 b hb).trans e) f0 f1 f3 f4 f5
   obtain ⟨o,e,c,d⟩:=id st'
   exact ⟨u,rfl,zki (s:={ s with heap:=h' }) e c d (by decide) ⟨x,H,I1,ru,⟨rfl,fun ys hy=>by rw [I.list_inj hy hq]; exact hx⟩,st',fun b hb=>(hf b hb).1⟩⟩
 done:=by
   intro X hP hw hK hc i pins s σ H E I hf st hg
   subst hP hw hK
   obtain ⟨xs,hq,hx⟩:=hg
   obtain ⟨its,rv,p,hz⟩:=I.list hq
   obtain ⟨f0,f1,f2,f3,f4,f5⟩:=hf it (by simp)
   have hl:=rv.length
   exact wpAny_pyNext_list_end (I.ok.hd hc) st p.isList (by simp; lia) fun h' eb=>⟨rfl,I.turned (t':=s.toks) (fun b o hb e=>eb b o hb e) f0 f1 f3 f4 f5⟩
 self:=fun _ _ _ _ _ st h=>wpAny_pyIter_listiter st h
theorem zfL {P : Program} {w : World} {K : PySem.W.Frag} {tg : Expr} (a it : Addr) : zhz P w K tg (Itt K a) [it] it (fun i h=>h.IsTupleIter it a i) where
 mem:=by simp
 obj:=fun i h st b hb=>by
   have e : b = it:=by simpa using hb
   subst e
   obtain ⟨o,e,c,d⟩:=st
   exact ⟨o,e,fun v z=>by rw [d] at z; cases z⟩
 keep:=fun i h h' st k=>st.at fun o e=>k it (by simp) o e
 item:=by
   intro X hP hw hK hc i pins s σ H E I hf st hg
   subst hP hw hK
   obtain ⟨xs,x,hq,hx⟩:=hg
   obtain ⟨its,rv,p,hz⟩:=I.tuple hq
   obtain ⟨u,hu,ru⟩:=rv.get hx
   obtain ⟨f0,f1,f2,f3,f4,f5⟩:=hf it (by simp)
   refine wpAny_pyNext_tuple_item st (show s.heap.IsTuple a its.toArray from p) (x:=u) (by simpa using hu) fun h' st' sb=>?_
   have I1 : Inv X pins σ H { s with heap:=h' }:=I.turned (t':=s.toks) (fun b o hb e=>(sb.2 b hb).trans e) f0 f1 f3 f4 f5
   obtain ⟨o,e,c,d⟩:=id st'
   exact ⟨u,rfl,zki (s:={ s with heap:=h' }) e c d (by decide) ⟨x,H,I1,ru,⟨rfl,fun ys hy=>by rw [I.tuple_inj hy hq]; exact hx⟩,st',fun b hb=>(hf b hb).1⟩⟩
 done:=by
   intro X hP hw hK hc i pins s σ H E I hf st hg
   subst hP hw hK
   obtain ⟨xs,hq,hx⟩:=hg
   obtain ⟨its,rv,p,hz⟩:=I.tuple hq
   obtain ⟨f0,f1,f2,f3,f4,f5⟩:=hf it (by simp)
   have hl:=rv.length
   exact wpAny_pyNext_tuple_end (I.ok.hd hc) st (show s.heap.IsTuple a its.toArray from p) (by simp; lia) fun h' eb=>⟨rfl,I.turned (t':=s.toks) (fun b o hb e=>eb b o hb e) f0 f1 f3 f4 f5⟩
 self:=fun _ _ _ _ _ st h=>wpAny_pyIter_tupleiter st h
theorem zi9 {P : Program} {w : World} {K : PySem.W.Frag} {tg : Expr} (it : Addr) (lo : Int) (n : Nat) : zhz P w K tg (Itr lo n) [it] it (fun i h=>IsRangeIter h it (lo + (i : Nat) * 1) ((n : Int) - (i : Nat)) 1) where
 mem:=by simp
 obj:=fun i h st b hb=>by
   have e : b = it:=by simpa using hb
   subst e
   exact ⟨_,st,fun v z=>by
     have z' : Data.fields _ = Data.cell v:=z
     cases z'⟩
 keep:=fun i h h' st k=>k it (by simp) _ st
 item:=by
   intro X hP hw hK hc i pins s σ H E I hf st hg
   subst hP hw hK
   obtain ⟨f0,f1,f2,f3,f4,f5⟩:=hf it (by simp)
   have W:=Walks.range (prog:=X.prog) (w:=X.w) (I.ok.hd hc) it lo 1 n
   refine W.item i s _ _ hg st fun v h' tk hv st' kk=>?_
   obtain ⟨t,rfl⟩:=hv
   have I1 : Inv X pins σ H { s with heap:=h',toks:=tk }:=I.turned (fun b o hb e=>kk b o (by simpa using hb) e) f0 f1 f3 f4 f5
   refine ⟨_,rfl,zki (s:={ s with heap:=h',toks:=tk }) (n:="range_iterator") st' rfl rfl (by decide) ⟨.int (lo + i),H,I1,⟨t,?_⟩,⟨rfl,rfl⟩,st',fun b hb=>(hf b hb).1⟩⟩
   rw [Int.mul_one]
 done:=by
   intro X hP hw hK hc i pins s σ H E I hf st hg
   subst hP hw hK
   obtain ⟨f0,f1,f2,f3,f4,f5⟩:=hf it (by simp)
   exact wpAny_pyNext_range_end (I.ok.hd hc) st (by have : n <= i:=hg; lia) fun h' eb=>⟨rfl,I.turned (t':=s.toks) (fun b o hb e=>eb b o hb e) f0 f1 f3 f4 f5⟩
 self:=fun _ _ _ _ _ st h=>wpAny_pyIter_rangeiter st h
end L2
namespace L2
open PySem PySem.Spec PyProof.Rows
section
variable {X : Cx} {tg : Expr}
def zlP (K : PySem.W.Frag) (tl : TE) : TI:=fun σ H R=>tl σ H fun x H1=>∃ a,x = .ref a /\ (∃ xs,SqL K H1 a xs) /\ R (Itl K a) H1
def zqy (K : PySem.W.Frag) (tl : TE) : TI:=fun σ H R=>tl σ H fun x H1=>∃ a,x = .ref a /\ (∃ xs,SqT K H1 a xs) /\ R (Itt K a) H1
theorem zbj {l : Expr} {tl : TE} (hl : PE X l tl) : PI X tg l (zlP X.K tl):=by
 intro pins s σ H R I h
 refine thn (hl pins s σ H _ I h) fun v s1 ⟨x,H1,I1,r1,q1⟩=>?_
 obtain ⟨a,e,⟨xs,hq⟩,q⟩:=q1
 subst e
 cases r1
 obtain ⟨its,rv,p,hz⟩:=I1.list hq
 refine wpAny_pyIter_list p.isList ?_
 refine ⟨s1.heap.objs.size,[s1.heap.objs.size],_,_,H1,rfl,I1.kept (t':=s1.toks) fun b o e=>Heap.get?_push_of_some _ e,zgM a _,⟨_,Heap.get?_push_size _ rfl,rfl,rfl⟩,fun b hb=>?_,q⟩
 have e : b = s1.heap.objs.size:=by simpa using hb
 subst e
 exact I1.fpOk (Nat.le_refl _) (I1.hok.fresh (Nat.le_refl _))
theorem zhB {l : Expr} {tl : TE} (hl : PE X l tl) : PI X tg l (zqy X.K tl):=by
 intro pins s σ H R I h
 refine thn (hl pins s σ H _ I h) fun v s1 ⟨x,H1,I1,r1,q1⟩=>?_
 obtain ⟨a,e,⟨xs,hq⟩,q⟩:=q1
 subst e
 cases r1
 obtain ⟨its,rv,p,hz⟩:=I1.tuple hq
 refine wpAny_pyIter_tuple (show s1.heap.IsTuple a its.toArray from p) ?_
 refine ⟨s1.heap.objs.size,[s1.heap.objs.size],_,_,H1,rfl,I1.kept (t':=s1.toks) fun b o e=>Heap.get?_push_of_some _ e,zfL a _,⟨_,Heap.get?_push_size _ rfl,rfl,rfl⟩,fun b hb=>?_,q⟩
 have e : b = s1.heap.objs.size:=by simpa using hb
 subst e
 exact I1.fpOk (Nat.le_refl _) (I1.hok.fresh (Nat.le_refl _))
theorem zmw {pins : List (Addr × Obj)} {σ : St} {H : Hp} {s : Shared} {R : It -> Hp -> Prop} {E : Value -> Shared -> Prop} {lo hi : Int} {t u v : Tok} {tk : Nat} (I : Inv X pins σ H s) (h1 : -(2 ^ 62) <= lo) (h2 : lo < 2 ^ 62) (h3 : -(2 ^ 62) <= hi) (h4 : hi < 2 ^ 62)
   (q : R (Itr lo (hi - lo).toNat) H) : wpAny (model X.prog X.w) X.A (pyIter (.ref s.heap.objs.size)) (PIE X pins σ tg R) E { s with heap:=s.heap.push { cls:=.type "range",data:=.fields #[.int lo t,.int hi u,.int 1 v] },toks:=tk }:=by
 refine wpAny_pyIter_range (IsRange.new ..) (small_one h1 h2 h3 h4) ?_
 have I1 : Inv X pins σ H { s with heap:=s.heap.push { cls:=.type "range",data:=.fields #[.int lo t,.int hi u,.int 1 v] },toks:=tk }:=I.kept fun b o e=>Heap.get?_push_of_some _ e
 refine ⟨(s.heap.push { cls:=.type "range",data:=.fields #[.int lo t,.int hi u,.int 1 v] }).objs.size,[(s.heap.push { cls:=.type "range",data:=.fields #[.int lo t,.int hi u,.int 1 v] }).objs.size],_,_,H,rfl,
   I1.kept (t':=tk) fun b o e=>Heap.get?_push_of_some _ e,zi9 _ lo (hi - lo).toNat,?_,fun b hb=>?_,q⟩
 . have e1 : lo + ((0 : Nat) : Int) * 1 = lo:=by simp
   have e2 : (((hi - lo).toNat : Nat) : Int) - ((0 : Nat) : Int) = Builtin.Range.rangeSize lo hi 1:=by rw [rangeSize_one]; split <;> lia
   show IsRangeIter _ _ (lo + ((0 : Nat) : Int) * 1) ((((hi - lo).toNat : Nat) : Int) - ((0 : Nat) : Int)) 1
   rw [e1,e2]
   exact Heap.get?_push_size _ rfl
 . have e : b = (s.heap.push { cls:=.type "range",data:=.fields #[.int lo t,.int hi u,.int 1 v] }).objs.size:=by simpa using hb
   subst e
   exact I1.fpOk (Nat.le_refl _) (I1.hok.fresh (Nat.le_refl _))
def zm6 (ta : TA) : TI:=fun σ H R=>ta σ H fun vs H1=>∃ j : Int,vs = [.int j] /\ -(2 ^ 62) <= j /\ j < 2 ^ 62 /\ R (Itr 0 j.toNat) H1
theorem zbw {a : Expr} {ta : TA} {p pos : Pos} (hg : Gl X "range") (hm : X.mg "range" = none) (ha : PA X [a] ta) (hs : starEach [a] X.env = [(false,eval a X.env)]:=by rfl) : PI X tg (.Call (.Name "range" p) [a] [] pos) (zm6 ta):=by
 intro pins s σ H R I h
 refine Call_ (zfV I hg hm boot_range (PyProof.Rows.callWith_type1 (thn (ha pos pins s σ H _ I h) fun us s1 ⟨vs,H1,I1,r1,q1⟩=>?_) hs rfl))
 obtain ⟨j,e,q1,q2,q⟩:=q1
 subst e
 cases r1 with
 | cons r rr =>
   cases rr
   obtain ⟨t,rfl⟩:=r
   exact call_range_1 (zmw I1 (by lia) (by lia) q1 q2 (by simpa using q))
def znp (wi : TI) (g : TG) (tb : TS) : TS:=fun D σ H=>wi σ H fun J H1=>∃ W : Nat -> Nat -> St -> Hp -> Prop,(∃ m,W 0 m σ H1) /\ ∀ i m σ H,W i m σ H ->
 (J.stop i H /\ D.nx σ H) \/ (J.go i H /\ ∃ N : St -> Hp -> Prop,(∀ σ' H',N σ' H' -> ∃ m',m' < m /\ W (i + 1) m' σ' H') /\ ∀ x H',J.yld i H x H' -> g x σ H' fun σ2 H2=>tb { D with nx:=N,ct:=N,bk:=D.nx } σ2 H2)
def zfD (fp : List Addr) (h : Heap) : List (Addr × Obj):=fp.filterMap fun b=>(h.get? b).map fun o=>(b,o)
theorem zcS {fp : List Addr} {h : Heap} {b : Addr} {o : Obj} (hb : b ∈ fp) (e : h.get? b = some o) : (b,o) ∈ zfD fp h:=List.mem_filterMap.mpr ⟨b,hb,by rw [e]; rfl⟩
theorem zk9 {fp : List Addr} {h : Heap} {p : Addr × Obj} (hp : p ∈ zfD fp h) : p.1 ∈ fp /\ h.get? p.1 = some p.2:=by
 obtain ⟨b,hb,e⟩:=List.mem_filterMap.mp hp
 cases q : h.get? b with
 | none=>rw [q] at e; cases e
 | some o =>
   rw [q] at e
   have e' : (b,o) = p:=Option.some.inj e
   subst e'
   exact ⟨hb,q⟩
theorem Inv.pinned {pins : List (Addr × Obj)} {σ : St} {H : Hp} {s : Shared} {fp : List Addr} (I : Inv X pins σ H s) (hf : ∀ b ∈ fp,zdf X pins H b) (ho : ∀ b ∈ fp,∃ o,s.heap.get? b = some o /\ ∀ v,o.data ≠ .cell v) : Inv X (pins ++ zfD fp s.heap) σ H s :=
 I.pins_of fun p hp=>(List.mem_append.mp hp).elim (fun z=>I.pin p (List.mem_append_right _ z)) fun z=>by
   obtain ⟨hb,e⟩:=zk9 z
   obtain ⟨f0,f1,f2,_⟩:=hf p.1 hb
   obtain ⟨o,e',d⟩:=ho p.1 hb
   rw [e] at e'; cases e'
   exact ⟨e,f0,f1,f2,d⟩
theorem Inv.unpinned {pins pl : List (Addr × Obj)} {σ : St} {H : Hp} {s : Shared} (I : Inv X (pins ++ pl) σ H s) : Inv X pins σ H s:=I.pins_of fun p hp=>I.pin p (List.mem_append_right _ (List.mem_append_left _ hp))
theorem zd2 {iter : Expr} {body : List Stmt} {wi : TI} {g : TG} {tb : TS} {pos : Pos} (hp : PassesOwn (model X.prog X.w) X.A X.env X.xe) (hc : X.calm = true) (hi : PI X tg iter wi) (hg : PG X tg g) (hb : PSs X body tb)
   (hs : ∀ x,foldedSetIterable iter X.env x = pure x:=by intro _; rfl) : PS X (.For tg iter body [] pos) (znp wi g tb):=by
 intro pins s σ H D I h
 refine wpAny_For (thn (hi pins s σ H _ I h) fun v s1 h1=>thn h1 fun itv s2 h2=>?_) hs
 obtain ⟨it,fp,tn,J,H2,e,I2,T,st2,f2,W,⟨m0,w0⟩,turn⟩:=h2
 subst e
 -- what stays true of the iterator's objects through the loop
 have stat : ∀ {H' : Hp},(∀ b ∈ fp,H' b = none) -> ∀ b ∈ fp,zdf X pins H' b:=fun hn b hb=>⟨hn b hb,(f2 b hb).2⟩
 refine codeAny_forLoop_any (fun n s'=>∃ i σ' H',Inv X pins σ' H' s' /\ tn i s'.heap /\ (∀ b ∈ fp,H' b = none) /\ W i n σ' H') ?_ m0 ⟨0,σ,H2,I2,st2,fun b hb=>(f2 b hb).1,w0⟩
 rintro n s3 ⟨i,σ3,H3,I3,st3,fr3,w3⟩
 rcases turn i n σ3 H3 w3 with ⟨stop,qn⟩ | ⟨go,N,hN,step⟩
 . refine wpAny_passesOwn hp (thn (T.done X rfl rfl rfl hc i pins s3 σ3 H3 X.xe I3 (stat fr3) st3 stop) fun r s4 ⟨hr,I4⟩=>?_)
   subst hr
   exact wpAny_execs_nil ⟨σ3,H3,I4,qn⟩
 . refine wpAny_passesOwn hp (thn (T.item X rfl rfl rfl hc i pins s3 σ3 H3 X.xe I3 (stat fr3) st3 go) fun r s4 ⟨u,hr,h4⟩=>?_)
   subst hr
   refine wpAny_passesOwn hp (thn h4 fun _ s5 ⟨x,H5,I5,r5,y5,st5,fr5⟩=>?_)
   have I5':=I5.pinned (stat fr5) (T.obj _ _ st5)
   refine wpAny_passesOwn hp (thn (hg _ s5 σ3 H5 x u _ I5' r5 (step x H5 y5)) fun _ s6 ⟨σ6,H6,I6,q6⟩=>?_)
   refine wpAny_passesOwn hp (thn (hb _ s6 σ6 H6 _ I6 q6) fun f s7 q7=>?_)
   have again : ∀ {σ7 : St} {H7 : Hp},Inv X (pins ++ zfD fp s5.heap) σ7 H7 s7 -> N σ7 H7 -> ∃ m,m < n /\ ∃ i σ' H',Inv X pins σ' H' s7 /\ tn i s7.heap /\ (∀ b ∈ fp,H' b = none) /\ W i m σ' H':=fun {σ7 H7} I7 n7=>by
     obtain ⟨m',hm,w7⟩:=hN σ7 H7 n7
     refine ⟨m',hm,i + 1,σ7,H7,I7.unpinned,T.keep _ _ _ st5 fun b hb o e=>(I7.pin (b,o) (List.mem_append_right _ (List.mem_append_right _ (zcS hb e)))).1,fun b hb=>?_,w7⟩
     obtain ⟨o,e,d⟩:=T.obj _ _ st5 b hb
     exact (I7.pin (b,o) (List.mem_append_right _ (List.mem_append_right _ (zcS hb e)))).2.1
   cases f with
   | next=>obtain ⟨σ7,H7,I7,n7⟩:=q7; exact again I7 n7
   | cont=>obtain ⟨σ7,H7,I7,n7⟩:=q7; exact again I7 n7
   | brk=>obtain ⟨σ7,H7,I7,q7⟩:=q7; exact ⟨σ7,H7,I7.unpinned,q7⟩
   | ret v=>obtain ⟨x7,σ7,H7,I7,r7,q7⟩:=q7; exact ⟨x7,σ7,H7,I7.unpinned,r7,q7⟩
end
theorem zlh {K : PySem.W.Frag} {a : Addr} {xs : List V} {g : TG} {tb : TS} {D : zb3} {σ : St} {H : Hp} (Pv : Nat -> St -> Hp -> Prop) (h0 : Pv 0 σ H) (hl : ∀ i σ H,i <= xs.length -> Pv i σ H -> SqL K H a xs)
   (hs : ∀ i x σ H,xs[i]? = some x -> Pv i σ H -> g x σ H fun σ2 H2=>tb { D with nx:=Pv (i + 1),ct:=Pv (i + 1),bk:=D.nx } σ2 H2) (hd : ∀ σ H,Pv xs.length σ H -> D.nx σ H) :
   ∃ W : Nat -> Nat -> St -> Hp -> Prop,(∃ m,W 0 m σ H) /\ ∀ i m σ H,W i m σ H ->
     ((Itl K a).stop i H /\ D.nx σ H) \/ ((Itl K a).go i H /\ ∃ N : St -> Hp -> Prop,(∀ σ' H',N σ' H' -> ∃ m',m' < m /\ W (i + 1) m' σ' H') /\ ∀ x H',(Itl K a).yld i H x H' -> g x σ H' fun σ2 H2=>tb { D with nx:=N,ct:=N,bk:=D.nx } σ2 H2):=by
 refine ⟨fun i m σ H=>m = xs.length - i /\ i <= xs.length /\ Pv i σ H,⟨xs.length,by simp,Nat.zero_le _,h0⟩,?_⟩
 rintro i m σ H ⟨rfl,hi,p⟩
 have q:=hl i σ H hi p
 by_cases hlt : i < xs.length
 . refine .inr ⟨⟨xs,xs[i],q,by simp [hlt]⟩,Pv (i + 1),fun σ' H' p'=>⟨xs.length - (i + 1),by lia,rfl,hlt,p'⟩,fun x H' y=>?_⟩
   obtain ⟨e,y⟩:=y
   subst e
   exact hs i x σ _ (y xs q) p
 . have e : i = xs.length:=by lia
   subst e
   exact .inl ⟨⟨xs,q,Nat.le_refl _⟩,hd σ H p⟩
theorem zkY {lo : Int} {n : Nat} {g : TG} {tb : TS} {D : zb3} {σ : St} {H : Hp} (Pv : Nat -> St -> Hp -> Prop) (h0 : Pv 0 σ H)
   (hs : ∀ i σ H,i < n -> Pv i σ H -> g (.int (lo + i)) σ H fun σ2 H2=>tb { D with nx:=Pv (i + 1),ct:=Pv (i + 1),bk:=D.nx } σ2 H2) (hd : ∀ σ H,Pv n σ H -> D.nx σ H) :
   ∃ W : Nat -> Nat -> St -> Hp -> Prop,(∃ m,W 0 m σ H) /\ ∀ i m σ H,W i m σ H ->
     ((Itr lo n).stop i H /\ D.nx σ H) \/ ((Itr lo n).go i H /\ ∃ N : St -> Hp -> Prop,(∀ σ' H',N σ' H' -> ∃ m',m' < m /\ W (i + 1) m' σ' H') /\ ∀ x H',(Itr lo n).yld i H x H' -> g x σ H' fun σ2 H2=>tb { D with nx:=N,ct:=N,bk:=D.nx } σ2 H2):=by
 refine ⟨fun i m σ H=>m = n - i /\ i <= n /\ Pv i σ H,⟨n,by simp,Nat.zero_le _,h0⟩,?_⟩
 rintro i m σ H ⟨rfl,hi,p⟩
 by_cases hlt : i < n
 . refine .inr ⟨hlt,Pv (i + 1),fun σ' H' p'=>⟨n - (i + 1),by lia,rfl,hlt,p'⟩,fun x H' y=>?_⟩
   obtain ⟨e,y⟩:=y
   subst e y
   exact hs i σ _ hlt p
 . have e : i = n:=by lia
   subst e
   exact .inl ⟨Nat.le_refl _,hd σ H p⟩
end L2
namespace L2
open PySem PySem.Spec PyProof.Rows
abbrev R2:=V -> V -> Hp -> VK -> Prop
def OpR (X : Cx) (f : Value -> Value -> Sem Value) (r : R2) : Prop :=
 ∀ (pins : List (Addr × Obj)) (s : Shared) (σ : St) (H : Hp) (x y : V) (v u : Value) (Q : VK),Inv X pins σ H s -> zaG x v -> zaG y u -> r x y H Q ->
   wpAny (model X.prog X.w) X.A (f v u) (EP X pins σ Q) X.xe s
def zah (X : Cx) (f : Value) (r : List V -> Hp -> VK -> Prop) : Prop :=
 ∀ (pins : List (Addr × Obj)) (s : Shared) (σ : St) (H : Hp) (xs : List V) (us : List Value) (Q : VK),Inv X pins σ H s -> zak xs us -> r xs H Q ->
   wpAny (model X.prog X.w) X.A (call f us) (EP X pins σ Q) X.xe s
def zq8 (X : Cx) (r : V -> Hp -> (Bool -> Hp -> Prop) -> Prop) : Prop :=
 ∀ (pins : List (Addr × Obj)) (s : Shared) (σ : St) (H : Hp) (x : V) (v : Value) (Q : Bool -> Hp -> Prop),Inv X pins σ H s -> zaG x v -> r x H Q ->
   wpAny (model X.prog X.w) X.A (truthy v) (TP X pins σ Q) X.xe s
def tOp (r : R2) (ta tb : TE) : TE:=fun σ H Q=>ta σ H fun x H1=>tb σ H1 fun y H2=>r x y H2 Q
def rI (C : Int -> Int -> Prop) (g : Int -> Int -> V) : R2:=fun x y H Q=>∃ i j,x = .int i /\ y = .int j /\ C i j /\ Q (g i j) H
def rI0 (g : Int -> Int -> V) : R2:=fun x y H Q=>∃ i j,x = .int i /\ y = .int j /\ Q (g i j) H
section
variable {X : Cx} {a b c : Expr} {ta tb tc : TE} {pos : Pos}
theorem zoV (ha : PE X a ta) (hb : PE X b tb) {pins : List (Addr × Obj)} {s : Shared} {σ : St} {H : Hp} {R : V -> V -> Hp -> Prop} (I : Inv X pins σ H s)
   (h : ta σ H fun x H1=>tb σ H1 fun y H2=>R x y H2) {Q : Value -> Shared -> Prop} {f : Value -> Value -> Sem Value}
   (hf : ∀ v u s2 x y H2,Inv X pins σ H2 s2 -> zaG x v -> zaG y u -> R x y H2 -> wpAny (model X.prog X.w) X.A (f v u) Q X.xe s2) :
   wpAny (model X.prog X.w) X.A (eval a X.env) (fun v s₁=>wpAny (model X.prog X.w) X.A (eval b X.env) (fun u s₂=>wpAny (model X.prog X.w) X.A (f v u) Q X.xe s₂) X.xe s₁) X.xe s:=by
 refine thn (ha pins s σ H _ I h) fun v s1 ⟨x,H1,I1,r1,q1⟩=>?_
 refine thn (hb pins s1 σ H1 _ I1 q1) fun u s2 ⟨y,H2,I2,r2,q2⟩=>?_
 exact hf v u s2 x y H2 I2 r1 r2 q2
theorem zar {op : Operator} {r : R2} (ho : OpR X (binaryOp op) r) (ha : PE X a ta) (hb : PE X b tb) : PE X (.BinOp a op b pos) (tOp r ta tb):=by
 intro pins s σ H Q I h
 exact wpAny_BinOp (zoV ha hb I h fun v u s2 x y H2 I2 rx ry q=>ho pins s2 σ H2 x y v u Q I2 rx ry q)
theorem opI {f : Value -> Value -> Sem Value} {C : Int -> Int -> Prop} {g : Int -> Int -> Int}
   (rule : ∀ (i j : Int) (t u : Tok) (s : Shared) (Q : Value -> Shared -> Prop) (E : Value -> Shared -> Prop),C i j -> Q (.int (g i j) s.toks) { s with toks:=s.toks + 1 } -> wpAny (model X.prog X.w) X.A (f (.int i t) (.int j u)) Q E s) :
   OpR X f (rI C fun i j=>.int (g i j)):=by
 intro pins s σ H x y v u Q I rx ry h
 obtain ⟨i,j,rfl,rfl,hc,q⟩:=h
 obtain ⟨t,rfl⟩:=rx
 obtain ⟨t',rfl⟩:=ry
 exact rule i j t t' s _ _ hc ⟨.int (g i j),H,I.tok _,⟨_,rfl⟩,q⟩
theorem zqN {f : Value -> Value -> Sem Value} {g : Int -> Int -> Int}
   (rule : ∀ (i j : Int) (t u : Tok) (s : Shared) (Q : Value -> Shared -> Prop) (E : Value -> Shared -> Prop),Q (.int (g i j) s.toks) { s with toks:=s.toks + 1 } -> wpAny (model X.prog X.w) X.A (f (.int i t) (.int j u)) Q E s) :
   OpR X f (rI0 fun i j=>.int (g i j)):=by
 intro pins s σ H x y v u Q I rx ry h
 obtain ⟨i,j,rfl,rfl,q⟩:=h
 obtain ⟨t,rfl⟩:=rx
 obtain ⟨t',rfl⟩:=ry
 exact rule i j t t' s _ _ ⟨.int (g i j),H,I.tok _,⟨_,rfl⟩,q⟩
theorem znn {f : Value -> Value -> Sem Value} {g : Int -> Int -> Bool}
   (rule : ∀ (i j : Int) (t u : Tok) (s : Shared) (Q : Value -> Shared -> Prop) (E : Value -> Shared -> Prop),Q (.bool (g i j)) s -> wpAny (model X.prog X.w) X.A (f (.int i t) (.int j u)) Q E s) :
   OpR X f (rI0 fun i j=>.bl (g i j)):=by
 intro pins s σ H x y v u Q I rx ry h
 obtain ⟨i,j,rfl,rfl,q⟩:=h
 obtain ⟨t,rfl⟩:=rx
 obtain ⟨t',rfl⟩:=ry
 exact rule i j t t' s _ _ ⟨.bl (g i j),H,I,rfl,q⟩
def zqk (i j : Int) : Prop:=0 <= j /\ j <= 1000000 /\ i.natAbs < 2 ^ 64
theorem zpN : OpR X (binaryOp .Add) (rI0 fun i j=>.int (i + j)):=zqN fun _ _ _ _ _ _ _ q=>add_int q
theorem zm5 : OpR X (binaryOp .Sub) (rI0 fun i j=>.int (i - j)):=zqN fun _ _ _ _ _ _ _ q=>sub_int q
theorem zdl : OpR X (binaryOp .Mod) (rI (fun _ j=>0 < j) fun i j=>.int (i % j)):=opI fun i j _ _ _ _ _ hc q=>by
 have h1 : (0 : Int) < j:=hc
 exact mod_int' (by lia) (by rw [Int.fmod_eq_emod_of_nonneg i (by lia)]; exact q)
theorem zpL : OpR X (binaryOp .Pow) (rI zqk fun i j=>.int (i ^ j.toNat)):=opI fun _ _ _ _ _ _ _ hc q=>pow_int_small hc.1 hc.2.1 hc.2.2 q
end
def zrk : V -> V -> Bool
 | .non,.non=>true | .non,.int _=>true | .int _,.non=>true | .non,.bl _=>true | .bl _,.non=>true | .non,.str _=>true | .str _,.non=>true
 | .int _,.int _=>true | .bl _,.bl _=>true | .str _,.str _=>true | .byt _,.byt _=>true
 | .int _,.str _=>true | .str _,.int _=>true | .bl _,.str _=>true | .str _,.bl _=>true
 | _,_=>false
def rNe : R2:=fun x y H Q=>zrk x y = true /\ Q (.bl (!decide (x = y))) H
theorem znL {i j : Int} : decide (V.int i = V.int j) = (i == j):=by
 rw [Bool.eq_iff_iff]
 simp
theorem zpW {i j : Bool} : decide (V.bl i = V.bl j) = (i == j):=by
 rw [Bool.eq_iff_iff]
 simp
theorem znr {i j : Str} : decide (V.str i = V.str j) = (i == j):=by
 rw [Bool.eq_iff_iff]
 simp
theorem zob {i j : Array UInt8} : decide (V.byt i = V.byt j) = (i.toList == j.toList):=by
 rw [Bool.eq_iff_iff]
 cases i
 cases j
 simp
section
variable {X : Cx} {a b c : Expr} {ta tb tc : TE} {pos : Pos}
theorem zbc {pins : List (Addr × Obj)} {σ : St} {H : Hp} {s : Shared} {Q : VK} {k k' : Bool} (I : Inv X pins σ H s) (q : Q (.bl k) H) (e : k = k') : EP X pins σ Q (.bool k') s:=by
 subst e
 exact ⟨.bl k,H,I,rfl,q⟩
theorem zp8 : OpR X (compareOp .NotEq) rNe:=by
 intro pins s σ H x y v u Q I rx ry h
 obtain ⟨hs,q⟩:=h
 cases x with
 | non =>
   cases rx
   cases y with
   | non=>cases ry; exact PySem.EqNone.ne_none_none (zbc I q (by simp))
   | bl j=>cases ry; exact PySem.EqNone.ne_none_bool (zbc I q (by simp))
   | int j=>obtain ⟨t',rfl⟩:=ry; exact PySem.EqNone.ne_none_int (zbc I q (by simp))
   | str j=>obtain ⟨t',rfl⟩:=ry; exact PySem.EqNone.ne_none_str (zbc I q (by simp))
   | _=>exact absurd (show false = true from hs) Bool.false_ne_true
 | bl i =>
   cases rx
   cases y with
   | non=>cases ry; exact PySem.EqNone.ne_bool_none (zbc I q (by simp))
   | bl j=>cases ry; exact ne_bool (zbc I q (congrArg not zpW))
   | str j=>obtain ⟨t',rfl⟩:=ry; exact PySem.EqMixed.ne_bool_str (zbc I q (by simp))
   | _=>exact absurd (show false = true from hs) Bool.false_ne_true
 | int i =>
   obtain ⟨t,rfl⟩:=rx
   cases y with
   | non=>cases ry; exact PySem.EqNone.ne_int_none (zbc I q (by simp))
   | int j=>obtain ⟨t',rfl⟩:=ry; exact ne_int (zbc I q (congrArg not znL))
   | str j=>obtain ⟨t',rfl⟩:=ry; exact PySem.EqMixed.ne_int_str (zbc I q (by simp))
   | _=>exact absurd (show false = true from hs) Bool.false_ne_true
 | str i =>
   obtain ⟨t,rfl⟩:=rx
   cases y with
   | non=>cases ry; exact PySem.EqNone.ne_str_none (zbc I q (by simp))
   | bl j=>cases ry; exact PySem.EqMixed.ne_str_bool (zbc I q (by simp))
   | int j=>obtain ⟨t',rfl⟩:=ry; exact PySem.EqMixed.ne_str_int (zbc I q (by simp))
   | str j=>obtain ⟨t',rfl⟩:=ry; exact ne_str (zbc I q (congrArg not znr))
   | _=>exact absurd (show false = true from hs) Bool.false_ne_true
 | byt i =>
   obtain ⟨t,rfl⟩:=rx
   cases y with
   | byt j=>obtain ⟨t',rfl⟩:=ry; exact PySem.W.ne_bytes (zbc I q (congrArg not zob))
   | _=>exact absurd (show false = true from hs) Bool.false_ne_true
 | _=>cases y <;> exact absurd (show false = true from hs) Bool.false_ne_true
theorem zqA : OpR X (compareOp .Lt) (rI0 fun i j=>.bl (decide (i < j))):=znn fun _ _ _ _ _ _ _ q=>lt_int q
theorem zgE : OpR X (compareOp .LtE) (rI0 fun i j=>.bl (decide (i <= j))):=znn fun _ _ _ _ _ _ _ q=>le_int q
theorem zot : OpR X (compareOp .Gt) (rI0 fun i j=>.bl (decide (j < i))):=znn fun _ _ _ _ _ _ _ q=>gt_int q
theorem zqr : OpR X (compareOp .GtE) (rI0 fun i j=>.bl (decide (j <= i))):=znn fun _ _ _ _ _ _ _ q=>ge_int q
theorem zkP : OpR X (compareOp .In) (fun x y H Q=>∃ i j,x = .str i /\ y = .str j /\ Q (.bl (!(Builtin.Str.occurrences j i 0 j.length 1).isEmpty)) H):=by
 intro pins s σ H x y v u Q I rx ry h
 obtain ⟨i,j,rfl,rfl,q⟩:=h
 obtain ⟨t,rfl⟩:=rx
 obtain ⟨t',rfl⟩:=ry
 exact in_str (zbc I q rfl)
theorem OpR.or {f : Value -> Value -> Sem Value} {r r' : R2} (h : OpR X f r) (h' : OpR X f r') : OpR X f (fun x y H Q=>r x y H Q \/ r' x y H Q):=by
 intro pins s σ H x y v u Q I rx ry q
 rcases q with q | q
 . exact h pins s σ H x y v u Q I rx ry q
 . exact h' pins s σ H x y v u Q I rx ry q
theorem zaO (b : Expr) {op : CmpOp} (h : op ≠ .In:=by decide) (h2 : op ≠ .NotIn:=by decide) : behindInMarks op b = false:=by
 have e1 : (op == CmpOp.In) = false:=by cases op <;> first | rfl | exact absurd rfl h
 have e2 : (op == CmpOp.NotIn) = false:=by cases op <;> first | rfl | exact absurd rfl h2
 cases b <;> simp [behindInMarks,e1,e2]
theorem zb0 {op : CmpOp} {r : R2} (ho : OpR X (compareOp op) r) (ha : PE X a ta) (hb : PE X b tb) (hm : behindInMarks op b = false) : PE X (.Compare a [op] [b] pos) (tOp r ta tb):=by
 intro pins s σ H Q I h
 exact wpAny_Compare1 (zoV ha hb I h fun v u s2 x y H2 I2 rx ry q=>ho pins s2 σ H2 x y v u Q I2 rx ry q) hm
def zmA (t : TE) : TT:=fun σ H Q=>t σ H fun x H'=>∃ k,x = .bl k /\ Q k H'
theorem zbg {op : CmpOp} {r : R2} (ho : OpR X (compareOp op) r) (ha : PE X a ta) (hb : PE X b tb) (hm : behindInMarks op b = false) : PT X (.Compare a [op] [b] pos) (zmA (tOp r ta tb)):=by
 intro pins s σ H Q I h
 refine wpAny_isTrue_Compare1 (thn (ha pins s σ H _ I h) fun v s1 ⟨x,H1,I1,r1,q1⟩=>thn (hb pins s1 σ H1 _ I1 q1) fun u s2 ⟨y,H2,I2,r2,q2⟩ =>
   thn (ho pins s2 σ H2 x y v u _ I2 r1 r2 q2) fun c s3 ⟨z,H3,I3,r3,k,e,q3⟩=>?_) hm
 subst e
 cases r3
 exact wpAny_truthy_bool ⟨H3,I3,q3⟩
def zjx (r r' : R2) (ta tb tc : TE) : TE:=fun σ H Q=>ta σ H fun x H1=>tb σ H1 fun y H2=>r x y H2 fun z H3=>∃ k,z = .bl k /\
 (if k = true then tc σ H3 fun w' H4=>r' y w' H4 Q else Q (.bl false) H3)
theorem ziy {op op' : CmpOp} {r r' : R2} (ho : OpR X (compareOp op) r) (ho' : OpR X (compareOp op') r') (ha : PE X a ta) (hb : PE X b tb) (hc : PE X c tc)
   (hm : lastMarks [op,op'] [b,c] = false:=by with_unfolding_all rfl) : PE X (.Compare a [op,op'] [b,c] pos) (zjx r r' ta tb tc):=by
 intro pins s σ H Q I h
 refine Compare_chain (thn (ha pins s σ H _ I h) fun v s1 ⟨x,H1,I1,r1,q1⟩=>chain_link (thn (hb pins s1 σ H1 _ I1 q1) fun u s2 ⟨y,H2,I2,r2,q2⟩ =>
   thn (ho pins s2 σ H2 x y v u _ I2 r1 r2 q2) fun d s3 ⟨z,H3,I3,r3,k,e,q3⟩=>?_)) hm
 subst e
 cases r3
 refine wpAny_truthy_bool ?_
 cases k with
 | false=>exact ite_ff ⟨.bl false,H3,I3,rfl,q3⟩
 | true=>exact ite_tt (chain_last (thn (hc pins s3 σ H3 _ I3 q3) fun w' s4 ⟨z',H4,I4,r4,q4⟩=>ho' pins s4 σ H4 y z' u w' Q I4 r2 r4 q4))
theorem zlE {op op' : CmpOp} {r r' : R2} (ho : OpR X (compareOp op) r) (ho' : OpR X (compareOp op') r') (ha : PE X a ta) (hb : PE X b tb) (hc : PE X c tc)
   (hm : lastMarks [op,op'] [b,c] = false:=by with_unfolding_all rfl) : PT X (.Compare a [op,op'] [b,c] pos) (zmA (zjx r r' ta tb tc)):=by
 intro pins s σ H Q I h
 refine isTrue_chain (thn (ha pins s σ H _ I h) fun v s1 ⟨x,H1,I1,r1,q1⟩=>test_link (thn (hb pins s1 σ H1 _ I1 q1) fun u s2 ⟨y,H2,I2,r2,q2⟩ =>
   thn (ho pins s2 σ H2 x y v u _ I2 r1 r2 q2) fun d s3 ⟨z,H3,I3,r3,k,e,q3⟩=>?_)) hm
 subst e
 cases r3
 refine wpAny_truthy_bool ?_
 cases k with
 | false =>
   obtain ⟨k',e',q'⟩:=q3
   cases e'
   exact ite_ff ⟨H3,I3,q'⟩
 | true =>
   refine ite_tt (test_last (thn (hc pins s3 σ H3 _ I3 q3) fun w' s4 ⟨z',H4,I4,r4,q4⟩=>thn (ho' pins s4 σ H4 y z' u w' _ I4 r2 r4 q4) fun d' s5 ⟨z2,H5,I5,r5,k2,e2,q5⟩=>?_))
   subst e2
   cases r5
   exact wpAny_truthy_bool ⟨H5,I5,q5⟩
def zpS (K : PySem.W.Frag) (x : V) (H : Hp) (k : Bool) : Prop :=
 match x with
 | .non=>k = false
 | .bl b=>k = b
 | .int i=>k = (i != 0)
 | .str y=>y.length <= sizeLine /\ k = ((y.length : Int) != 0)
 | .byt y=>y.size <= sizeLine /\ k = ((y.size : Int) != 0)
 | .ref p=>(∃ xs,SqL K H p xs /\ k = !xs.isEmpty) \/ (∃ xs,SqT K H p xs /\ k = !xs.isEmpty) \/ ∃ kvs,H p = some (.dK kvs) /\ k = !kvs.isEmpty
 | _=>False
theorem zjm {κ : Type} {kvs : List (κ × V)} {vs : List (κ × Value)} (r : KV kvs vs) : (!vs.isEmpty) = !kvs.isEmpty:=by
 cases r <;> rfl
theorem zei {xs : List V} {its : List Value} (r : zak xs its) : (!its.toArray.isEmpty) = !xs.isEmpty:=by
 cases r <;> simp
theorem zef : (sizeLine : Nat) < 2 ^ 63:=by rw [sizeLine_eq]; decide
theorem zpk : zq8 X (fun x H Q=>∃ k,zpS X.K x H k /\ Q k H):=by
 intro pins s σ H x v Q I rx h
 obtain ⟨k,e,q⟩:=h
 have hl:=zef
 have hs : sizeLine = 16777216:=sizeLine_eq
 cases x with
 | non =>
   cases rx
   have e' : k = false:=e
   subst e'
   exact truthy_none ⟨H,I,q⟩
 | bl b =>
   cases rx
   have e' : k = b:=e
   subst e'
   exact wpAny_truthy_bool ⟨H,I,q⟩
 | int i =>
   obtain ⟨t,rfl⟩:=rx
   have e' : k = (i != 0):=e
   subst e'
   exact PySem.P.truthy_int ⟨H,I,q⟩
 | str y =>
   obtain ⟨t,rfl⟩:=rx
   obtain ⟨hy,e'⟩ : y.length <= sizeLine /\ k = ((y.length : Int) != 0):=e
   subst e'
   exact PySem.P.truthy_str (by lia) ⟨H,I.tok _,q⟩
 | byt y =>
   obtain ⟨t,rfl⟩:=rx
   obtain ⟨hy,e'⟩ : y.size <= sizeLine /\ k = ((y.size : Int) != 0):=e
   subst e'
   exact PySem.W.truthy_bytes (by lia) ⟨H,I.tok _,q⟩
 | ref p =>
   cases rx
   have e' : (∃ xs,SqL X.K H p xs /\ k = !xs.isEmpty) \/ (∃ xs,SqT X.K H p xs /\ k = !xs.isEmpty) \/ ∃ kvs,H p = some (.dK kvs) /\ k = !kvs.isEmpty:=e
   rcases e' with ⟨xs,hx,e'⟩ | ⟨xs,hx,e'⟩ | ⟨kvs,hx,e'⟩
   . subst e'
     obtain ⟨its,r,pl,hz⟩:=I.list hx
     have hlen:=r.length
     exact wpAny_truthy_list pl.isList (by simp only [List.size_toArray]; lia) ⟨H,I.tok _,by rw [zei r]; exact q⟩
   . subst e'
     obtain ⟨its,r,pl,hz⟩:=I.tuple hx
     have hlen:=r.length
     exact truthy_tuple pl (by simp only [List.size_toArray]; lia) ⟨H,I.tok _,by rw [zei r]; exact q⟩
   . subst e'
     obtain ⟨hz,hS,vs,r,m⟩ : kvs.length <= sizeLine /\ (p == sysModules) = false /\ ∃ vs,KV kvs vs /\ s.heap.DictOf (zhj X.prog X.w) p vs:=I.hok p _ hx
     have hlen : kvs.length = vs.length:=Paired.length r
     exact wpAny_truthy_dict hS m (by lia) ⟨H,I.tok _,by rw [zjm r]; exact q⟩
 | _=>exact (show False from e).elim
theorem zmT (ha : PE X a ta) (he : ∀ whole,isTrue a X.env whole = (do let v <- whole; standAt a.pos; holding [v] (truthy v))) :
   PT X a (fun σ H Q=>ta σ H fun x H'=>∃ k,zpS X.K x H' k /\ Q k H'):=by
 intro pins s σ H Q I h
 exact isTrue_plain (thn (ha pins s σ H _ I h) fun v s1 ⟨x,H1,I1,r1,q1⟩=>zpk pins s1 σ H1 x v Q I1 r1 q1) (he _)
theorem zjB : OpR X (binaryOp .Add) (fun x y H Q=>∃ i j,x = .str i /\ y = .str j /\ i.length + j.length <= sizeLine /\ Q (.str (i ++ j)) H):=by
 intro pins s σ H x y v u Q I rx ry h
 obtain ⟨i,j,rfl,rfl,hz,q⟩:=h
 obtain ⟨t,rfl⟩:=rx
 obtain ⟨t',rfl⟩:=ry
 exact add_str (fun t' tk=>⟨.str (i ++ j),H,I.tok _,⟨_,rfl⟩,q⟩) hz
theorem zcD {x : V} {us : List Value} (r : zak [x] us) : ∃ u,us = [u] /\ zaG x u:=by
 cases r with
 | cons r1 r2=>cases r2; exact ⟨_,rfl,r1⟩
theorem ziW {x y : V} {us : List Value} (r : zak [x,y] us) : ∃ u w',us = [u,w'] /\ zaG x u /\ zaG y w':=by
 cases r with
 | cons r1 r2 =>
   cases r2 with
   | cons r3 r4=>cases r4; exact ⟨_,_,rfl,r1,r3⟩
theorem zkL (hc : X.calm = true) : zah X (.builtin "min") (fun xs H Q=>∃ i j,xs = [.int i,.int j] /\ Q (.int (if j < i then j else i)) H):=by
 intro pins s σ H xs us Q I r h
 obtain ⟨i,j,rfl,q⟩:=h
 obtain ⟨u,w',rfl,⟨t,rfl⟩,⟨t',rfl⟩⟩:=ziW r
 refine min_two_ints (I.ok.hd hc) fun h' tk k=>⟨_,H,I.kept k,?_,q⟩
 by_cases hj : j < i
 . rw [if_pos hj,if_pos hj]; exact ⟨_,rfl⟩
 . rw [if_neg hj,if_neg hj]; exact ⟨_,rfl⟩
theorem zkw : zah X (.type "int") (fun xs H Q=>(∃ i,xs = [.int i] /\ Q (.int i) H) \/ ∃ k,xs = [.bl k] /\ Q (.int (if k then 1 else 0)) H):=by
 intro pins s σ H xs us Q I r h
 rcases h with ⟨i,rfl,q⟩ | ⟨k,rfl,q⟩
 . obtain ⟨u,rfl,t,rfl⟩:=zcD r
   exact call_int_int ⟨.int i,H,I,⟨_,rfl⟩,q⟩
 . obtain ⟨u,rfl,r1⟩:=zcD r
   cases r1
   exact call_int_bool ⟨.int (if k then 1 else 0),H,I.tok _,⟨_,rfl⟩,q⟩
theorem zhk : zah X (.type "str") (fun xs H Q=>∃ i,xs = [.int i] /\ i.natAbs.log2 < 1920 /\ Q (.str (toString i)) H):=by
 intro pins s σ H xs us Q I r h
 obtain ⟨i,rfl,hz,q⟩:=h
 obtain ⟨u,rfl,t,rfl⟩:=zcD r
 exact PySem.P.str_of_int hz ⟨.str _,H,I.tok _,⟨_,rfl⟩,q⟩
end
end L2
namespace L2
open PySem PySem.Spec PyProof.Rows
structure zrt (h : Heap) (x dx C : Addr) (mA : Str -> Option Value) : Prop where
 obj : h.get? x = some (PySem.W.instObj C dx)
 ns : h.Ns1 dx mA
 ne : dx ≠ x
section
variable {prog : Program} {w : World} {A : Around} {E : Value -> Shared -> Prop} {s : Shared} {K : PySem.W.Frag} {x dx C f : Addr} {mA : Str -> Option Value} {name : Str} {v : Value}
end
section
variable {P : Program} {w : World} {H H' : Hp} {h h' : Heap} {a C dx : Addr} {fs fs' : List (Str × V)}
end
structure Cls (K : PySem.W.Frag) (C : Addr) : Prop where
 pg : PySem.W.plainGet K C Str.empty = true
 hd : PySem.W.hasDictIn K C = true
 po : PySem.W.plainOver K C = true
 sa : PySem.W.findIn K (.ref C) "__setattr__" = some (some (.builtin "object.__setattr__"))
structure Con (K : PySem.W.Frag) (C : Addr) (f : Str) (v : V) (u : Value) : Prop where
 at_ : PySem.W.findIn K (.ref C) f = some (some u)
 rel : zaG v u
 get : PySem.W.specialIn K u "__get__" = some none
 cp : PySem.W.copiedNames.contains f = false
structure zrw (K : PySem.W.Frag) (C : Addr) (m : Str) (f : Addr) : Prop where
 at_ : PySem.W.findIn K (.ref C) m = some (some (.ref f))
 fn : PySem.W.isFn K (.ref f) = true
 kp : PySem.W.keepIn K (.ref f) = true
section
variable {X : Cx} {pins : List (Addr × Obj)} {σ : St} {H : Hp} {s : Shared} {a C dx : Addr} {fs : List (Str × V)} {f : Str} {v : V} {A : Around} {E : Value -> Shared -> Prop}
end
section
variable {X : Cx} {o e value : Expr} {f : Str} {pos pos' tpos : Pos} {ta tv : TE}
end
section
variable {X : Cx} {pins : List (Addr × Obj)} {σ : St} {H : Hp} {s : Shared} {A : Around} {E : Value -> Shared -> Prop} {Q : Value -> Shared -> Prop} {c : Value} {b : Bool}
inductive zfM (K : PySem.W.Frag) (H : Hp) : V -> Value -> Prop where
 | non : zfM K H .non (.type "NoneType")
 | bl (x : Bool) : zfM K H (.bl x) (.type "bool")
 | int (i : Int) : zfM K H (.int i) (.type "int")
 | str (x : Str) : zfM K H (.str x) (.type "str")
 | flt (x : UInt64) : zfM K H (.flt x) (.type "float")
 | lst {a : Addr} {xs : List V} (e : H a = some (.lst xs)) : zfM K H (.ref a) (.type "list")
 | frz {a : Addr} {o : Obj} {xs : List V} (e : H a = some (.frz o (.lst xs))) : zfM K H (.ref a) (.type "list")
 | tup {a : Addr} {xs : List V} (e : H a = some (.tup xs)) : zfM K H (.ref a) (.type "tuple")
 | dK {a : Addr} {kvs : List (Key × V)} (e : H a = some (.dK kvs)) : zfM K H (.ref a) (.type "dict")
 | dT {a : Addr} {kvs : List (List Key × V)} (e : H a = some (.dT kvs)) : zfM K H (.ref a) (.type "dict")
 | ins {a C dx : Addr} {fs : List (Str × V)} (e : H a = some (.ins C dx fs)) (cl : Cls K C) (ha : PySem.W.findIn K (.ref C) "__class__" = some (some (.builtin "object.__class__")))
     (hn : PySem.W.specialIn K (.builtin "object.__class__") "__get__" = some (some (.builtin "getset_descriptor.__get__"))) (htk : PySem.W.takesIn K (.builtin "object.__class__") = some true)
     (hm : PySem.W.mroIn K C (.type "object") = some true) : zfM K H (.ref a) (.ref C)
end
end L2
namespace L2
open PySem PySem.Spec PyProof.Rows
structure zct (k : Nat) (A : Around) : Prop where
 hd : A.handled = none
 dp : A.depth + 3 * k + 5 < recursionLimit
 un : A.units + 16 * k + 200 < cLine
 gd : A.guards = some []
theorem zct.mono {j k : Nat} {A : Around} (r : zct k A) (h : j <= k) : zct j A:=⟨r.hd,by have:=r.dp; lia,by have:=r.un; lia,by first | exact r.gd | (simp [Around.under,Code.guards,Code.isGuard,guardIds]; exact r.gd)⟩
theorem zct.deeper {k : Nat} {A : Around} (r : zct (k + 1) A) (env : Env) : zct k (A.deeper env) :=
 ⟨r.hd,by have:=r.dp; show A.depth + 1 + 3 * k + 5 < _; lia,by have:=r.un; show A.units + 3 + 16 * k + 200 < _; lia,by first | exact r.gd | (simp [Around.under,Code.guards,Code.isGuard,guardIds]; exact r.gd)⟩
theorem zct.depth {k : Nat} {A : Around} (r : zct k A) : A.depth < recursionLimit:=by have:=r.dp; lia
theorem zct.units {k : Nat} {A : Around} (r : zct k A) : A.units + 64 < cLine:=by have:=r.un; lia
def zkI : TA:=fun _ H Q=>Q [] H
def zgG (ta : TE) (tr : TA) : TA:=fun σ H Q=>ta σ H fun x H1=>tr σ H1 fun xs H2=>Q (x :: xs) H2
section
variable {X : Cx} {e : Expr} {es : List Expr} {te : TE} {t : TA} {pos : Pos}
theorem zab : PA X [] zkI:=fun _ _ _ _ H Q I h=>Calls.spliced_nil ⟨[],H,I,.nil,h⟩
theorem zaa (ha : PE X e te) (hr : PA X es t) (hs : starEach (e :: es) X.env = (false,eval e X.env) :: starEach es X.env:=by rfl) : PA X (e :: es) (zgG te t):=by
 intro pos pins s σ H Q I h
 rw [hs]
 show wpAny _ _ (spliced ((false,eval e X.env) :: backTo pos (starEach es X.env))) _ _ s
 refine Calls.spliced_cons (thn (ha pins s σ H _ I h) fun u s1 ⟨x,H1,I1,r1,q1⟩=>?_)
 exact thn (hr pos pins s1 σ H1 _ I1 q1) fun us s2 ⟨xs,H2,I2,r2,q2⟩=>⟨x :: xs,H2,I2,.cons r1 r2,q2⟩
def zrl (t : TA) : TE:=fun σ H Q=>t σ H fun xs H1=>xs.length <= sizeLine /\ ∀ p,H1 p = none -> Q (.ref p) (upd H1 p (.tup xs))
def zra (t : TA) : TE:=fun σ H Q=>t σ H fun xs H1=>xs.length <= sizeLine /\ ∀ p,H1 p = none -> Q (.ref p) (upd H1 p (.lst xs))
theorem zpH {x1} (h : PA X es t) : PE X (.Tuple es x1 pos) (zrl t):=by
 intro pins s σ H Q I hq
 refine wpAny_Tuple_spliced (thn (h pos pins s σ H _ I hq) fun us s1 ⟨xs,H1,I1,r,z,q⟩=>⟨by rw [<- r.length]; exact z,?_⟩)
 have hf : H1 s1.heap.objs.size = none:=I1.hok.fresh (Nat.le_refl _)
 refine ⟨.ref s1.heap.objs.size,upd H1 s1.heap.objs.size (.tup xs),I1.laid (t':=s1.toks) (fun b u e=>Heap.get?_push_of_some _ e) (Nat.le_refl _) ?_,rfl,q _ hf⟩
 exact ⟨z,us,r,⟨_,Heap.get?_push_size _ rfl,rfl,_,rfl⟩⟩
theorem zpG (h : PA X es t) : PE X (.List es pos) (zra t):=by
 intro pins s σ H Q I hq
 refine wpAny_List_spliced (thn (h pos pins s σ H _ I hq) fun us s1 ⟨xs,H1,I1,r,z,q⟩=>⟨by rw [<- r.length]; exact z,?_⟩)
 have hf : H1 s1.heap.objs.size = none:=I1.hok.fresh (Nat.le_refl _)
 refine ⟨.ref s1.heap.objs.size,upd H1 s1.heap.objs.size (.lst xs),I1.laid (t':=s1.toks) (fun b u e=>Heap.get?_push_of_some _ e) (Nat.le_refl _) ?_,rfl,q _ hf⟩
 exact ⟨z,us,0,r,Heap.get?_push_size _ rfl⟩
end
abbrev Sp:=List V -> Hp -> VK -> XK -> Prop
abbrev CXT:=List Env -> Hp -> Shared -> XK -> Value -> Shared -> Prop
structure zmF (P : Program) (w : World) (K : PySem.W.Frag) (mg : Str -> Option Value) (base : Heap) (A : Around) (outer : List Env) (s : Shared) (H : Hp) : Prop where
 frames : A.frames = some outer
 mod : Mod K mg base
 bs : ∀ b o,base.get? b = some o -> s.heap.get? b = some o /\ H b = none
 bsz : base.objs.size <= s.heap.objs.size
 funs : s.heap.FunFrames base outer
 frf : ∀ b ∈ frs outer,H b = none
 hok : HOk P w H s.heap
 bare : AllBare s.gens
def CE (outer : List Env) (P : Program) (w : World) (H : Hp) (s : Shared) (Q : VK) (u : Value) (s' : Shared) : Prop :=
 ∃ v H',s'.os = s.os /\ AllBare s'.gens /\ Un (frs outer) [] H H' s.heap s'.heap /\ HOk P w H' s'.heap /\ zaG v u /\ Q v H'
def CR (CX : CXT) (outer : List Env) (P : Program) (w : World) (H : Hp) (s : Shared) (Q : VK) (E : XK) (r : Result) (s' : Shared) : Prop :=
 match r with
 | .ok (.ret u)=>CE outer P w H s Q u s'
 | .ok _=>False
 | .error e=>CX outer H s E e s'
structure za5 (P : Program) (w : World) (K : PySem.W.Frag) (mg : Str -> Option Value) (base : Heap) (CX : CXT) (k : Nat) (f : Addr) (fd : FuncData) (ps : List Str) (sp : Sp) : Prop where
 len : ∀ vs H Q E,sp vs H Q E -> vs.length = ps.length
 run : ∀ (A : Around) (outer : List Env) (s : Shared) (H : Hp) (args : Args) (us : List Value) (vs : List V) (Q : VK) (E : XK),zct k A -> zmF P w K mg base A outer s H -> BindsTo s fd args (ps.zip us) -> zak vs us -> sp vs H Q E ->
   codeAny (model P w) A (.call (.ref f) args) (CR CX outer P w H s Q E) s
section
variable {X : Cx} {pins : List (Addr × Obj)} {σ : St} {H : Hp} {s s' : Shared}
theorem Inv.env0 (I : Inv X pins σ H s) : zmF X.prog X.w X.K X.mg X.base X.A X.stack s H :=
 ⟨I.ok.frames,I.ok.mod,I.bs,Nat.le_trans I.ok.bsz I.sz,I.stack,I.stkFree,I.hok,I.bare⟩
theorem Inv.after {Q : VK} {u : Value} (I : Inv X pins σ H s) (h : CE X.stack X.prog X.w H s Q u s') : EP X pins σ Q u s':=by
 obtain ⟨v,H',os,bare,un,hok,r,q⟩:=h
 obtain ⟨hh,g,d,t,os'⟩:=s'
 obtain rfl : os' = s.os:=os
 exact ⟨v,H',I.call (h':=hh) (g':=g) (d':=d) (t':=t) (ch:=[]) un hok bare (fun b z=>absurd z (by simp)),r,q⟩
end
def ziY (sp : Sp) (dvs : List V) (E : XK) (t : TA) : TE:=fun σ H Q=>t σ H fun vs H1=>sp (vs ++ dvs) H1 Q E
def zhg (K : PySem.W.Frag) (fd : FuncData) (ps : List Str) (ds : List Value) : Prop :=
 ∀ (s : Shared) (us : List Value),K.In s.heap -> (us ++ ds).length = ps.length -> BindsTo s fd ⟨us,[]⟩ (ps.zip (us ++ ds))
theorem zhg.all {K : PySem.W.Frag} {fd : FuncData} {ps : List Str} (h : ∀ us : List Value,us.length = ps.length -> bindArgs fd ⟨us,[]⟩ = pure (ps.zip us)) : zhg K fd ps []:=fun s us _ hl=>by
 rw [List.append_nil] at hl ⊢
 exact .of_eq (h us hl)
def zeX (CX : CXT) (X : Cx) (E : XK) : Prop:=∀ (pins : List (Addr × Obj)) (σ : St) (H : Hp) (s : Shared) (e : Value) (s' : Shared),Inv X pins σ H s -> CX X.stack H s E e s' -> X.xe e s'
section
variable {X : Cx} {CX : CXT} {k : Nat} {f C : Addr} {fd : FuncData} {ps : List Str} {sp : Sp} {dvs : List V} {ds : List Value} {E : XK} {x m : Str} {p pos apos : Pos} {e o : Expr} {es : List Expr} {ta : TE} {t : TA}
theorem zoS {pins : List (Addr × Obj)} {σ : St} {H : Hp} {s : Shared} {Q : VK} {us : List Value} {vs : List V} (F : za5 X.prog X.w X.K X.mg X.base CX k f fd ps sp) (hr : zct k X.A) (hb : zhg X.K fd ps ds) (hd : zak dvs ds) (hx : zeX CX X E)
   (I : Inv X pins σ H s) (r : zak vs us) (h : sp (vs ++ dvs) H Q E) : wpAny (model X.prog X.w) X.A (call (.ref f) us) (EP X pins σ Q) X.xe s:=by
 have r2 : zak (vs ++ dvs) (us ++ ds):=r.append hd
 have hl : (us ++ ds).length = ps.length:=by rw [<- r2.length]; exact F.len _ _ _ _ h
 refine wpAny_call (codeAny_mono (F.run X.A X.stack s H ⟨us,[]⟩ (us ++ ds) (vs ++ dvs) Q E hr I.env0 (hb s us I.kIn hl) r2 h) fun r s' hq=>?_)
 cases r with
 | error e=>exact hx pins σ H s e s' I hq
 | ok fl =>
   cases fl with
   | ret u=>exact I.after hq
   | next=>exact False.elim hq
   | brk=>exact False.elim hq
   | cont=>exact False.elim hq
theorem zkr (F : za5 X.prog X.w X.K X.mg X.base CX k f fd ps sp) (hr : zct k X.A) (hg : Gl X x) (hm : X.mg x = some (.ref f)) (hk : PySem.W.keepIn X.K (.ref f) = true) (hb : zhg X.K fd ps ds) (hd : zak dvs ds) (hx : zeX CX X E)
   (ha : PA X (e :: es) t) (hdb : (x == ("__debug__" : Str)) = false:=by decide) (he : starEach (e :: es) X.env = (false,eval e X.env) :: starEach es X.env:=by rfl) (hpl : (backTo pos (starEach es X.env)).any (·.1) = false:=by rfl) :
   PE X (.Call (.Name x p) (e :: es) [] pos) (ziY sp dvs E t):=by
 intro pins s σ H Q I h
 refine wpAny_Call_Name_kw (zhn I hg hm ?_ hdb)
 refine PySem.W.callWith_K (h₀:=X.base) I.ok.mod.kin hk (thn (ha pos pins s σ H _ I h) fun us s1 ⟨vs,H1,I1,r,q⟩=>⟨I1.kIn,?_⟩) he hpl
 exact zoS F hr hb hd hx I1 r q
structure Mk (K : PySem.W.Frag) (C f : Addr) : Prop where
 makes : PySem.W.makesIn K C = true
 init : PySem.W.findIn K (.ref C) "__init__" = some (some (.ref f))
 fn : PySem.W.isFn K (.ref f) = true
 kp : PySem.W.keepIn K (.ref C) = true
end
section
variable {X : Cx} {CX : CXT} {k : Nat} {f C : Addr} {fd : FuncData} {ps ks : List Str} {sp : Sp} {E : XK} {x m : Str} {p pos apos kpos : Pos} {e o : Expr} {es : List Expr} {kws : List Keyword} {te ta : TE} {t tk : TA} {nm : Option Str}
structure zq3 (K : PySem.W.Frag) (fd : FuncData) (ps ks : List Str) (g : List Value -> List Value -> List Value) (gV : List V -> List V -> List V) : Prop where
 to : ∀ (s : Shared) (us ws : List Value),K.In s.heap -> (g us ws).length = ps.length -> BindsTo s fd ⟨us,ks.zip ws⟩ (ps.zip (g us ws))
 rel : ∀ {vs : List V} {us : List Value} {zs : List V} {ws : List Value},zak vs us -> zak zs ws -> zak (gV vs zs) (g us ws)
variable {g : List Value -> List Value -> List Value} {gV : List V -> List V -> List V}
end
structure zan (N P : List Str) (sc : Scope) : Prop where
 kind : sc.kind = .function
 co : sc.isCoroutine = false
 gen : sc.isGenerator = false
 nd : N.Nodup
 pre : N.take P.length = P
 par : ∀ x ∈ P,sc.names.lookup x = some .local \/ sc.names.lookup x = some .cell
 nofree : ∀ y ∈ sc.names,y.2 ≠ .free
theorem zgF {kindOf : Str -> Option NameKind} {x : Str} : ∀ {binds : List (Str × Value)} {m : Str -> Option Value},(∀ v,(x,v) ∉ binds) -> bindL kindOf binds m x = m x
 | [],_,_=>rfl
 | (n,v) :: r,m,h=>by
   unfold bindL
   rw [zgF fun w hw=>h w (List.mem_cons_of_mem _ hw)]
   split
   . have : x ≠ n:=by rintro rfl; exact h v List.mem_cons_self
     simp [this]
   . rfl
theorem zhf {kindOf : Str -> Option NameKind} {x : Str} : ∀ {binds : List (Str × Value)} {m : Str -> Option Value},(∀ v,(x,v) ∉ binds) -> bindC kindOf binds m x = m x
 | [],_,_=>rfl
 | (n,v) :: r,m,h=>by
   unfold bindC
   rw [zhf fun w hw=>h w (List.mem_cons_of_mem _ hw)]
   split
   . rfl
   . have : x ≠ n:=by rintro rfl; exact h v List.mem_cons_self
     simp [this]
theorem zhd {kindOf : Str -> Option NameKind} {x : Str} {v : Value} : ∀ {P : List Str} {vs : List Value} {i : Nat} {m : Str -> Option Value},P.Nodup -> P[i]? = some x -> vs[i]? = some v -> kindOf x = some .local ->
   bindL kindOf (P.zip vs) m x = some v
 | [],_,_,_,_,h,_,_=>by simp at h
 | _ :: _,[],_,_,_,_,h,_=>by simp at h
 | p :: P,w :: vs,0,m,nd,h1,h2,hk=>by
   simp at h1 h2; subst h1; subst h2
   show bindL kindOf ((p,w) :: P.zip vs) m p = _
   unfold bindL
   rw [zgF fun v hv=>(List.nodup_cons.mp nd).1 (List.of_mem_zip hv).1,if_pos hk]
   simp
 | p :: P,w :: vs,i + 1,m,nd,h1,h2,hk=>by
   show bindL kindOf ((p,w) :: P.zip vs) m x = _
   unfold bindL
   exact zhd (i:=i) (List.nodup_cons.mp nd).2 (by simpa using h1) (by simpa using h2) hk
theorem zha {kindOf : Str -> Option NameKind} {x : Str} {v : Value} : ∀ {P : List Str} {vs : List Value} {i : Nat} {m : Str -> Option Value},P.Nodup -> P[i]? = some x -> vs[i]? = some v -> kindOf x ≠ some .local ->
   bindC kindOf (P.zip vs) m x = some v
 | [],_,_,_,_,h,_,_=>by simp at h
 | _ :: _,[],_,_,_,_,h,_=>by simp at h
 | p :: P,w :: vs,0,m,nd,h1,h2,hk=>by
   simp at h1 h2; subst h1; subst h2
   show bindC kindOf ((p,w) :: P.zip vs) m p = _
   unfold bindC
   rw [zhf fun v hv=>(List.nodup_cons.mp nd).1 (List.of_mem_zip hv).1,if_neg hk]
   simp
 | p :: P,w :: vs,i + 1,m,nd,h1,h2,hk=>by
   show bindC kindOf ((p,w) :: P.zip vs) m x = _
   unfold bindC
   exact zha (i:=i) (List.nodup_cons.mp nd).2 (by simpa using h1) (by simpa using h2) hk
def start (N : List Str) (vs : List V) : St:=vs.map some ++ List.replicate (N.length - vs.length) none
def zgd (CX : CXT) (P : Program) (w : World) (K : PySem.W.Frag) (mg : Str -> Option Value) (base : Heap) (N : List Str) (qual : Str) (scope : Scope) (f : Addr) (cd : Value) (A : Around) (outer : List Env) (s : Shared) (H : Hp) (E : XK) : Cx where
 prog:=P
 w:=w
 K:=K
 mg:=mg
 base:=base
 A:=A.deeper (envOfC qual scope s.heap.objs.size f cd)
 N:=N
 s₀:=s
 H₀:=H
 env:=envOfC qual scope s.heap.objs.size f cd
 outer:=outer
 stack:=envOfC qual scope s.heap.objs.size f cd :: outer
 ex:=[]
 calm:=true
 fn:=fun _=>true
 pn:=[]
 xe:=fun e s'=>wpAny (model P w) (A.deeper (envOfC qual scope s.heap.objs.size f cd)) (leaving (envOfC qual scope s.heap.objs.size f cd) e) (fun _ s''=>CX outer H s E e s'') (fun e' s''=>CX outer H s E e' s'') s'
theorem zfC {sc : Scope} {n : Nat} {x : Str} (h : sc.names.lookup x = some .cell) : ∃ c,(cellsFrom n sc.names []).lookup x = some c:=by
 have q:=PySem.W.cellsFrom_some sc.names n [] (.inl h)
 exact Option.isSome_iff_exists.mp q
theorem zkQ {CX : CXT} {P : Program} {w : World} {K : PySem.W.Frag} {mg : Str -> Option Value} {base : Heap} {N ps : List Str} {qual : Str} {scope : Scope} {f : Addr} {cd : Value} {A : Around} {outer : List Env} {s s1 : Shared} {H : Hp} {E : XK} {us : List Value} {vs : List V}
   (S : zan N ps scope) (hd : A.handled = none) (e0 : zmF P w K mg base A outer s H) (hl : vs.length = ps.length) (r : zak vs us)
   (x : InCallC s s.heap.objs.size (bindL (envOfC qual scope s.heap.objs.size f cd).kindOf (ps.zip us) fun _=>none) (cellsFrom (s.heap.objs.size + 1) scope.names []) (bindC (envOfC qual scope s.heap.objs.size f cd).kindOf (ps.zip us) fun _=>none) s1) :
   Inv (zgd CX P w K mg base N qual scope f cd A outer s H E) [] (start N vs) H s1:=by
 have hpl : ps.length <= N.length:=by have:=congrArg List.length S.pre; rw [List.length_take] at this; lia
 obtain ⟨h1,tk,rfl,hk⟩:=x.done
 have noA : ∀ b : Addr,b ∉ (zgd CX P w K mg base N qual scope f cd A outer s H E).ex:=fun b z=>absurd (show b ∈ ([] : List Addr) from z) (by simp)
 refine ⟨⟨e0.mod,S.kind,rfl,rfl,Nat.le_refl _,fun y z c h1 h2=>?_,fun y hy=>?_,fun y c _ h=>?_,fun _=>hd,Around.frames_deeper e0.frames,.inr ⟨rfl,rfl⟩,fun b z=>absurd z (noA b),e0.bs,e0.bsz,fun b _ _=>noA b,fun b z=>absurd z (noA b),e0.funs,e0.frf⟩,
   rfl,e0.bare,Un.kept hk,⟨_,x.toInCall.ns,fun i y v h1 h2 h3=>?_⟩,fun y c h=>⟨_,x.cell y c h⟩,e0.hok.fresh (Nat.le_refl _),fun y c h=>?_,fun p hp=>absurd (show p ∈ ([] : List (Addr × Obj)) from hp) (by simp),e0.hok.kept hk,?_⟩
 . exact name_of_addr x.apart (PySem.mem_of_lookup h1) (PySem.mem_of_lookup h2)
 . have hy : scope.names.lookup y = some .cell \/ scope.names.lookup y = some .free:=hy
   rcases hy with hy | hy
   . exact zfC hy
   . exact absurd rfl (S.nofree _ (PySem.mem_of_lookup hy))
 . exact Nat.le_of_lt (x.above y c (PySem.mem_of_lookup h))
 . have hi : i < vs.length:=by
     unfold start at h2
     by_cases hi : i < vs.length
     . exact hi
     . rw [List.getElem?_append_right (by simpa using hi)] at h2
       rw [List.getElem?_replicate] at h2
       split at h2 <;> cases h2
   have ha : vs[i]? = some v:=by
     unfold start at h2
     rw [List.getElem?_append_left (by simpa using hi),List.getElem?_map] at h2
     cases e : vs[i]? with
     | none=>rw [e] at h2; cases h2
     | some a=>rw [e] at h2; cases h2; rfl
   obtain ⟨u,hu,rv⟩:=r.get ha
   have hp : ps[i]? = some y:=by
     rw [<- S.pre,List.getElem?_take_of_lt (by lia)]; exact h1
   have ndP : ps.Nodup:=by rw [<- S.pre]; exact S.nd.sublist (List.take_sublist _ _)
   refine ⟨u,rv,?_⟩
   rcases S.par y (List.mem_of_getElem? hp) with k | k
   . exact .inl ⟨k,zhd ndP hp hu k⟩
   . obtain ⟨c,e⟩:=zfC (n:=s.heap.objs.size + 1) k
     refine .inr ⟨.inl k,c,e,?_⟩
     have q:=x.cell y c e
     rw [zha ndP hp hu (by show scope.names.lookup y ≠ _; rw [k]; decide)] at q
     exact q
 . exact e0.hok.fresh (Nat.le_of_lt (x.above y c (PySem.mem_of_lookup h)))
 . unfold start
   show _ = N.length
   rw [List.length_append,List.length_map,List.length_replicate]
   lia
theorem zoB {CX : CXT} {P : Program} {w : World} {K : PySem.W.Frag} {mg : Str -> Option Value} {base : Heap} {k : Nat} {f : Addr} {name qual : Str} {params : Arguments} {body : List Stmt} {scope : Scope} {dV kV doc pm cdv ct oc : Value} {an od : Option Addr}
   {osl : Array (Option Value)} {N ps : List Str} {sp : Sp} (lk : K.lookup f = some ⟨oc,od,.func (PySem.W.fnOf name qual params body scope dV kV doc pm an cdv ct),osl⟩) (hcd : PySem.W.codeIn K cdv qual = true) (S : zan N ps scope)
   (len : ∀ vs H Q E,sp vs H Q E -> vs.length = ps.length)
   (hbody : ∀ (A : Around) (outer : List Env) (s : Shared) (H : Hp) (vs : List V) (Q : VK) (E : XK),zct k (A.deeper (envOfC qual scope s.heap.objs.size f cdv)) -> sp vs H Q E ->
     ∃ t,PSs (zgd CX P w K mg base N qual scope f cdv A outer s H E) body t /\ t { nx:=fun _ H'=>Q .non H',rt:=Q } (start N vs) H) :
   za5 P w K mg base CX (k + 1) f (PySem.W.fnOf name qual params body scope dV kV doc pm an cdv ct) ps sp:=by
 refine ⟨len,fun A outer s H args us vs Q E hr e0 hb r hsp=>?_⟩
 have hl:=len _ _ _ _ hsp
 have KX : K.In s.heap:=e0.mod.kin.keeps fun b o e=>(e0.bs b o e).1
 have lim : s.heap.NoLimit:=e0.mod.nolimit.keeps fun b o e=>(e0.bs b o e).1
 have hkind : ∀ y ∈ ps.zip us,scope.names.lookup y.1 = some .local \/ (scope.names.lookup y.1 = some .cell /\ ((cellsFrom (s.heap.objs.size + 1) scope.names []).lookup y.1).isSome = true):=fun ⟨n,v⟩ hy=>by
   rcases S.par n (List.of_mem_zip hy).1 with q | q
   . exact .inl q
   . exact .inr ⟨q,PySem.W.cellsFrom_some _ _ _ (.inl q)⟩
 refine codeAny_call_function hr.depth (KX _ _ lk) rfl S.co S.gen rfl (PySem.W.codeRec_of KX hcd) (hb _ _ _ _ ?_)
 refine wpAny_newFunctionEnv_cells S.kind hkind fun env he s1 x=>?_
 subst he
 refine ⟨lim.keeps x.toInCall.keep,codeAny_func ?_⟩
 obtain ⟨t,ht,hq⟩:=hbody A outer s H vs Q E (hr.deeper _) hsp
 have I : Inv (zgd CX P w K mg base N qual scope f cdv A outer s H E) [] (start N vs) H s1:=zkQ S hr.hd e0 hl r x
 refine wpAny_mono (ht [] s1 (start N vs) H _ I hq) (fun fl s' hs=>?_) fun e s' hs=>hs
 have fin : ∀ {σ' : St} {H' : Hp} {v : V} {u : Value},Inv (zgd CX P w K mg base N qual scope f cdv A outer s H E) [] σ' H' s' -> zaG v u -> Q v H' -> CE outer P w H s Q u s' :=
   fun {σ' H' v u} J rv q=>⟨v,H',J.os,J.bare,J.base,J.hok,rv,q⟩
 cases fl with
 | ret u =>
   obtain ⟨v,σ',H',J,rv,q⟩:=hs
   exact fin J rv q
 | next =>
   obtain ⟨σ',H',J,q⟩:=hs
   exact fin (v:=V.non) (u:=Value.none) J rfl q
 | brk =>
   obtain ⟨_,_,_,q⟩:=hs
   exact False.elim q
 | cont =>
   obtain ⟨_,_,_,q⟩:=hs
   exact False.elim q
end L2
namespace L2
open PySem PySem.Spec PyProof.Rows
section
variable {X : Cx} {x : Str} {p pos : Pos} {e : Expr} {es : List Expr} {t : TA} {id T : String} {r : List V -> Hp -> VK -> Prop}
def tCB (r : List V -> Hp -> VK -> Prop) (t : TA) : TE:=fun σ H Q=>t σ H fun vs H1=>r vs H1 Q
theorem zai (hc : zah X (.builtin id) r) (hg : Gl X x) (hm : X.mg x = none) (hv : bootBuiltins x = some (.builtin id)) (ha : PA X (e :: es) t) (hn : x ≠ "__name__":=by decide) (hdb : (x == ("__debug__" : Str)) = false:=by decide)
   (he : starEach (e :: es) X.env = (false,eval e X.env) :: starEach es X.env:=by rfl) (hpl : (backTo pos (starEach es X.env)).any (·.1) = false:=by rfl) : PE X (.Call (.Name x p) (e :: es) [] pos) (tCB r t):=by
 intro pins s σ H Q I h
 refine wpAny_Call_Name_kw (zfV I hg hm hv ?_ hn hdb)
 exact PyProof.Rows.callWith_builtin1 (thn (ha pos pins s σ H _ I h) fun us s1 ⟨vs,H1,I1,r1,q1⟩=>hc pins s1 σ H1 vs us Q I1 r1 q1) he hpl
theorem zao (hc : zah X (.type T) r) (hg : Gl X x) (hm : X.mg x = none) (hv : bootBuiltins x = some (.type T)) (ha : PA X (e :: es) t) (hn : x ≠ "__name__":=by decide) (hdb : (x == ("__debug__" : Str)) = false:=by decide)
   (he : starEach (e :: es) X.env = (false,eval e X.env) :: starEach es X.env:=by rfl) (hpl : (backTo pos (starEach es X.env)).any (·.1) = false:=by rfl) : PE X (.Call (.Name x p) (e :: es) [] pos) (tCB r t):=by
 intro pins s σ H Q I h
 refine wpAny_Call_Name_kw (zfV I hg hm hv ?_ hn hdb)
 exact PyProof.Rows.callWith_type1 (thn (ha pos pins s σ H _ I h) fun us s1 ⟨vs,H1,I1,r1,q1⟩=>hc pins s1 σ H1 vs us Q I1 r1 q1) he hpl
end
end L2
namespace L2
open PySem PySem.Spec PyProof.Rows
section
variable {κ : Type} [DecidableEq κ]
end
abbrev KT (H : Hp) : List (List Key × V) -> List (List Key × Addr × Value) -> Prop:=Paired fun p q=>p.1 = q.1 /\ H q.2.1 = some (.tup (p.1.map kV)) /\ zaG p.2 q.2.2
section
variable {P : Program} {w : World} {H : Hp} {h : Heap} {a : Addr}
end
section
variable {X : Cx} {pins : List (Addr × Obj)} {σ : St} {H : Hp} {s : Shared} {a : Addr} {y v : V} {u r : Value} {o : Option V} {A : Around} {E : Value -> Shared -> Prop}
end
section
variable {X : Cx} {pins : List (Addr × Obj)} {σ : St} {H : Hp} {s : Shared} {a : Addr} {kvs : List (Key × V)} {k : Key} {u : Value} {A : Around} {E : Value -> Shared -> Prop}
end
section
variable {X : Cx} {o i e value : Expr} {pos pos' tpos : Pos} {td ty tv : TE}
end
section
variable {X : Cx} {pos : Pos}
end
abbrev VV : List (V × V) -> List (Value × Value) -> Prop:=Paired fun p q=>zaG p.1 q.1 /\ zaG p.2 q.2
structure M1 (X : Cx) (o : Expr) (m : Str) (apos : Pos) (e : Expr) (cpos : Pos) : Prop where
 base : attributeBase o m X.env (eval o X.env) = eval o X.env
 few : ((backTo cpos (starEach [e] X.env)).all (fun x=>!x.1) && (backToKw cpos (keywordEach [] X.env)).all (fun x=>x.1.isSome)
   && decide (([e] : List Expr).length + ([] : List Keyword).length + (if ([] : List Keyword).isEmpty then 0 else 1) < 30)) = true
 line : (apos.endLine == cpos.line) = true
 trees : backTo cpos (starEach [e] X.env) = [(false,eval e X.env)]
structure M2 (X : Cx) (o : Expr) (m : Str) (apos : Pos) (e f : Expr) (cpos : Pos) : Prop where
 base : attributeBase o m X.env (eval o X.env) = eval o X.env
 few : ((backTo cpos (starEach [e,f] X.env)).all (fun x=>!x.1) && (backToKw cpos (keywordEach [] X.env)).all (fun x=>x.1.isSome)
   && decide (([e,f] : List Expr).length + ([] : List Keyword).length + (if ([] : List Keyword).isEmpty then 0 else 1) < 30)) = true
 line : (apos.endLine == cpos.line) = true
 trees : backTo cpos (starEach [e,f] X.env) = [(false,eval e X.env),(false,eval f X.env)]
section
variable {X : Cx} {pins : List (Addr × Obj)} {σ : St} {H : Hp} {s : Shared} {a : Addr} {y d : V} {u r : Value} {o : Option V} {A : Around} {E : Value -> Shared -> Prop}
end
section
variable {X : Cx} {o e f : Expr} {apos cpos : Pos} {td ty tx : TE}
end
section
variable {X : Cx} {pins : List (Addr × Obj)} {σ : St} {H : Hp} {s : Shared} {a : Addr} {kvs : List (Key × V)} {A : Around} {E : Value -> Shared -> Prop}
end
section
variable {X : Cx} {pins : List (Addr × Obj)} {σ : St} {H : Hp} {s : Shared} {a : Addr} {y : V} {u : Value} {A : Around} {E : Value -> Shared -> Prop}
end
end L2
namespace HT
open PySem PyProof.Rows
def lexLt : List Int -> List Int -> Bool
 | [],[]=>false
 | [],_ :: _=>true
 | _ :: _,[]=>false
 | x :: xs,y :: ys=>if x = y then lexLt xs ys else decide (x < y)
theorem zjt (x y : Int) (xs ys : List Int) : lexLt (x :: xs) (y :: ys) = if x = y then lexLt xs ys else decide (x < y):=rfl
theorem zgq : lexLt [] [] = false:=rfl
theorem zf5 (y : Int) (ys : List Int) : lexLt [] (y :: ys) = true:=rfl
theorem zfT (x : Int) (xs : List Int) : lexLt (x :: xs) [] = false:=rfl
theorem zlZ (A : Around) (s : Shared) (a : Int) (t : Tok) (c : Int) (u : Tok) : ∃ e,SeqAt.EqAt A s (.int a t) (.int c u) e /\ (e = true ↔ a = c) :=
 ⟨(a == c),SeqAt.EqAt.int_int a t c u,by simp⟩
theorem zlQ (A : Around) (s : Shared) (a : Int) (t : Tok) (c : Int) (u : Tok) (prog : Program) (w : World) (E : Value -> Shared -> Prop) (Q : Value -> Shared -> Prop) (h : Q (.bool (decide (a < c))) s) :
   wpAny (model prog w) A (richCompare .Lt (.int a t) (.int c u)) Q E s :=
 (PyProof.Rows.lt_int h : wpAny (model prog w) A (compareOp .Lt (.int a t) (.int c u)) Q E s)
section
open PySem.SeqAt
open PySem.AutoSeq1 (wpAny_loadPart')
open PySem.MeetsSeq PySem.MeetsSeq2 PySem.MeetsSeq3
theorem zgr (l b : Addr) (items items2 : Array Value) (n n2 : Nat) (dd dd2 : Option Addr) (sl sl2 : Array (Option Value)) (ns ms : List Int) (hi : IntsAre items.toList ns) (hj : IntsAre items2.toList ms) :
   Meets (Builtin.«tuple.__lt__» ⟨[.ref l,.ref b],[]⟩)
     (fun _ R s=>s.heap.get? l = some { cls:=.type "tuple",dict:=dd,data:=.seq items n,slots:=sl } /\ s.heap.get? b = some { cls:=.type "tuple",dict:=dd2,data:=.seq items2 n2,slots:=sl2 } /\
       R (.ok (.ret (.bool (lexLt ns ms)))) s) :=
 .of_wp fun prog w A R s h=>by
   obtain ⟨hp,g,d,tk,os⟩:=s; obtain ⟨hl,hb,h⟩:=h
   have f2:=AutoSeq1.sub_tuple_tuple
   have z1 : items.size = ns.length:=by rw [<- hi.length]; simp
   have z2 : items2.size = ms.length:=by rw [<- hj.length]; simp
   wp_walk using wpAny_loadPart' hl,wpAny_loadPart' hb,wpAny_forIn_list _ (fun za1 b s'=>b.1 = none /\ s' = ⟨hp,g,d,tk,os⟩ /\ ∃ (vs ws : List Value) (ns' ms' : List Int),za1 = vs.zip ws /\
     IntsAre vs ns' /\ IntsAre ws ms' /\ ns'.length + items2.size = ms'.length + items.size /\ R (.ok (.ret (.bool (lexLt ns' ms')))) ⟨hp,g,d,tk,os⟩) _
   case turn =>
     rintro ⟨y,x⟩ za1 b s' ⟨hb',rfl,vs,ws,ns',ms',hz,hvi,hwi,hlen,hR⟩
     cases hvi with
     | nil=>rw [List.zip_nil_left] at hz; cases hz
     | cons a t hvi' =>
       cases hwi with
       | nil=>rw [List.zip_nil_right] at hz; cases hz
       | cons c u hwi' =>
         rw [List.zip_cons_cons] at hz
         injection hz with hyx hrest
         injection hyx with hy hx
         subst hy hx
         rw [zjt] at hR
         simp only [List.length_cons] at hlen
         obtain ⟨e,he,hiff⟩:=zlZ A.in1 ⟨hp,g,d,tk,os⟩ a t c u
         refine wpAny_bind (he prog w _ _ ?_)
         cases e with
         | true =>
           rw [if_pos (hiff.mp rfl)] at hR
           wp_walk
           exact ⟨rfl,rfl,_,_,_,_,hrest,hvi',hwi',by lia,hR⟩
         | false =>
           rw [if_neg (fun q=>absurd (hiff.mpr q) Bool.false_ne_true)] at hR
           have hri:=zlQ A.in1 ⟨hp,g,d,tk,os⟩ a t c u prog w
           wp_walk using hri
           exact ⟨_,rfl,by simpa using hR⟩
   case fin =>
     rintro ⟨b1,b2⟩ s' ⟨hb',rfl,vs,ws,ns',ms',hz,hvi,hwi,hlen,hR⟩
     simp only at hb'
     subst hb'
     have hv : lexLt ns' ms' = decide (items.size < items2.size):=by
       cases hvi with
       | nil =>
         cases hwi with
         | nil =>
           simp only [List.length_nil] at hlen
           rw [zgq]
           exact (decide_eq_false (by lia)).symm
         | cons c u hw =>
           simp only [List.length_nil,List.length_cons] at hlen
           rw [zf5]
           exact (decide_eq_true (by lia)).symm
       | cons a t hv =>
         cases hwi with
         | nil =>
           simp only [List.length_nil,List.length_cons] at hlen
           rw [zfT]
           exact (decide_eq_false (by lia)).symm
         | cons c u hw =>
           rw [List.zip_cons_cons] at hz
           cases hz
     rw [hv] at hR
     wp_walk
     exact ⟨_,rfl,by simpa [Builtin.Tuple.tupleCompareSizes] using hR⟩
   case h =>
     exact ⟨rfl,rfl,items.toList,items2.toList,ns,ms,rfl,hi,hj,by lia,h⟩
end
section
variable {prog : Program} {w : World} {A : Around} {E : Value -> Shared -> Prop} {s : Shared}
theorem lt_tupInts {l b : Addr} {items items2 : Array Value} {ns ms : List Int} {Q : Value -> Shared -> Prop} (hl : IsTup s.heap l items) (hb : IsTup s.heap b items2) (hi : IntsAre items.toList ns) (hj : IntsAre items2.toList ms)
   (hu : A.units < cLine) (h : Q (.bool (lexLt ns ms)) s) : wpAny (model prog w) A (compareOp .Lt (.ref l) (.ref b)) Q E s:=by
 obtain ⟨⟨cls,dd,data,sl⟩,ho,hc,n,hd⟩:=id hl
 obtain ⟨⟨cls2,dd2,data2,sl2⟩,ho2,hc2,n2,hd2⟩:=id hb
 simp only at hc hd hc2 hd2
 subst hc hd hc2 hd2
 exact richCompare_meets_room (op:=.Lt) ⟨_,ho,rfl⟩ ⟨_,ho2,rfl⟩ PySem.F.slot_tuple_lt PySem.F.entry_tuple_lt (PySem.F.args_tuple_lt_2 _ _) (zgr l b items items2 n n2 dd dd2 sl sl2 ns ms hi hj)
   ⟨ho,ho2,show Value.bool (lexLt ns ms) ≠ Value.notImplemented /\ Q (.bool (lexLt ns ms)) s from ⟨(fun x=>nomatch x),h⟩⟩ hu
theorem cat_tup {t b : Addr} {vs ws : List Value} {Q : Value -> Shared -> Prop} (ht : IsTup s.heap t vs.toArray) (hb : IsTup s.heap b ws.toArray) (hv : vs ≠ [])
   (h1 : ws = [] -> Q (.ref t) s) (h2 : ws ≠ [] -> Q (.ref s.heap.objs.size) { s with heap:=s.heap.push { cls:=.type "tuple",data:=.seq (vs ++ ws).toArray } })
   (hsz : vs.length + ws.length <= sizeLine) : wpAny (model prog w) A (binaryOp .Add (.ref t) (.ref b)) Q E s:=by
 obtain ⟨⟨cls,dd,data,sl⟩,ho,hc,n,hd⟩:=id ht
 obtain ⟨⟨cls2,dd2,data2,sl2⟩,ho2,hc2,n2,hd2⟩:=id hb
 simp only at hc hd hc2 hd2
 subst hc hd hc2 hd2
 have e : vs.toArray ++ ws.toArray = (vs ++ ws).toArray:=by simp
 by_cases hw : ws = []
 . exact concat_meets ⟨_,ho,rfl⟩ ⟨_,ho2,rfl⟩ noFill_tuple_add seq_tuple_add PySem.F.slot_tuple_add PySem.F.entry_tuple_add (PySem.F.args_tuple_add_2 _ _)
     (tuple_addW1 t b vs.toArray ws.toArray n n2 dd dd2 sl sl2 (by simpa using hv) (by simp [hw])) ⟨ho,ho2,h1 hw⟩
 . refine concat_meets ⟨_,ho,rfl⟩ ⟨_,ho2,rfl⟩ noFill_tuple_add seq_tuple_add PySem.F.slot_tuple_add PySem.F.entry_tuple_add (PySem.F.args_tuple_add_2 _ _)
     (tuple_addW2 t b vs.toArray ws.toArray n n2 dd dd2 sl sl2 (by simpa using hv) (by simpa using hw) (by rw [List.size_toArray,List.size_toArray]; exact hsz)) ⟨ho,ho2,?_⟩
   rw [e]
   exact h2 hw
def sIx (n d : Nat) : Option Int -> Nat
 | none=>d
 | some v=>if v < 0 then (v + (n : Int)).toNat else min v.toNat n
theorem sIx_nat (n d k : Nat) : sIx n d (some (k : Int)) = min k n:=by
 show (if (k : Int) < 0 then ((k : Int) + (n : Int)).toNat else min (k : Int).toNat n) = min k n
 rw [if_neg (by lia),Int.toNat_natCast]
theorem zp0 (n d : Nat) (hd : d <= n) (o : Option Int) : sIx n d o <= n:=by
 cases o with
 | none=>exact hd
 | some v =>
   show (if v < 0 then (v + (n : Int)).toNat else min v.toNat n) <= n
   by_cases hv : v < 0
   . rw [if_pos hv]; lia
   . rw [if_neg hv]; exact Nat.min_le_right _ _
theorem zkl (v : Int) (n d : Nat) : (if v < 0 then max (v + (n : Int)) 0 else min v (n : Int)) = ((sIx n d (some v) : Nat) : Int):=by
 show (if v < 0 then max (v + (n : Int)) 0 else min v (n : Int)) = (((if v < 0 then (v + (n : Int)).toNat else min v.toNat n) : Nat) : Int)
 by_cases hv : v < 0
 . simp only [if_pos hv]; lia
 . simp only [if_neg hv]; lia
theorem zjH (lo hi : Option Int) (n : Nat) : Builtin.Slice.sliceAdjust lo hi 1 (n : Int) = (((sIx n 0 lo : Nat) : Int),((sIx n n hi : Nat) : Int)):=by
 have h1 : ¬ ((1 : Int) < 0):=by lia
 unfold Builtin.Slice.sliceAdjust
 simp only [h1,if_false]
 refine Prod.ext ?_ ?_
 . cases lo with
   | none=>rfl
   | some v=>exact zkl v n 0
 . cases hi with
   | none=>rfl
   | some v=>exact zkl v n n
theorem zja (i j : Nat) : Builtin.Slice.slicePlaces (i : Int) (j : Int) 1 = j - i:=by
 unfold Builtin.Slice.slicePlaces
 have h1 : (1 : Int) > 0:=by lia
 simp only [h1,if_true,Int.ediv_one]
 split <;> lia
theorem zf2 {v : Value} {o : Option Int} {Q : Option Int -> Shared -> Prop} (p : IsPart v o) (h : Q o s) : wpAny (model prog w) A (Builtin.Slice.slicePartIndex v) Q E s:=by
 cases p with
 | none=>exact slicePart_none h
 | int i t=>exact slicePart_int h
theorem zeP {sl : Addr} {vl vu : Value} {lo hi : Option Int} {n : Nat} {Q : Int × Int × Nat -> Shared -> Prop} (hs : s.heap.IsSliceOf sl vl vu .none) (pl : IsPart vl lo) (pu : IsPart vu hi)
   (h : Q (((sIx n 0 lo : Nat) : Int),1,sIx n n hi - sIx n 0 lo) s) : wpAny (model prog w) A (Builtin.Slice.sliceApplied (.ref sl) (pure (n : Int))) Q E s:=by
 obtain ⟨os,hos,hcs,hds⟩:=id hs
 unfold Builtin.Slice.sliceApplied Builtin.Slice.sliceFields
 refine wpAny_bind (wpAny_bind (wpAny_field hos hds (x:=vl) rfl (wpAny_bind (wpAny_field hos hds (x:=vu) rfl (wpAny_bind (wpAny_field hos hds (x:=.none) rfl (wpAny_pure ?_)))))))
 refine wpAny_bind (slicePart_none ?_)
 show wpAny _ _ (if ((1 : Int) == 0) = true then _ else _) _ _ s
 rw [if_neg (by decide)]
 refine wpAny_bind (zf2 pl (wpAny_bind (zf2 pu (wpAny_bind (wpAny_pure ?_)))))
 show wpAny _ _ (match Builtin.Slice.sliceAdjust lo hi 1 (n : Int) with | (lo,hi)=>pure (lo,(1 : Int),Builtin.Slice.slicePlaces lo hi 1)) _ _ s
 rw [zjH lo hi n]
 show wpAny _ _ (pure (((sIx n 0 lo : Nat) : Int),(1 : Int),Builtin.Slice.slicePlaces ((sIx n 0 lo : Nat) : Int) ((sIx n n hi : Nat) : Int) 1)) _ _ s
 rw [zja]
 exact wpAny_pure h
theorem zl6 (xs : Array Value) (i k : Nat) : ((List.range k).filterMap fun (m : Nat)=>xs[((i : Int) + (m : Int) * 1).toNat]?).toArray = ((xs.toList.drop i).take k).toArray:=by
 have e : (fun (m : Nat)=>xs[((i : Int) + (m : Int) * 1).toNat]?) = fun m=>xs[i + m]?:=by
   funext m
   have : ((i : Int) + (m : Int) * 1).toNat = i + m:=by lia
   rw [this]
 rw [e]
 have:=pick_run xs i k
 rw [List.filterMap_map] at this
 have e2 : ((fun x=>xs[x]?) ∘ fun x=>i + x) = fun m=>xs[i + m]?:=rfl
 rw [e2] at this
 rw [this]
theorem getItem_tuple_cut {t sl : Addr} {items : Array Value} {vl vu : Value} {lo hi : Option Int} {Q : Value -> Shared -> Prop} (ht : IsTup s.heap t items) (hs : s.heap.IsSliceOf sl vl vu .none) (pl : IsPart vl lo) (pu : IsPart vu hi)
   (hw : ¬ (sIx items.size 0 lo = 0 /\ sIx items.size items.size hi = items.size))
   (h : Q (.ref s.heap.objs.size) { s with heap:=s.heap.push { cls:=.type "tuple",data:=.seq ((items.toList.drop (sIx items.size 0 lo)).take (sIx items.size items.size hi - sIx items.size 0 lo)).toArray } })
   (hsz : items.size <= sizeLine) : wpAny (model prog w) A (getItem (.ref t) (.ref sl)) Q E s:=by
 have htake : sizeOk (.seq ((items.toList.drop (sIx items.size 0 lo)).take (sIx items.size items.size hi - sIx items.size 0 lo)).toArray):=by
   show ((items.toList.drop (sIx items.size 0 lo)).take (sIx items.size items.size hi - sIx items.size 0 lo)).toArray.size <= sizeLine
   rw [List.size_toArray,List.length_take,List.length_drop,Array.length_toList]
   lia
 have hj : sIx items.size items.size hi <= items.size:=zp0 _ _ (Nat.le_refl _) hi
 obtain ⟨os,hos,hcs,hds⟩:=id hs
 have hTs : s.TypeIs (.ref sl) "slice":=⟨os,hos,hcs⟩
 unfold getItem
 try with_reducible refine wpAny_holding ?_
 first | refine wpAny_bind (wpAny_pure ?_) | skip
 refine wpAny_bind (wpAny_sequenceKey ht.typeIs (by decide) ?_)
 refine wpAny_bind (wpAny_callSpecial?_slot (name:=Str.ofString "__getitem__") ht.typeIs PyProof.Rows.slot_tuple_getitem
   (wpAny_call_entry PyProof.Rows.slot_tuple_getitem ht.typeIs entry_tuple_getitem ?_ (args_tuple_getitem _ _)))
 show wpAny _ _ (Builtin.Tuple.tupleItemsOf (.ref t) >>= _) _ _ s
 refine wpAny_bind (tupleItemsOf_ ht ?_)
 refine wpAny_bind (wpAny_typeOf hTs ?_)
 rw [if_pos (by decide)]
 refine wpAny_bind (zeP hs pl pu ?_)
 have hno : ¬ ((((sIx items.size 0 lo : Nat) : Int) == 0 && (1 : Int) == 1 && (sIx items.size items.size hi - sIx items.size 0 lo) == items.size) = true):=by
   intro q
   rw [Bool.and_eq_true,Bool.and_eq_true] at q
   have q1 : ((sIx items.size 0 lo : Nat) : Int) = 0:=eq_of_beq q.1.1
   have q2 : sIx items.size items.size hi - sIx items.size 0 lo = items.size:=eq_of_beq q.2
   exact hw ⟨by lia,by lia⟩
 show wpAny _ _ (if (((sIx items.size 0 lo : Nat) : Int) == 0 && (1 : Int) == 1 && (sIx items.size items.size hi - sIx items.size 0 lo) == items.size) = true then _ else _) _ _ s
 rw [if_neg hno,zl6]
 first
   | exact wpAny_bind (m:=Builtin.Tuple.tupleExact _) (wpAny_newObj_type (wpAny_pure ⟨_,rfl,wpAny_pure h⟩) htake)
   | exact wpAny_bind (m:=Builtin.Tuple.tupleExact _) (wpAny_newObj_type (wpAny_bind (wpAny_pure (wpAny_pure ⟨_,rfl,wpAny_pure h⟩))) htake)
   | exact wpAny_bind (wpAny_bind (m:=Builtin.Tuple.tupleExact _) (wpAny_newObj_type (wpAny_pure (wpAny_pure ⟨_,rfl,wpAny_pure h⟩)) htake))
   | exact wpAny_bind (wpAny_bind (m:=Builtin.Tuple.tupleExact _) (wpAny_newObj_type (wpAny_pure ⟨_,rfl,wpAny_pure h⟩) htake))
end
end HT
namespace L2
open PySem PySem.Spec PyProof.Rows
abbrev TO:=St -> Hp -> (Option Int -> Hp -> Prop) -> Prop
def PO (X : Cx) (e : Option Expr) (t : TO) : Prop :=
 ∀ (pins : List (Addr × Obj)) (s : Shared) (σ : St) (H : Hp) (Q : Option Int -> Hp -> Prop),Inv X pins σ H s -> t σ H Q ->
   wpAny (model X.prog X.w) X.A (evalPart e X.env) (fun u s'=>∃ o H',Inv X pins σ H' s' /\ IsPart u o /\ Q o H') X.xe s
def zkn : TO:=fun _ H Q=>Q none H
def zow (t : TE) : TO:=fun σ H Q=>t σ H fun x H1=>∃ i,x = .int i /\ Q (some i) H1
theorem zc0 {ns : List Int} : ∀ {us : List Value},zak (ns.map V.int) us -> IntsAre us ns:=by
 induction ns with
 | nil=>intro us r; rw [List.map_nil] at r; cases r; exact .nil
 | cons n ns ih =>
   intro us r
   rw [List.map_cons] at r
   cases r with
   | cons r1 r2 =>
     obtain ⟨t,e⟩:=r1
     subst e
     exact .cons n t (ih r2)
section
variable {X : Cx} {e : Expr} {te : TE} {lo hi : Option Expr} {tl th : TO} {pos p2 : Pos}
theorem zfu : PO X none zkn:=by
 intro pins s σ H Q I h
 rw [evalPart_none]
 exact wpAny_pure ⟨none,H,I,.none,h⟩
theorem zfw (h : PE X e te) : PO X (some e) (zow te):=by
 intro pins s σ H Q I hw
 rw [evalPart_some]
 refine thn (h pins s σ H _ I hw) fun u s1 ⟨x,H1,I1,r1,q1⟩=>?_
 obtain ⟨i,rfl,q⟩:=q1
 obtain ⟨t,rfl⟩:=r1
 exact ⟨some i,H1,I1,.int i t,q⟩
def SlR (X : Cx) (r : V -> Option Int -> Option Int -> Hp -> VK -> Prop) : Prop :=
 ∀ (pins : List (Addr × Obj)) (s : Shared) (σ : St) (H : Hp) (x : V) (v vl vu : Value) (lo hi : Option Int) (sl : Addr) (Q : VK),Inv X pins σ H s -> zaG x v -> s.heap.IsSliceOf sl vl vu .none -> IsPart vl lo -> IsPart vu hi -> r x lo hi H Q ->
   ∃ T id,typeLookup (.type T) "__getitem__" = pure (some (.builtin id)) /\ s.TypeIs v T /\ wpAny (model X.prog X.w) X.A (getItem v (.ref sl)) (EP X pins σ Q) X.xe s
theorem SlR.or {r r' : V -> Option Int -> Option Int -> Hp -> VK -> Prop} (h : SlR X r) (h' : SlR X r') : SlR X (fun x lo hi H Q=>r x lo hi H Q \/ r' x lo hi H Q):=by
 intro pins s σ H x v vl vu lo hi sl Q I rx hs pl pu q
 rcases q with q | q
 . exact h pins s σ H x v vl vu lo hi sl Q I rx hs pl pu q
 . exact h' pins s σ H x v vl vu lo hi sl Q I rx hs pl pu q
def tSl (r : V -> Option Int -> Option Int -> Hp -> VK -> Prop) (te : TE) (tl th : TO) : TE:=fun σ H Q=>te σ H fun x H1=>tl σ H1 fun l H2=>th σ H2 fun u H3=>r x l u H3 Q
theorem zev {r : V -> Option Int -> Option Int -> Hp -> VK -> Prop} (hr : SlR X r) (he : PE X e te) (hl : PO X lo tl) (hu : PO X hi th) : PE X (.Subscript e (.Slice lo hi none p2) pos) (tSl r te tl th):=by
 intro pins s σ H Q I h
 refine Subscript_ (thn (he pins s σ H _ I h) fun v s1 ⟨x,H1,I1,r1,q1⟩=>?_)
 refine wpAny_Slice (thn (hl pins s1 σ H1 _ I1 q1) fun vl s2 ⟨l,H2,I2,pl,q2⟩=>thn (hu pins s2 σ H2 _ I2 q2) fun vu s3 ⟨u,H3,I3,pu,q3⟩=>?_)
 rw [evalPart_none]
 refine wpAny_pure ?_
 have I4 : Inv X pins σ H3 { s3 with heap:=s3.heap.push { cls:=.type "slice",data:=.fields #[vl,vu,.none] } }:=I3.kept (t':=s3.toks) fun b ob q=>Heap.get?_push_of_some _ q
 obtain ⟨T,id,hT,ht,hg⟩:=hr pins { s3 with heap:=s3.heap.push { cls:=.type "slice",data:=.fields #[vl,vu,.none] } } σ H3 x v vl vu l u s3.heap.objs.size Q I4 r1 (Heap.IsSliceOf.new ..) pl pu q3
 show wpAny (model X.prog X.w) X.A (subscriptTail e (.Slice lo hi none p2) v (.ref s3.heap.objs.size)) (EP X pins σ Q) X.xe { s3 with heap:=s3.heap.push { cls:=.type "slice",data:=.fields #[vl,vu,.none] } }
 exact tail_any (ops:=[.ref s3.heap.objs.size,v]) ht hT hg (by with_unfolding_all rfl)
def zgo (xs : List V) (lo hi : Option Int) : List V:=(xs.drop (HT.sIx xs.length 0 lo)).take (HT.sIx xs.length xs.length hi - HT.sIx xs.length 0 lo)
theorem zfo (xs : List V) (lo hi : Option Int) : (zgo xs lo hi).length <= xs.length:=by
 unfold zgo
 rw [List.length_take,List.length_drop]
 lia
def zqc (K : PySem.W.Frag) : V -> Option Int -> Option Int -> Hp -> VK -> Prop:=fun x lo hi H Q=>∃ a xs,x = .ref a /\ SqT K H a xs /\
 ¬ (HT.sIx xs.length 0 lo = 0 /\ HT.sIx xs.length xs.length hi = xs.length) /\ ∀ p,H p = none -> Q (.ref p) (upd H p (.tup (zgo xs lo hi)))
theorem zoQ : SlR X (zqc X.K):=by
 intro pins s σ H x v vl vu lo hi sl Q I rx hs pl pu h
 obtain ⟨a,xs,rfl,hx,hw,q⟩:=h
 cases rx
 obtain ⟨its,r,ht,hz⟩:=I.tuple hx
 have hlen : its.toArray.size = xs.length:=by rw [List.size_toArray]; exact r.length.symm
 refine ⟨"tuple",_,PyProof.Rows.slot_tuple_getitem.lookup,ht.typeIs,?_⟩
 refine HT.getItem_tuple_cut ht hs pl pu (by rw [hlen]; exact hw) ?_ (by rw [hlen]; exact hz)
 rw [hlen]
 refine ⟨.ref s.heap.objs.size,_,I.laid (t':=s.toks) (o:=.tup (zgo xs lo hi)) (fun b ob q=>Heap.get?_push_of_some _ q) (Nat.le_refl _) ?_,rfl,q _ (I.hok.fresh (Nat.le_refl _))⟩
 exact ⟨Nat.le_trans (zfo xs lo hi) hz,_,(r.drop (HT.sIx xs.length 0 lo)).take (HT.sIx xs.length xs.length hi - HT.sIx xs.length 0 lo),IsTup.new _ _⟩
def zps (K : PySem.W.Frag) : R2:=fun x y H Q=>∃ a b ns ms,x = .ref a /\ y = .ref b /\ SqT K H a (ns.map V.int) /\ SqT K H b (ms.map V.int) /\ Q (.bl (HT.lexLt ns ms)) H
theorem zpe (hu : X.A.units < cLine) : OpR X (compareOp .Lt) (zps X.K):=by
 intro pins s σ H x y v u Q I rx ry h
 obtain ⟨a,b,ns,ms,rfl,rfl,ha,hb,q⟩:=h
 cases rx
 cases ry
 obtain ⟨its,r1,p1,_⟩:=I.tuple ha
 obtain ⟨its2,r2,p2,_⟩:=I.tuple hb
 have i1 : IntsAre its.toArray.toList ns:=zc0 r1
 have i2 : IntsAre its2.toArray.toList ms:=zc0 r2
 exact HT.lt_tupInts p1 p2 i1 i2 hu ⟨.bl (HT.lexLt ns ms),H,I,rfl,q⟩
def zov (K : PySem.W.Frag) : R2:=fun x y H Q=>∃ a b xs ys,x = .ref a /\ y = .ref b /\ SqT K H a xs /\ SqT K H b ys /\ xs ≠ [] /\ xs.length + ys.length <= sizeLine /\
 (ys = [] -> Q (.ref a) H) /\ (ys ≠ [] -> ∀ p,H p = none -> Q (.ref p) (upd H p (.tup (xs ++ ys))))
theorem zak.nil_iff {xs : List V} {us : List Value} (r : zak xs us) : us = [] ↔ xs = []:=by
 cases r with
 | nil=>simp
 | cons _ _=>simp
theorem znP : OpR X (binaryOp .Add) (zov X.K):=by
 intro pins s σ H x y v u Q I rx ry h
 obtain ⟨a,b,xs,ys,rfl,rfl,ha,hb,hx,hz,q1,q2⟩:=h
 cases rx
 cases ry
 obtain ⟨its,r1,p1,_⟩:=I.tuple ha
 obtain ⟨its2,r2,p2,_⟩:=I.tuple hb
 refine HT.cat_tup p1 p2 (fun z=>hx (r1.nil_iff.mp z)) (fun z=>⟨.ref a,H,I,rfl,q1 (r2.nil_iff.mp z)⟩) (fun z=>?_) (by rw [<- r1.length,<- r2.length]; exact hz)
 refine ⟨.ref s.heap.objs.size,_,I.laid (t':=s.toks) (o:=.tup (xs ++ ys)) (fun b ob q=>Heap.get?_push_of_some _ q) (Nat.le_refl _) ?_,rfl,q2 (fun w=>z (r2.nil_iff.mpr w)) _ (I.hok.fresh (Nat.le_refl _))⟩
 exact ⟨by rw [List.length_append]; exact hz,_,r1.append r2,IsTup.new _ _⟩
end
end L2
namespace L2
open PySem PySem.Spec PyProof.Rows
def ixN (n : Nat) (i : Int) : Option Nat:=if 0 <= i then (if i < n then some i.toNat else none) else if -(n : Int) <= i then some (i + n).toNat else none
def atI {α : Type} (xs : List α) (i : Int) : Option α:=(ixN xs.length i).bind fun j=>xs[j]?
theorem zkp {n : Nat} {i : Int} {j : Nat} (h : ixN n i = some j) : seqIndex? i n = some j /\ j < n /\ -(n : Int) <= i /\ i < n:=by
 unfold ixN at h
 by_cases h0 : 0 <= i
 . rw [if_pos h0] at h
   by_cases h1 : i < n
   . rw [if_pos h1] at h
     have e : i.toNat = j:=Option.some.inj h
     exact ⟨by rw [seqIndex_of h0 h1,e],by lia,by lia,h1⟩
   . rw [if_neg h1] at h; cases h
 . rw [if_neg h0] at h
   by_cases h1 : -(n : Int) <= i
   . rw [if_pos h1] at h
     have e : (i + n).toNat = j:=Option.some.inj h
     exact ⟨by rw [seqIndex_neg (by lia) h1,e],by lia,h1,by lia⟩
   . rw [if_neg h1] at h; cases h
theorem zhH {α : Type} {xs : List α} {i : Int} {v : α} (h : atI xs i = some v) : ∃ j,seqIndex? i xs.length = some j /\ xs[j]? = some v /\ j < xs.length /\ -(xs.length : Int) <= i /\ i < xs.length:=by
 unfold atI at h
 cases e : ixN xs.length i with
 | none=>rw [e] at h; cases h
 | some j =>
   rw [e] at h
   obtain ⟨h1,h2,h3,h4⟩:=zkp e
   exact ⟨j,h1,h,h2,h3,h4⟩
theorem zcQ {α : Type} {xs : List α} {j : Nat} {v : α} (h : xs[j]? = some v) : atI xs (j : Int) = some v:=by
 have hj : j < xs.length:=(List.getElem?_eq_some_iff.mp h).1
 have e : ixN xs.length (j : Int) = some j:=by
   unfold ixN
   rw [if_pos (by lia),if_pos (by lia)]; simp
 unfold atI; rw [e]; exact h
def zm8 (b : Expr) : Prop:=∀ o i,subscripted b false o i = operate [o,i] (getItem o i)
def IxR (X : Cx) (r : R2) : Prop :=
 ∀ (value slice : Expr) (pins : List (Addr × Obj)) (s : Shared) (σ : St) (H : Hp) (x y : V) (v u : Value) (Q : VK),Inv X pins σ H s -> zaG x v -> zaG y u -> r x y H Q ->
   subscripted slice false v u = operate [v,u] (getItem v u) -> wpAny (model X.prog X.w) X.A (subscriptTail value slice v u) (EP X pins σ Q) X.xe s
def MtR (X : Cx) (id : String) (r : V -> List V -> Hp -> VK -> Prop) : Prop :=
 ∀ (pins : List (Addr × Obj)) (s : Shared) (σ : St) (H : Hp) (x : V) (xs : List V) (v : Value) (us : List Value) (Q : VK),Inv X pins σ H s -> zaG x v -> zak xs us -> r x xs H Q ->
   wpAny (model X.prog X.w) X.A (call (.builtin id) (v :: us)) (EP X pins σ Q) X.xe s
section
variable {X : Cx} {a b : Expr} {ta tb : TE} {pos : Pos}
theorem IxR.or {r r' : R2} (h : IxR X r) (h' : IxR X r') : IxR X (fun x y H Q=>r x y H Q \/ r' x y H Q):=by
 intro value slice pins s σ H x y v u Q I rx ry q hs
 rcases q with q | q
 . exact h value slice pins s σ H x y v u Q I rx ry q hs
 . exact h' value slice pins s σ H x y v u Q I rx ry q hs
theorem zfk {r : R2} (hr : IxR X r) (ha : PE X a ta) (hb : PE X b tb) (hs : zm8 b) : PE X (.Subscript a b pos) (tOp r ta tb):=by
 intro pins s σ H Q I h
 exact Subscript_ (zoV ha hb I h fun v u s2 x y H2 I2 rx ry q=>hr a b pins s2 σ H2 x y v u Q I2 rx ry q (hs _ _))
def zqD (K : PySem.W.Frag) : R2:=fun x y H Q=>∃ p xs i v,x = .ref p /\ y = .int i /\ SqL K H p xs /\ atI xs i = some v /\ Q v H
def zqz (K : PySem.W.Frag) : R2:=fun x y H Q=>∃ p xs i v,x = .ref p /\ y = .int i /\ SqT K H p xs /\ atI xs i = some v /\ Q v H
def zqI : R2:=fun x y H Q=>∃ z i c,x = .str z /\ y = .int i /\ z.length <= sizeLine /\ atI z.cps.toList i = some c /\ Q (.str ⟨#[c]⟩) H
theorem zn3 : IxR X (zqD X.K):=by
 intro value slice pins s σ H x y v u Q I rx ry h hs
 obtain ⟨p,xs,i,z,rfl,rfl,hq,he,q⟩:=h
 cases rx
 obtain ⟨t,rfl⟩:=ry
 obtain ⟨its,r,pl,hz⟩:=I.list hq
 obtain ⟨j,h1,h2,h3,h4,h5⟩:=zhH he
 obtain ⟨w,ew,rw'⟩:=r.get h2
 have hl:=r.length
 have hn:=zef
 have fin : EP X pins σ Q w s:=⟨z,H,I,rw',q⟩
 by_cases h0 : 0 <= i
 . have hj : i.toNat = j:=by
     rw [seqIndex_of h0 h5] at h1
     exact Option.some.inj h1
   exact item_listR pl.isList h0 (by lia) (by rw [hj]; simpa using ew) fin hs
 . have hj : (i + (its.toArray.size : Int)).toNat = j:=by
     rw [seqIndex_neg (by lia) h4] at h1
     rw [List.size_toArray,<- hl]
     exact Option.some.inj h1
   exact subscriptTail_builtinR (x:=w) pl.isList.typeIs slot_list_getitem.lookup
     (wpAny_getItem_list_neg (Q:=fun r s'=>r = w /\ EP X pins σ Q r s') pl.isList (by lia) (by rw [List.size_toArray] <;> lia) (by lia) (by rw [hj]; simpa using ew) ⟨rfl,fin⟩) hs
theorem zpI : IxR X (zqz X.K):=by
 intro value slice pins s σ H x y v u Q I rx ry h hs
 obtain ⟨p,xs,i,z,rfl,rfl,hq,he,q⟩:=h
 cases rx
 obtain ⟨t,rfl⟩:=ry
 obtain ⟨its,r,pl,hz⟩:=I.tuple hq
 obtain ⟨j,h1,h2,h3,h4,h5⟩:=zhH he
 obtain ⟨w,ew,rw'⟩:=r.get h2
 have hl:=r.length
 have hn:=zef
 have fin : EP X pins σ Q w s:=⟨z,H,I,rw',q⟩
 exact subscriptTail_builtinR (x:=w) pl.typeIs slot_tuple_getitem.lookup
   (getItem_tuple (j:=j) (Q:=fun r s'=>r = w /\ EP X pins σ Q r s') pl (by lia) (by lia) (by rw [List.size_toArray,<- hl]; exact h1) (by simpa using ew) ⟨rfl,fin⟩) hs
theorem zpE : IxR X zqI:=by
 intro value slice pins s σ H x y v u Q I rx ry h hs
 obtain ⟨z,i,c,rfl,rfl,hz,he,q⟩:=h
 obtain ⟨t,rfl⟩:=rx
 obtain ⟨t',rfl⟩:=ry
 obtain ⟨j,h1,h2,h3,h4,h5⟩:=zhH he
 have hl : z.cps.toList.length = z.length:=by simp [Str.length]
 rw [hl] at h1 h4 h5
 have hn:=zef
 exact tail_any (typeIs_str s z t) slot_str_getitem.lookup (getItem_str (c:=c) (by
   have e1 : decide (i < -(2 ^ 63 : Int)) = false:=decide_eq_false (by lia)
   have e2 : decide (i ≥ 2 ^ 63) = false:=decide_eq_false (by lia)
   rw [e1,e2,Bool.or_false]) (by rw [h1]; simpa using h2) ⟨.str ⟨#[c]⟩,H,I.tok _,⟨_,rfl⟩,q⟩) hs
def rIx (K : PySem.W.Frag) : R2:=fun x y H Q=>zqD K x y H Q \/ zqz K x y H Q \/ zqI x y H Q
theorem zcq : IxR X (rIx X.K):=zn3.or (zpI.or zpE)
theorem zjc (its : List Value) (n j : Nat) (u : Value) : Obj.mapSeq (·.setIfInBounds j u) { cls:=.type "list",data:=.seq its.toArray n } = { cls:=.type "list",data:=.seq (its.set j u).toArray n }:=by
 simp [Obj.mapSeq]
theorem Inv.lst {pins : List (Addr × Obj)} {σ : St} {H : Hp} {s : Shared} {p : Addr} {xs : List V} (I : Inv X pins σ H s) (h : H p = some (.lst xs)) :
   ∃ (its : List Value) (n : Nat),zak xs its /\ s.heap.get? p = some { cls:=.type "list",data:=.seq its.toArray n } /\ xs.length <= sizeLine:=by
 obtain ⟨z,its,n,r,e⟩:=I.hok p _ h
 exact ⟨its,n,r,e,z⟩
theorem Inv.lstUpd {pins : List (Addr × Obj)} {σ : St} {H : Hp} {s : Shared} {p : Addr} {xs ys : List V} {its its' : List Value} {n n' : Nat} {f : Obj -> Obj} (I : Inv X pins σ H s) (h : H p = some (.lst xs))
   (ho : s.heap.get? p = some { cls:=.type "list",data:=.seq its.toArray n }) (hf : f { cls:=.type "list",data:=.seq its.toArray n } = { cls:=.type "list",data:=.seq its'.toArray n' }) (r : zak ys its') (hz : ys.length <= sizeLine) (t : Nat) :
   Inv X pins σ (upd H p (.lst ys)) { s with heap:=s.heap.update p f,toks:=t }:=by
 have e : (s.heap.update p f).get? p = some { cls:=.type "list",data:=.seq its'.toArray n' }:=by
   rw [Heap.get?_update_self f ho (by rw [hf] <;> rfl),hf]
 refine I.write (x:=p) (e:=p) (by rw [h]; trivial) (.inl rfl) (fun b u hb q=>(Heap.get?_update_other _ _ (Ne.symm hb)).trans q) ⟨_,e⟩ ?_
 exact ⟨hz,its',n',r,e⟩
def zox : V -> V -> V -> Hp -> (Hp -> Prop) -> Prop:=fun o i v H Q=>∃ p xs k j,o = .ref p /\ i = .int k /\ H p = some (.lst xs) /\ ixN xs.length k = some j /\ Q (upd H p (.lst (xs.set j v)))
theorem ziI : zqt X zox:=by
 intro pins s σ H o i v ov iv u Q I ro ri rv h
 obtain ⟨p,xs,k,j,rfl,rfl,hp,hj,q⟩:=h
 cases ro
 obtain ⟨t,rfl⟩:=ri
 obtain ⟨its,n,r,ho,hz⟩:=I.lst hp
 obtain ⟨h1,h2,h3,h4⟩:=zkp hj
 have hl:=r.length
 have hn:=zef
 have I' : Inv X pins σ (upd H p (.lst (xs.set j v))) { s with heap:=s.heap.update p (Obj.mapSeq (·.setIfInBounds j u)) } :=
   I.lstUpd hp ho (zjc its n j u) (r.set rv j) (by rw [List.length_set]; exact hz) s.toks
 by_cases h0 : 0 <= k
 . have hk : k.toNat = j:=by
     rw [seqIndex_of h0 h4] at h1
     exact Option.some.inj h1
   exact PySem.W.ki_setAt ho h0 (by lia) (by rw [List.size_toArray,<- hl]; exact h4) (by rw [hk]; exact ⟨_,I',q⟩)
 . have hk : (k + (its.toArray.size : Int)).toNat = j:=by
     rw [seqIndex_neg (by lia) h3] at h1
     rw [List.size_toArray,<- hl]
     exact Option.some.inj h1
   exact PySem.W.ki_setBack ho (by lia) (by rw [List.size_toArray,<- hl]; exact h3) (by lia) (by rw [hk]; exact ⟨_,I',q⟩)
theorem zhM (lo hi : Option Int) (n : Nat) : (sliceBounds lo hi none n).1 = ((HT.sIx n 0 lo : Nat) : Int) /\ (sliceBounds lo hi none n).2.1 = ((HT.sIx n n hi : Nat) : Int) /\ (sliceBounds lo hi none n).2.2 = 1:=by
 refine ⟨?_,?_,rfl⟩
 . cases lo with
   | none=>simp [sliceBounds,HT.sIx]
   | some i =>
     simp only [sliceBounds,HT.sIx,Option.getD_none,show (1 : Int) > 0 by decide,if_true]
     by_cases h : i < 0
     . simp only [h,if_true] <;> lia
     . simp only [h,if_false] <;> lia
 . cases hi with
   | none=>simp [sliceBounds,HT.sIx]
   | some i =>
     simp only [sliceBounds,HT.sIx,Option.getD_none,show (1 : Int) > 0 by decide,if_true]
     by_cases h : i < 0
     . simp only [h,if_true] <;> lia
     . simp only [h,if_false] <;> lia
theorem zgx (its : List Value) (lo hi : Option Int) : slicePick its.toArray lo hi none = ((its.drop (HT.sIx its.length 0 lo)).take (HT.sIx its.length its.length hi - HT.sIx its.length 0 lo)).toArray:=by
 obtain ⟨h1,h2,h3⟩:=zhM lo hi its.toArray.size
 unfold slicePick
 rw [h1,h2,h3]
 simp only [sliceRange_one,pick_run,List.size_toArray] <;> rfl
def zqM (K : PySem.W.Frag) : V -> Option Int -> Option Int -> Hp -> VK -> Prop:=fun x lo hi H Q=>∃ a xs,x = .ref a /\ SqL K H a xs /\ ∀ p,H p = none -> Q (.ref p) (upd H p (.lst (zgo xs lo hi)))
theorem znt : SlR X (zqM X.K):=by
 intro pins s σ H x v vl vu lo hi sl Q I rx hs pl pu h
 obtain ⟨a,xs,rfl,hx,q⟩:=h
 cases rx
 obtain ⟨its,r,ht,hz⟩:=I.list hx
 have hlen:=r.length
 refine ⟨"list",_,slot_list_getitem.lookup,ht.isList.typeIs,?_⟩
 refine wpAny_getItem_list_slice ht.isList hs pl pu .none (by simp) ?_ (by rw [List.size_toArray] <;> lia)
 rw [zgx,<- hlen]
 refine ⟨.ref s.heap.objs.size,_,I.laid (t':=s.toks) (o:=.lst (zgo xs lo hi)) (fun b ob q=>Heap.get?_push_of_some _ q) (Nat.le_refl _) ?_,rfl,q _ (I.hok.fresh (Nat.le_refl _))⟩
 exact ⟨Nat.le_trans (zfo xs lo hi) hz,_,0,(r.drop (HT.sIx xs.length 0 lo)).take (HT.sIx xs.length xs.length hi - HT.sIx xs.length 0 lo),Heap.get?_push_size _ rfl⟩
theorem zho : zah X (.builtin "len") (fun xs H Q=>∃ p ys,xs = [.ref p] /\ (SqL X.K H p ys \/ SqT X.K H p ys) /\ Q (.int ys.length) H):=by
 intro pins s σ H xs us Q I r h
 obtain ⟨p,ys,rfl,hq,q⟩:=h
 obtain ⟨u,rfl,rx⟩:=zcD r
 cases rx
 have hn:=zef
 rcases hq with hq | hq
 . obtain ⟨its,r',pl,hz⟩:=I.list hq
   have hlen:=r'.length
   exact Calls.call_len_list pl.isList (by simp only [List.size_toArray] <;> lia) ⟨.int ys.length,H,I.tok _,⟨s.toks + 1,by rw [List.size_toArray,hlen]⟩,q⟩
 . obtain ⟨its,r',pl,hz⟩:=I.tuple hq
   have hlen:=r'.length
   exact len_tuple pl (by simp only [List.size_toArray] <;> lia) ⟨.int ys.length,H,I.tok _,⟨s.toks + 1,by rw [List.size_toArray,hlen]⟩,q⟩
theorem zhC : zah X (.builtin "len") (fun xs H Q=>∃ z,xs = [.str z] /\ z.length <= sizeLine /\ Q (.int z.length) H):=by
 intro pins s σ H xs us Q I r h
 obtain ⟨z,rfl,hz,q⟩:=h
 obtain ⟨u,rfl,t,rfl⟩:=zcD r
 have hn:=zef
 exact len_str (by lia) ⟨.int z.length,H,I.tok _,⟨_,rfl⟩,q⟩
theorem zgC : zah X (.type "tuple") (fun xs H Q=>∃ p ys,xs = [.ref p] /\ ((SqL X.K H p ys /\ ∀ l,H l = none -> Q (.ref l) (upd H l (.tup ys))) \/ (SqT X.K H p ys /\ Q (.ref p) H))):=by
 intro pins s σ H xs us Q I r h
 obtain ⟨p,ys,rfl,h⟩:=h
 obtain ⟨u,rfl,rx⟩:=zcD r
 cases rx
 rcases h with ⟨hq,q⟩ | ⟨hq,q⟩
 . obtain ⟨its,r',pl,hz⟩:=I.list hq
   have hlen:=r'.length
   refine call_tuple_list pl.isList (fun h' kp=>?_) (by simp only [List.size_toArray] <;> lia)
   have I1 : Inv X pins σ H { s with heap:=h' }:=I.kept (t':=s.toks) kp
   have I2 : Inv X pins σ (upd H h'.objs.size (.tup ys)) { s with heap:=h'.push { cls:=.type "tuple",data:=.seq its.toArray } } :=
     I1.laid (t':=s.toks) (fun b o e=>Heap.get?_push_of_some _ e) (Nat.le_refl _) (show zbe X.prog X.w _ _ _ (.tup ys) from ⟨hz,its,r',IsTup.new _ _⟩)
   exact ⟨.ref h'.objs.size,_,I2,rfl,q _ (I1.hok.fresh (Nat.le_refl _))⟩
 . obtain ⟨its,r',pl,hz⟩:=I.tuple hq
   exact call_tuple_same pl ⟨.ref p,H,I,rfl,q⟩
def tyV (K : PySem.W.Frag) (T : String) (x : V) (H : Hp) : Prop:=match x with
 | .str _=>T = "str"
 | .int _=>T = "int"
 | .ref p=>(T = "list" /\ ∃ xs,SqL K H p xs) \/ (T = "tuple" /\ ∃ o,K.lookup p = some o /\ o.cls = .type "tuple" /\ o.dict = none) \/
     (T = "dict" /\ ((∃ kvs,H p = some (.dK kvs)) \/ ∃ kvs,H p = some (.dT kvs))) \/ (T = "set" /\ ∃ S n,H p = some (.set S n))
 | _=>False
theorem zpc {pins : List (Addr × Obj)} {σ : St} {H : Hp} {s : Shared} {T : String} {x : V} {v : Value} (I : Inv X pins σ H s) (r : zaG x v) (ty : tyV X.K T x H) :
   s.TypeIs v T /\ ∀ a,v = .ref a -> ∃ ob,s.heap.get? a = some ob /\ ob.dict = none:=by
 cases x with
 | str z =>
   obtain ⟨t,rfl⟩:=r
   cases (show T = "str" from ty)
   exact ⟨typeIs_str s z t,fun _ e=>nomatch e⟩
 | int i =>
   obtain ⟨t,rfl⟩:=r
   cases (show T = "int" from ty)
   exact ⟨typeIs_int s i t,fun _ e=>nomatch e⟩
 | ref p =>
   cases r
   rcases ty with ⟨rfl,xs,hq⟩ | ⟨rfl,o,hk,hc,hd⟩ | ⟨rfl,hk⟩ | ⟨rfl,S,n,hk⟩
   . obtain ⟨its,_,pl,_⟩:=I.list hq
     refine ⟨pl.isList.typeIs,fun a e=>?_⟩
     cases e
     obtain ⟨o,n,e,c,hd,_⟩:=pl
     exact ⟨o,e,hd⟩
   . refine ⟨⟨o,I.kIn p o hk,hc⟩,fun a e=>?_⟩
     cases e
     exact ⟨o,I.kIn _ o hk,hd⟩
   . have z : ∃ o,s.heap.get? p = some o /\ o.ExactDict:=by
       rcases hk with ⟨kvs,hk⟩ | ⟨kvs,hk⟩
       . obtain ⟨_,_,_,_,o,_,_,e,ex,_⟩:=I.hok p _ hk
         exact ⟨o,e,ex⟩
       . obtain ⟨_,_,_,_,o,_,_,e,ex,_⟩:=I.hok p _ hk
         exact ⟨o,e,ex⟩
     obtain ⟨o,e,ex⟩:=z
     refine ⟨⟨o,e,ex.1⟩,fun a e2=>?_⟩
     cases e2
     exact ⟨o,e,ex.2.1⟩
   . obtain ⟨o,_,_,_,e,ex,_⟩:=I.hok p _ hk
     refine ⟨⟨o,e,ex.1⟩,fun a e2=>?_⟩
     cases e2
     exact ⟨o,e,ex.2.1⟩
 | _=>exact False.elim ty
def tBM (K : PySem.W.Frag) (T : String) (r : V -> List V -> Hp -> VK -> Prop) (to : TE) (t : TA) : TE:=fun σ H Q=>to σ H fun x H1=>tyV K T x H1 /\ t σ H1 fun xs H2=>r x xs H2 Q
variable {o e : Expr} {es : List Expr} {to : TE} {t : TA} {name : Str} {apos cpos : Pos} {T id : String} {r : V -> List V -> Hp -> VK -> Prop}
theorem zc3 (pa : PlainAttrs T) (slot : Slot T name id) (hty : typeOf (.builtin id) = pure (.type "method_descriptor")) (hm : MtR X id r) (ho : PE X o to) (ha : PA X (e :: es) t)
   (hbase : attributeBase o name X.env (eval o X.env) = eval o X.env:=by rfl)
   (hfew : ((backTo cpos (starEach (e :: es) X.env)).all (fun x=>!x.1) && (backToKw cpos (keywordEach [] X.env)).all (fun x=>x.1.isSome)
     && decide ((e :: es).length + ([] : List Keyword).length + (if ([] : List Keyword).isEmpty then 0 else 1) < 30)) = true:=by rfl)
   (hline : (apos.endLine == cpos.line) = true:=by rfl) (hs : starEach (e :: es) X.env = (false,eval e X.env) :: starEach es X.env:=by rfl) (hplain : (backTo cpos (starEach es X.env)).any (·.1) = false:=by rfl) :
   PE X (.Call (.Attribute o name apos) (e :: es) [] cpos) (tBM X.K T r to t):=by
 intro pins s σ H Q I h
 refine wpAny_Call_method_late hbase hfew hline rfl (thn (ho pins s σ H _ I h) fun v s1 ⟨x,H1,I1,r1,ty,q1⟩=>?_)
 obtain ⟨h1,h2⟩:=zpc I1 r1 ty
 refine ⟨T,id,pa,slot,hty,h1,h2,?_⟩
 have hA:=ha cpos pins s1 σ H1 _ I1 q1
 rw [hs] at hA ⊢
 refine Calls.callWith_builtin (by show (false || (backTo cpos (starEach es X.env)).any (·.1)) = false; rw [hplain] <;> rfl) (Calls.evalArgs_plain ?_)
 exact thn hA fun us s2 ⟨vs,H2,I2,r2,q2⟩=>hm pins s2 σ H2 x vs v us Q I2 r1 r2 q2
/- xs.append(e),list.index on a module's tuple .. are MtR facts of 06m -/
end
end L2
namespace L2
open PySem PySem.Spec PyProof.Rows
def MtM (X : Cx) (id : String) (r : V -> List V -> Hp -> VK -> Prop) : Prop :=
 ∀ (pins : List (Addr × Obj)) (s : Shared) (σ : St) (H : Hp) (x : V) (xs : List V) (v : Value) (us : List Value) (Q : VK),Inv X pins σ H s -> zaG x v -> zak xs us -> r x xs H Q ->
   wpAny (model X.prog X.w) X.A (call (.builtin id) (v :: us)) (EP X pins σ Q) X.xe s
theorem zak.one : ∀ {x : V} {us : List Value},zak [x] us -> ∃ u,us = [u] /\ zaG x u
 | _,_,.cons r .nil=>⟨_,rfl,r⟩
theorem zak.eraseIdx : ∀ {xs : List V} {us : List Value} (i : Nat),zak xs us -> zak (xs.eraseIdx i) (us.eraseIdx i)
 | _,_,_,.nil=>.nil
 | _,_,0,.cons _ t=>t
 | _,_,i + 1,.cons r t=>.cons r (zak.eraseIdx i t)
theorem zak.rep {xs : List V} {us : List Value} (h : zak xs us) : ∀ k : Nat,zak (List.replicate k xs).flatten (List.replicate k us).flatten
 | 0=>.nil
 | k + 1=>by
   rw [List.replicate_succ,List.replicate_succ,List.flatten_cons,List.flatten_cons]
   exact zak.append h (zak.rep h k)
theorem zg0 {α : Type} : ∀ (l : List α) (i : Nat),(l.eraseIdx i).length <= l.length
 | [],_=>Nat.le_refl _
 | _ :: _,0=>Nat.le_succ _
 | _ :: r,i + 1=>Nat.succ_le_succ (zg0 r i)
theorem zgP (its : List Value) : ∀ (k : Nat) (acc : List Value),
   List.foldl (fun x1 x2=>x1 ++ x2) acc.toArray (List.replicate k its.toArray) = (acc ++ (List.replicate k its).flatten).toArray
 | 0,acc=>by simp
 | k + 1,acc=>by
   have e : acc.toArray ++ its.toArray = (acc ++ its).toArray:=by simp
   have e2 : (acc ++ its) ++ (List.replicate k its).flatten = acc ++ (List.replicate (k + 1) its).flatten:=by
     rw [List.replicate_succ,List.flatten_cons,List.append_assoc]
   rw [<- e2,<- zgP its k (acc ++ its),<- e,List.replicate_succ,List.foldl_cons]
section
variable {X : Cx} {pins : List (Addr × Obj)} {σ : St} {H : Hp} {s : Shared} {l b : Addr} {xs ys zs : List V}
theorem Inv.lset {its its' : List Value} {n : Nat} {f : Array Value -> Array Value} {t' : Nat} (I : Inv X pins σ H s) (hH : H l = some (.lst xs))
   (e : s.heap.get? l = some { cls:=.type "list",data:=.seq its.toArray n }) (hf : f its.toArray = its'.toArray) (hv : zak ys its') (hz : ys.length <= sizeLine) :
   Inv X pins σ (upd H l (.lst ys)) { s with heap:=s.heap.update l (Obj.mapSeq f),toks:=t' }:=by
 have q:=PySem.IsL.update e f
 rw [hf] at q
 refine I.write (x:=l) (e:=l) (by rw [hH]; exact trivial) (.inl rfl) (fun b' u hb hu=>(Heap.get?_update_other s.heap (Obj.mapSeq f) (Ne.symm hb)).trans hu) ⟨_,q⟩ ?_
 exact ⟨hz,its',_,hv,q⟩
theorem Inv.lnew {its : List Value} {t' : Nat} (I : Inv X pins σ H s) (hv : zak ys its) (hz : ys.length <= sizeLine) :
   Inv X pins σ (upd H s.heap.objs.size (.lst ys)) { s with heap:=s.heap.push { cls:=.type "list",data:=.seq its.toArray },toks:=t' } :=
 I.laid (fun _ _ q=>Heap.get?_push_of_some _ q) (Nat.le_refl _) ⟨hz,its,0,hv,Heap.get?_push_size _ rfl⟩
theorem Inv.fresh (I : Inv X pins σ H s) : H s.heap.objs.size = none:=I.hok.fresh (Nat.le_refl _)
theorem Inv.lstM (I : Inv X pins σ H s) (hH : H l = some (.lst xs)) : xs.length <= sizeLine /\ ∃ (its : List Value) (n : Nat),zak xs its /\ xs.length = its.length /\ s.heap.get? l = some { cls:=.type "list",data:=.seq its.toArray n }:=by
 obtain ⟨z,its,n,r,e⟩:=I.hok l _ hH
 exact ⟨z,its,n,r,r.length,e⟩
theorem zm2 {n : Nat} (h : n <= sizeLine) : Builtin.List.listTooLong n = false:=by
 unfold Builtin.List.listTooLong
 exact decide_eq_false (by lia)
end
section
variable {X : Cx}
def zkj : V -> List V -> Hp -> VK -> Prop:=fun x vs H Q=>∃ l xs y,x = .ref l /\ vs = [y] /\ H l = some (.lst xs) /\ xs.length < sizeLine /\ Q .non (upd H l (.lst (xs ++ [y])))
theorem zcB : MtM X "list.append" zkj:=by
 intro pins s σ H x vs v us Q I rx rv h
 obtain ⟨l,xs,y,rfl,rfl,hH,hz,q⟩:=h
 cases rx
 obtain ⟨u,rfl,ru⟩:=rv.one
 obtain ⟨z,its,n,r,hl,e⟩:=I.lstM hH
 refine call_meets F.slot_list_append ⟨_,e,rfl⟩ F.entry_list_append (F.args_list_append_2 _ _) (PySem.list_append l its.toArray n u (by rw [List.size_toArray]; lia)) ⟨e,?_⟩
 refine ⟨.non,_,I.lset (its':=its ++ [u]) hH e (by simp) (r.append (.cons ru .nil)) ?_,rfl,q⟩
 rw [List.length_append,List.length_singleton]
 lia
def zms : V -> List V -> Hp -> VK -> Prop:=fun x vs H Q=>∃ l xs i k y,x = .ref l /\ vs = [.int i] /\ H l = some (.lst xs) /\ -(2 ^ 63) <= i /\ i < 2 ^ 63 /\ seqIndex? i xs.length = some k /\ xs[k]? = some y /\ Q y (upd H l (.lst (xs.eraseIdx k)))
theorem zm7 : MtM X "list.pop" zms:=by
 intro pins s σ H x vs v us Q I rx rv h
 obtain ⟨l,xs,i,k,y,rfl,rfl,hH,h1,h2,hk,hy,q⟩:=h
 cases rx
 obtain ⟨u,rfl,ru⟩:=rv.one
 obtain ⟨t,rfl⟩:=ru
 obtain ⟨z,its,n,r,hl,e⟩:=I.lstM hH
 obtain ⟨w,hw,rw'⟩:=r.get hy
 refine call_meets F.slot_list_pop ⟨_,e,rfl⟩ F.entry_list_pop (F.args_list_pop_2 _ _)
   (MeetsSeq.list_pop_at l its.toArray n i t k w (fitsIndex_both h1 h2) (by rw [List.size_toArray,<- hl]; exact hk) (by rw [<- Array.getElem?_toList]; exact hw) (by rw [List.size_toArray]; lia)) ⟨e,?_⟩
 refine ⟨y,_,I.lset (its':=its.eraseIdx k) hH e ?_ (r.eraseIdx k) ?_,rw',q⟩
 . show its.toArray.eraseIdxIfInBounds k = (its.eraseIdx k).toArray
   rw [List.eraseIdxIfInBounds_toArray]
 . have:=zg0 xs k
   lia
def zpR : R2:=fun x y H Q=>∃ l b xs zs,x = .ref l /\ y = .ref b /\ H l = some (.lst xs) /\ H b = some (.lst zs) /\ xs.length + zs.length <= sizeLine /\ ∀ p,H p = none -> Q (.ref p) (upd H p (.lst (xs ++ zs)))
theorem zpp : OpR X (binaryOp .Add) zpR:=by
 intro pins s σ H x y v u Q I rx ry h
 obtain ⟨l,b,xs,zs,rfl,rfl,hH,hB,hz,q⟩:=h
 cases rx
 cases ry
 obtain ⟨z,its,n,r,hl,e⟩:=I.lstM hH
 obtain ⟨z2,its2,n2,r2,hl2,e2⟩:=I.lstM hB
 refine PySem.P.add_list e e2 ?_ (by rw [List.size_toArray,List.size_toArray]; lia)
 have ea : its.toArray ++ its2.toArray = (its ++ its2).toArray:=by simp
 rw [ea]
 exact ⟨.ref _,_,I.lnew (t':=s.toks) (r.append r2) (by rw [List.length_append]; lia),rfl,q _ I.fresh⟩
def znR : R2:=fun x y H Q=>∃ l k xs,x = .ref l /\ y = .int k /\ H l = some (.lst xs) /\ -(2 ^ 63) <= k /\ k < 2 ^ 63 /\ xs.length * k.toNat <= sizeLine /\
 ∀ p,H p = none -> Q (.ref p) (upd H p (.lst (List.replicate k.toNat xs).flatten))
theorem znG {α : Type} (xs : List α) (k : Nat) : (List.replicate k xs).flatten.length = k * xs.length:=by
 induction k with
 | zero=>simp
 | succ k ih=>rw [List.replicate_succ,List.flatten_cons,List.length_append,ih,Nat.succ_mul,Nat.add_comm]
theorem zlB : OpR X (binaryOp .Mult) znR:=by
 intro pins s σ H x y v u Q I rx ry h
 obtain ⟨l,k,xs,rfl,rfl,hH,h1,h2,hz,q⟩:=h
 cases rx
 obtain ⟨t,rfl⟩:=ry
 obtain ⟨z,its,n,r,hl,e⟩:=I.lstM hH
 have hlen : its.toArray.size * k.toNat <= sizeLine:=by rw [List.size_toArray,<- hl]; exact hz
 have hcap : ¬ its.toArray.size * k.toNat > (2 ^ 63 - 1) / 8:=by
   have : (sizeLine : Nat) <= (2 ^ 63 - 1) / 8:=by decide
   lia
 have hfit : ¬ (!Builtin.List.listFitsIndex k) = true:=by
   rw [fitsIndex_both h1 h2]
   exact Bool.false_ne_true
 have hlong : ¬ Builtin.List.listTooLong (its.toArray.size * k.toNat) = true:=by
   rw [zm2 hlen]
   exact Bool.false_ne_true
 have hnew : List.foldl (fun x1 x2=>x1 ++ x2) #[] (List.replicate (if its.toArray.isEmpty = true then 0 else k.toNat) its.toArray) = (List.replicate k.toNat its).flatten.toArray:=by
   have f0 : ∀ m : Nat,List.foldl (fun x1 x2=>x1 ++ x2) #[] (List.replicate m its.toArray) = (List.replicate m its).flatten.toArray:=fun m=>by
     have:=zgP its m []
     rw [List.nil_append] at this
     exact this
   rw [f0]
   cases its with
   | nil=>simp
   | cons a r'=>rw [if_neg (by simp)]
 refine wpAny_binaryOp_repeat_ref (T:="list") (U:="int") (by decide) ⟨_,e,rfl⟩ (fun s'=>typeIs_int s' k t) noFill_list_mul F.fills_int_mul F.slot_int_rmul repeat_list F.slot_int_index.lookup
   (call_meets F.slot_int_rmul (typeIs_int s k t) F.entry_int_rmul (F.args_int_rmul_2 _ _) (int___rmul___int_list k t l its.toArray n)
     ⟨e,rfl,⟨_,e,rfl⟩,call_meets F.slot_list_mul ⟨_,e,rfl⟩ F.entry_list_mul (F.args_list_mul_2 _ _) (AutoListH.list___mul___list_int_3 l its.toArray n k t hfit hcap hlong) ⟨e,?_⟩⟩)
 rw [hnew]
 exact ⟨.ref _,_,I.lnew (t':=s.toks) (r.rep k.toNat) (by rw [znG,Nat.mul_comm]; exact hz),rfl,q _ I.fresh⟩
end
section
variable {prog : Program} {w : World} {A : Around} {E : Value -> Shared -> Prop} {s : Shared}
end
section
variable {X : Cx}
end
end L2
namespace Att
open PySem PySem.W PySem.Calls PyProof.Rows
theorem zfq {P : Params} {h : Heap} : ∀ (ns : List Int) (vs : List Value),WellAll P h vs (ns.map WData.int) -> IntsAre vs ns:=by
 intro ns
 induction ns with
 | nil =>
   intro vs w
   rw [List.map_nil] at w
   cases w
   exact .nil
 | cons n ns ih =>
   intro vs w
   rw [List.map_cons] at w
   cases w with
   | cons a b =>
     cases a
     exact .cons _ _ (ih _ b)
theorem zk1 {l : OpenLaw} {n : Nat} (hn : l.most = some n) {P : Params} {h : Heap} {args : List WData} {vals : List Value}
   (hpre : l.row.toRowW.claim.pre args = true) (hwl : WellAll P h vals args) :
   ∃ a vs ns,vals = [Value.ref a] /\ args = [WData.list (ns.map WData.int)] /\ h.get? a = some { cls:=.type "list",data:=.seq vs.toArray } /\ IntsAre vs ns /\ ns.length <= n:=by
 have hsh : WShape.hasAll [] args [.list .int] = true:=(pre_splitW hpre).1
 have hc : l.pre.holds [] { args:=args } = true:=(pre_splitW hpre).2
 obtain ⟨d,r,rfl,h1,h2⟩:=hasAllW_cons hsh
 obtain rfl:=hasAllW_nil h2
 obtain ⟨xs,rfl,h3⟩:=hasW_list h1
 obtain ⟨ns,rfl⟩:=items_int h3
 have hlen : ns.length <= n:=by
   unfold OpenLaw.pre at hc
   have h4 : (WTm.not (.lt (.lit (.int (n : Int))) (.len (.arg 0)))).holds [] { args:=[.list (ns.map .int)] } = true:=by
     have h4:=(holds_andW hc).1
     rw [hn] at h4
     exact h4
   have h5:=condW_of h4 (w_not (w_lt w_lit (w_len_list (w_arg rfl))))
   rw [List.length_map] at h5
   refine Nat.le_of_not_lt fun q=>?_
   have q' : (n : Int) < ((ns.length : Nat) : Int):=by lia
   first
     | (rw [decide_eq_true q'] at h5; exact absurd h5 (by decide))
     | (simp at h5; lia)
 cases hwl with
 | cons w1 w2 =>
   cases w2
   cases w1 with
   | list ho hall=>exact ⟨_,_,ns,rfl,rfl,ho,zfq ns _ hall,hlen⟩
theorem zkC (l : OpenLaw) (args : List WData) : l.row.toRowW.claim.post args (.bool true) args = true :=
 postW_of (r:=l.row.toRowW) (X:=(true == true))
   (show WShape.has [] (.bool true) .bool = true by first | rfl | decide | simp [WShape.has,WShape.arms,WShape.armsAll])
   (show (WTm.eq .res (.lit (.bool true))).value [] { args:=args,res:=some (.bool true),after:=args } = some (.bool (true == true)) from w_eq_bool (w_res rfl) w_lit) rfl
theorem attach_call {l : OpenLaw} {n : Nat} {q : Program} {loose : List Str} {XP : (Str -> Option Value) -> Heap -> Prop} {YP : World -> Heap -> Prop} {d : DefRec}
   (hn : l.most = some n) (hdf : d.params.defaults = [])
   (call : ∀ (w : World) (s₀ s₁ : Shared) (mg mb : Str -> Option Value) (fa : Addr) (o : Obj) (pm cd doc : Value) (a : Addr) (vs : List Value) (ns : List Int),
     Ground q loose [] XP w s₀ mg mb s₁.heap -> YP w s₁.heap ->
     s₁.heap.get? fa = some o -> o.data = .func (docDef d.name d.params d.body d.scope pm cd doc) -> s₁.heap.CodeRec cd d.name -> mg d.name = some (.ref fa) ->
     s₁.heap.get? a = some { cls:=.type "list",data:=.seq vs.toArray } -> IntsAre vs ns -> ns.length <= n -> s₁.gens = #[] ->
     codeAny (model l.prog w) callerA (.call (.ref fa) ⟨[.ref a],[]⟩) (fun r s'=>r = .ok (.ret (.bool true)) /\ OldK s₁.heap s'.heap /\ s'.os = s₁.os /\ AllBare s'.gens) s₁) :
   WalkO q loose XP YP l.row.toRowW d [] (fun f vs=>PySem.call f vs):=by
 intro w s₀ s₁ mg mb G Y fa o pm cd doc dV kV ho hd hcd hD hmg hg args vals as hpre hlay hrd hwl hlo
 obtain rfl : dV = .none:=Dflts.none hD hdf
 obtain rfl : kV = .none:=Dflts.noKw hD
 obtain ⟨a,vs,ns,rfl,rfl,hobj,hints,hlen⟩:=zk1 hn hpre hwl
 refine enter_call (codeAny_mono (call w s₀ s₁ mg mb fa o pm cd doc a vs ns G Y ho (fd_plain hd) hcd hmg hobj hints hlen hg) fun r s' hq=>?_)
 obtain ⟨rfl,h2,h3,h4⟩:=hq
 exact ⟨.inl ⟨.bool true,.bool true,[],rfl,fun _=>rfl,.bool true,zkC l _,fun _=>⟨List.Pairwise.nil,fun _ hm=>(nomatch hm)⟩⟩,h2,h3,h4⟩
section
variable {prog : Program} {w : World} {A : Around} {E : Value -> Shared -> Prop} {s : Shared} {K : Frag}
def zq5 (h : Heap) (L d : Addr) : List (Addr × Obj):=(List.range h.objs.size).filterMap fun a=>if a = L \/ a = d then none else (h.get? a).map fun o=>(a,o)
end
end Att
namespace L2
open PySem PySem.Spec PyProof.Rows
theorem zgQ : ∀ {vs : List Value} {ns : List Int},IntsAre vs ns -> zak (ns.map V.int) vs
 | _,_,.nil=>.nil
 | _,_,.cons n t h=>.cons ⟨t,rfl⟩ (zgQ h)
def znc (H : Hp) : Prop:=∀ b,H b = none \/ ∃ o xs,H b = some (.frz o (.lst xs))
theorem zme {P : Program} {w : World} {K : PySem.W.Frag} {mg mb : Str -> Option Value} {CX : CXT} {k : Nat} {fa a : Addr} {fd : FuncData} {x : Str} {sp : Sp} {s₁ : Shared} {vs : List Value} {ns : List Int}
   (KX : K.In s₁.heap) (hns : s₁.heap.Ns mainGlobals mg) (hb : s₁.heap.Ns builtinsNs mb) (hbb : ∀ x : Str,x ≠ "__name__" -> mb x = bootBuiltins x) (hlim : s₁.heap.NoLimit) (hg : s₁.gens = #[])
   (ha : s₁.heap.get? a = some { cls:=.type "list",data:=.seq vs.toArray }) (hi : IntsAre vs ns) (hl : ns.length <= sizeLine) (hr : zct k callerA)
   (F : ∀ base : Heap,K.In base -> base.Ns mainGlobals mg -> za5 P w K mg base CX k fa fd [x] sp) (hbind : ∀ (s : Shared) (u : Value),BindsTo s fd ⟨[u],[]⟩ [(x,u)])
   (hsp : ∀ H : Hp,znc H -> SqL K H a (ns.map V.int) -> sp [.ref a] H (fun v _=>v = .bl true) fun _ _ _=>False)
   (hCX : ∀ H e s',CX [] H s₁ (fun _ _ _=>False) e s' -> False) :
   codeAny (model P w) callerA (.call (.ref fa) ⟨[.ref a],[]⟩) (fun r s'=>r = .ok (.ret (.bool true)) /\ OldK s₁.heap s'.heap /\ s'.os = s₁.os /\ AllBare s'.gens) s₁:=by
 have rv:=zgQ hi
 have lenV:=hi.length
 -- from an abstract heap in which nothing but the script may be tracked
 have core : ∀ H : Hp,znc H -> SqL K H a (ns.map V.int) -> HOk P w H s₁.heap -> (∀ b,H b ≠ none -> b = a) -> (H a ≠ none -> K.lookup a = none) ->
     codeAny (model P w) callerA (.call (.ref fa) ⟨[.ref a],[]⟩) (fun r s'=>r = .ok (.ret (.bool true)) /\ OldK s₁.heap s'.heap /\ s'.os = s₁.os /\ AllBare s'.gens) s₁:=by
   intro H hO hS hok hA hK
   have base_of : ∀ {b : Addr} {o : Obj},s₁.heap.get? b = some o -> H b = none -> (zh0 s₁.heap H).get? b = some o:=fun e n=>zlJ e n
   have noA : ∀ {b : Addr} {o : Obj} {es : Array DictEntry} {ep : Nat},s₁.heap.get? b = some o -> o.data = .dict es ep -> H b = none:=fun {b o es ep} e d=>by
     cases q : H b with
     | none=>rfl
     | some u =>
       have e' : b = a:=hA b (by rw [q]; simp)
       subst e'
       rw [ha] at e; cases e
       have d' : Data.seq vs.toArray _ = Data.dict es ep:=d
       cases d'
   have nsK : ∀ {b : Addr} {m : Str -> Option Value},s₁.heap.Ns b m -> (zh0 s₁.heap H).Ns b m:=fun {b m} ⟨o,es,ep,e,d,r⟩=>⟨o,es,ep,base_of e (noA e d),d,r⟩
   have hKb : K.In (zh0 s₁.heap H):=fun b o e=>base_of (KX b o e) (by
     cases q : H b with
     | none=>rfl
     | some u =>
       have e' : b = a:=hA b (by rw [q]; simp)
       subst e'
       rw [hK (by rw [q]; simp)] at e; cases e)
   have hM : Mod K mg (zh0 s₁.heap H):=⟨hKb,nsK hns,⟨mb,nsK hb,hbb⟩,let ⟨mc,h1,h2⟩:=hlim; ⟨mc,nsK h1,h2⟩⟩
   have e0 : zmF P w K mg (zh0 s₁.heap H) callerA [] s₁ H:=⟨rfl,hM,fun b o e=>zoc e,Nat.le_of_eq (zk4 _ _),trivial,fun b hb=>absurd (show b ∈ ([] : List Addr) from hb) (by simp),hok,.of_eq hg⟩
   refine codeAny_mono ((F _ hKb (nsK hns)).run callerA [] s₁ H ⟨[.ref a],[]⟩ [.ref a] [.ref a] _ _ hr e0 (hbind s₁ (.ref a)) (.cons rfl .nil) (hsp H hO hS)) fun r s' h=>?_
   cases r with
   | error e=>exact (hCX H e s' h).elim
   | ok fl =>
     cases fl with
     | next=>exact False.elim h
     | brk=>exact False.elim h
     | cont=>exact False.elim h
     | ret u =>
       obtain ⟨v,H',os,bare,un,hok',r',q⟩:=h
       have q' : v = .bl true:=q
       subst q'
       obtain rfl : u = Value.bool true:=r'
       refine ⟨rfl,OldK.of_keep fun b o e=>?_,os,bare⟩
       cases q : H b with
       | none=>exact un.keep b o e q (by intro z; exact absurd (show b ∈ ([] : List Addr) from z) (by simp)) (by simp)
       | some u =>
         rcases hO b with z | ⟨ob,xs,z⟩
         . rw [q] at z; cases z
         . have z2:=un.frzs b ob _ z
           obtain ⟨e1,_⟩:=hok b _ z
           obtain ⟨e2,_⟩:=hok' b _ z2
           rw [e] at e1; cases e1
           exact e2
 cases hk : K.lookup a with
 | some o =>
   -- the script is one of the module's own objects
   have e:=KX a o hk
   rw [ha] at e
   cases e
   refine core (fun _=>none) (fun _=>.inl rfl) (.inr ⟨_,vs.toArray,_,hk,rfl,rfl,rfl,by rw [List.size_toArray,lenV]; exact hl,by simpa using rv⟩) (fun b u z=>by have z' : (none : Option HO) = some u:=z; cases z') (fun b z=>absurd rfl z) fun z=>absurd rfl z
 | none =>
   refine core (fun b=>if b = a then some (.frz { cls:=.type "list",data:=.seq vs.toArray } (.lst (ns.map V.int))) else none) (fun b=>?_) (.inl (.inr ⟨{ cls:=.type "list",data:=.seq vs.toArray },if_pos rfl⟩)) (fun b u z=>?_) (fun b z=>?_) fun _=>hk
   . by_cases hb : b = a
     . exact .inr ⟨_,_,if_pos hb⟩
     . exact .inl (if_neg hb)
   . by_cases hb : b = a
     . have z':=(if_pos hb).symm.trans z
       cases z'
       subst hb
       exact ⟨ha,by rw [List.length_map]; exact hl,vs,_,rv,ha⟩
     . have z':=(if_neg hb).symm.trans z
       cases z'
   . by_cases hb : b = a
     . exact hb
     . exact absurd (if_neg hb) z
end L2
namespace L2
open PySem PySem.Spec PyProof.Rows
abbrev KOf {K : PySem.W.Frag} {h : Heap} (_ : K.In h) : PySem.W.Frag:=K
theorem walk_of {l : PySem.W.OpenLaw} {n k : Nat} {q : Program} {loose : List Str} {XP : (Str -> Option Value) -> Heap -> Prop} {YP : World -> Heap -> Prop} {d : DefRec} {K : Params -> PySem.W.Frag} {CX : World -> CXT} {sp : World -> Sp} {x : Str}
   (hn : l.most = some n) (hn2 : n <= sizeLine) (hdf : d.params.defaults = []) (hr : zct k callerA)
   (hY : ∀ (w : World) (h : Heap),YP w h -> (K w.params).In h)
   (F : ∀ (w : World) (mg : Str -> Option Value) (fa : Addr) (h : Heap),(K w.params).In h -> h.Ns mainGlobals mg -> mg d.name = some (.ref fa) ->
     ∃ fd : FuncData,(∀ (s : Shared) (u : Value),BindsTo s fd ⟨[u],[]⟩ [(x,u)]) /\
       ∀ base : Heap,(K w.params).In base -> base.Ns mainGlobals mg -> za5 l.prog w (K w.params) mg base (CX w) k fa fd [x] (sp w))
   (hsp : ∀ (w : World) (H : Hp) (a : Addr) (ns : List Int),ns.length <= n -> znc H -> SqL (K w.params) H a (ns.map V.int) -> sp w [.ref a] H (fun v _=>v = .bl true) fun _ _ _=>False)
   (hCX : ∀ (w : World) (H : Hp) (s : Shared) (e : Value) (s' : Shared),CX w [] H s (fun _ _ _=>False) e s' -> False) :
   PySem.W.WalkO q loose XP YP l.row.toRowW d [] (fun f vs=>PySem.call f vs):=by
 refine Att.attach_call hn hdf fun w s₀ s₁ mg mb fa o pm cd doc a vs ns G Y ho hd hcd hmg hobj hints hlen hg=>?_
 have KX:=hY w _ Y
 obtain ⟨fd,hb,hF⟩:=F w mg fa _ KX G.T.g hmg
 exact zme KX G.T.g G.T.b G.T.builtins G.T.nolimit hg hobj hints (Nat.le_trans hlen hn2) hr hF hb (fun H hO hS=>hsp w H a ns hlen hO hS) fun H e s'=>hCX w H s₁ e s'
end L2
namespace L2
open PySem PySem.Spec PyProof.Rows
def zdz (s : Stmt) : Arguments:=match s with
 | .FunctionDef _ a _ _ _ _ _ _ _ _=>a
 | _=>{ posonlyargs:=[],args:=[],vararg:=none,kwonlyargs:=[],kw_defaults:=[],kwarg:=none,defaults:=[] }
def zch (s : Stmt) : List Stmt:=match s with
 | .FunctionDef _ _ b _ _ _ _ _ _ _=>b
 | _=>[]
def zac (s : Stmt) : Scope:=match s with
 | .FunctionDef _ _ _ _ _ _ sc _ _ _=>sc
 | _=>{ kind:=.function,names:=[],isGenerator:=false,isCoroutine:=false }
abbrev CX0 : CXT:=fun _ _ _ _ _ _=>False
abbrev E0 : XK:=fun _ _ _=>False
theorem zqS {X : Cx} : zeX CX0 X E0:=fun _ _ _ _ _ _ _ h=>h.elim
structure Fun (K : PySem.W.Frag) (x qual : Str) (st : Stmt) (f : Addr) (fd : FuncData) : Prop where
 ex : ∃ (oc : Value) (od : Option Addr) (kV doc pm : Value) (an : Option Addr) (cdv ct : Value) (osl : Array (Option Value)),
   fd = PySem.W.fnOf x qual (zdz st) (zch st) (zac st) .none kV doc pm an cdv ct /\ K.lookup f = some ⟨oc,od,.func fd,osl⟩ /\ PySem.W.codeIn K cdv qual = true
 kp : PySem.W.keepIn K (.ref f) = true
section
variable {P : Program} {w : World} {K : PySem.W.Frag} {mg : Str -> Option Value} {base : Heap}
theorem Fun.ok {x qual : Str} {st : Stmt} {f : Addr} {fd : FuncData} {N ps : List Str} {k : Nat} {sp : Sp} (F : Fun K x qual st f fd) (S : zan N ps (zac st)) (len : ∀ vs H Q E,sp vs H Q E -> vs.length = ps.length)
   (hbody : ∀ (cdv : Value) (A : Around) (outer : List Env) (s : Shared) (H : Hp) (vs : List V) (Q : VK) (E : XK),zct k (A.deeper (envOfC qual (zac st) s.heap.objs.size f cdv)) -> sp vs H Q E ->
     ∃ t,PSs (zgd CX0 P w K mg base N qual (zac st) f cdv A outer s H E).nox (zch st) t /\ t { nx:=fun _ H'=>Q .non H',rt:=Q } (start N vs) H) : za5 P w K mg base CX0 (k + 1) f fd ps sp:=by
 obtain ⟨oc,od,kV,doc,pm,an,cdv,ct,osl,rfl,lk,hcd⟩:=F.ex
 refine zoB lk hcd S len fun A outer s H vs Q E hr hsp=>?_
 obtain ⟨t,h,q⟩:=hbody cdv A outer s H vs Q E hr hsp
 exact ⟨t,h.nox,q⟩
theorem Fun.binds {x qual : Str} {st : Stmt} {f : Addr} {fd : FuncData} {ps : List Str} (F : Fun K x qual st f fd)
   (h : ∀ (kV doc pm : Value) (an : Option Addr) (cdv ct : Value) (us : List Value),us.length = ps.length -> bindArgs (PySem.W.fnOf x qual (zdz st) (zch st) (zac st) .none kV doc pm an cdv ct) ⟨us,[]⟩ = pure (ps.zip us)) : zhg K fd ps []:=by
 obtain ⟨oc,od,kV,doc,pm,an,cdv,ct,osl,rfl,lk,hcd⟩:=F.ex
 exact .all (h kV doc pm an cdv ct)
theorem zmv {x qual : Str} {st : Stmt} {f : Addr} {oc : Value} {od an : Option Addr} {osl : Array (Option Value)} {kV doc pm cdv ct : Value} (l : K.lookup f = some ⟨oc,od,.func (PySem.W.fnOf x qual (zdz st) (zch st) (zac st) .none kV doc pm an cdv ct),osl⟩)
   (c : PySem.W.codeIn K cdv qual = true) (k : PySem.W.keepIn K (.ref f) = true) : Fun K x qual st f (PySem.W.fnOf x qual (zdz st) (zch st) (zac st) .none kV doc pm an cdv ct):=⟨⟨oc,od,kV,doc,pm,an,cdv,ct,osl,rfl,l,c⟩,k⟩
end
theorem zbC {n : Nat} (h : n <= 1000) : n < sizeLine:=Nat.lt_of_le_of_lt h (by decide)
section
variable {X : Cx}
theorem pv (i : Nat) {x : Str} {pos : Pos} (hN : X.N[i]? = some x:=by rfl) (hv : Vis X.env.scope x:=by first | exact Or.inl rfl | exact Or.inr (Or.inl rfl) | exact Or.inr (Or.inr rfl)) (hd : (x == ("__debug__" : Str)) = false:=by decide)
   (hcd : (x == ("__classdict__" : Str)) = false:=by decide) : PE X (.Name x pos) (zgv i):=zpv hN hv hd hcd
end
theorem zpx {A B : Prop} (h : B) : if false = true then A else B:=by
 rw [if_neg Bool.false_ne_true]
 exact h
theorem znV {A B : Prop} (h : A) : if true = true then A else B:=by
 rw [if_pos rfl]
 exact h
def zad (H H' : Hp) : Prop:=∀ b o,H b = some o -> H' b = some o
theorem zad.refl (H : Hp) : zad H H:=fun _ _ h=>h
theorem zad.trans {H H1 H2 : Hp} (a : zad H H1) (b : zad H1 H2) : zad H H2:=fun c o h=>b c o (a c o h)
theorem zad.seq {K : PySem.W.Frag} {H H' : Hp} {a : Addr} {xs : List V} (e : zad H H') (h : SqL K H a xs) : SqL K H' a xs:=by
 rcases h with (h | ⟨o,h⟩) | h
 . exact .inl (.inl (e _ _ h))
 . exact .inl (.inr ⟨o,e _ _ h⟩)
 . exact .inr h
end L2
namespace GM
structure Bd (n : Nat) (x : Int) : Prop where
 lt : x.natAbs < 2 ^ n
theorem Bd.mono {m n : Nat} {x : Int} (h : Bd m x) (e : m <= n) : Bd n x:=⟨Nat.lt_of_lt_of_le h.lt (Nat.pow_le_pow_right (by decide) e)⟩
theorem Bd.log {n : Nat} {x : Int} (h : Bd n x) (hn : 0 < n) : x.natAbs.log2 < n:=by
 by_cases e : x.natAbs = 0
 . rw [e]; exact hn
 . exact (Nat.log2_lt e).mpr h.lt
structure Bdr (n : Nat) (x : Rat) : Prop where
 t : Bd n x.num
 b : Bd n (x.den : Int)
theorem Bd.of128 {m : Int} (h1 : -100000000000000000000000000000000000000 <= m) (h2 : m <= 100000000000000000000000000000000000000) : Bd 128 m:=⟨by
 have e : (2 : Nat) ^ 128 = 340282366920938463463374607431768211456:=by decide
 rw [e]
 lia⟩
def shf (a b : Rat) : Nat -> Rat
 | 0=>0
 | n + 1=>a * shf a b n + b
def push (a b : Rat) : Nat -> Rat -> Rat
 | 0,x=>x
 | n + 1,x=>a * push a b n x + b
end GM
namespace GM
end GM
namespace GM
def znq (a b : Rat) (n : Nat) (xs : List Rat) (i : Nat) : List Rat:=(xs.map fun x=>push a b n (x + (1 - xs.getD i 0))).set i 0
def zju (a b : Rat) (ns : List Int) (xs : List Rat) : Nat -> List Rat
 | 0=>xs
 | k + 1=>znq a b (ns.getD k 0).toNat (zju a b ns xs k) k
def zqm (a b : Rat) (n : Nat) (xs : List Rat) : List Rat:=(xs.tail.map fun y=>push a b n (y + (1 - xs.headD 0))) ++ [0]
def turned (a b : Rat) (ns : List Int) (xs : List Rat) : Nat -> List Rat
 | 0=>xs
 | k + 1=>zqm a b (ns.getD k 0).toNat (turned a b ns xs k)
end GM
namespace GM
end GM
namespace GM
theorem getD_mem {α : Type} {xs : List α} {d : α} {i : Nat} (h : i < xs.length) : xs.getD i d ∈ xs:=by
 rw [List.getD_eq_getElem?_getD,List.getElem?_eq_getElem h]
 exact List.getElem_mem h
structure zq2 (x : Rat) : Prop where
 nn : 0 <= x
 lt : x < 1
 den : x.den <= 60
def mx (m : Rat) (l : List Rat) : Rat:=l.foldl (fun m x=>if m < x then x else m) m
def znw (xs : List Rat) : Rat:=mx (xs.getD 0 0) xs
end GM
namespace GM
def zqW (ps : List Rat) (left : List Nat) : List Nat:=left.filter fun w=>!decide (ps.getD w 0 < 1)
def zhD (left wave : List Nat) : List Nat:=left.filter fun w=>!decide (w ∈ wave)
def zlG (f g : Rat) (ps : List Rat) (l : List Nat) : List Rat:=l.foldl (fun ps w=>ps.set w (f * ps.getD w 0 + g)) ps
def zhI (a b : Rat) : Nat -> List Rat -> List Nat -> List (List Nat) × (List Nat × List Rat)
 | 0,ps,left=>([],left,ps)
 | n + 1,ps,left=>match zqW ps left with
   | []=>([],left,ps)
   | w :: ws=>((w :: ws) :: (zhI a b n (zlG (a ^ (w :: ws).length) (shf a b (w :: ws).length) ps (zhD left (w :: ws))) (zhD left (w :: ws))).1,(zhI a b n (zlG (a ^ (w :: ws).length) (shf a b (w :: ws).length) ps (zhD left (w :: ws))) (zhD left (w :: ws))).2)
def zpD (left : List Nat) (ps : List Rat) : List Rat:=(List.range ps.length).map fun i=>if i ∈ left then ps.getD i 0 else 0
def zqH (xs : List Rat) : List Rat:=xs.map (· + (1 - znw xs))
def zl7 (a b : Rat) (xs : List Rat) : List (List Nat) × (List Nat × List Rat):=zhI a b xs.length (zqH xs) (List.range xs.length)
def zkV (a b : Rat) (xs : List Rat) : List (List Nat):=(zl7 a b xs).1
def zpm (a b : Rat) (xs : List Rat) : List Rat:=zpD (zl7 a b xs).2.1 (zl7 a b xs).2.2
def zmd (a b : Rat) (xs : List Rat) : Nat -> List Rat
 | 0=>xs
 | k + 1=>zpm a b (zmd a b xs k)
def zmR (a b : Rat) (xs : List Rat) : Nat -> Rat
 | 0=>0
 | k + 1=>zmR a b xs k + (1 - znw (zmd a b xs k))
end GM
namespace GM
structure zq9 (l : List Rat) : Prop where
 pw : l.Pairwise (· > ·)
 nn : ∀ y ∈ l,0 <= y
structure zlU (xs row : List Rat) (fl : Nat -> Nat) : Prop where
 at' : ∀ w,w < xs.length -> xs.getD w 0 = row.getD (fl w) 0
 lt : ∀ w,w < xs.length -> fl w < row.length
def zri (n : Nat) (fl : Nat -> Nat) (c : Nat) : List Nat:=(List.range n).filter fun w=>decide (fl w = c)
end GM
namespace GM
structure zry (xs row : List Rat) (fl : Nat -> Nat) (ns : List Int) : Prop where
 pl : zlU xs row fl
 fall : zq9 row
 one : row.getD 0 0 < 1
 len : ns.length = row.length
 some : ∀ c,c < row.length -> ∃ w,w < xs.length /\ fl w = c
 size : ∀ c,c < row.length -> (ns.getD c 0).toNat = (zri xs.length fl c).length
end GM
namespace GM
def zjN (xs : List Rat) (v : Rat) : List Nat:=(List.range xs.length).filter fun w=>decide (xs.getD w 0 = v)
def ziw : Nat -> List Rat -> List Rat
 | 0,_=>[]
 | _ + 1,[]=>[]
 | n + 1,x :: l=>znw (x :: l) :: ziw n ((x :: l).filter fun y=>!decide (y = znw (x :: l)))
def zaY (xs : List Rat) : List Rat:=ziw xs.length xs
end GM
namespace GM
def zna (xs : List Rat) (w : Nat) : Nat:=(zaY xs).idxOf (xs.getD w 0)
def zfB (xs : List Rat) : List Int:=(zaY xs).map fun v=>((zjN xs v).length : Int)
end GM
namespace GM
def zoI (a b : Rat) (ns : List Int) (row : List Rat) : Nat -> Rat
 | 0=>0
 | k + 1=>zoI a b ns row k + (1 - (zju a b ns row k).getD k 0)
end GM
namespace GM
structure zrp (xs : List Rat) : Prop where
 nn : ∀ x ∈ xs,0 <= x
 lt : ∀ x ∈ xs,x < 1
structure zrv (a b : Rat) (xs : List Rat) : Prop where
 waves : ∀ t,t < (zaY xs).length -> zkV a b (zmd a b xs t) = [zjN xs ((zaY xs).getD t 0)]
 vals : zaY (zmd a b xs (zaY xs).length) = zju a b (zfB xs) (zaY xs) (zaY xs).length
 sizes : zfB (zmd a b xs (zaY xs).length) = zfB xs
 hour : zmR a b xs (zaY xs).length = zoI a b (zfB xs) (zaY xs) (zaY xs).length
end GM
namespace GM
def zix : List Int -> List Rat -> List Rat
 | n :: ns,x :: xs=>List.replicate n.toNat x ++ zix ns xs
 | _,_=>[]
structure zrq (zs : List Rat) (ns : List Int) (row : List Rat) : Prop where
 perm : zs.Perm (zix ns row)
 len : ns.length = row.length
 pos : ∀ n ∈ ns,1 <= n
 fall : row.Pairwise (· > ·)
end GM
set_option linter.all false
namespace GM
def seg (n : Nat) (fl : Nat -> Nat) (s t : Nat) : List Nat:=(List.range n).filter fun w=>decide (s <= fl w) && decide (fl w < t)
inductive znU (n : Nat) (fl : Nat -> Nat) : Nat -> List (List Nat) -> Nat -> Prop
 | nil (t : Nat) : znU n fl t [] t
 | cons {t u v : Nat} {ws : List (List Nat)} : t < u -> znU n fl u ws v -> znU n fl t (seg n fl t u :: ws) v
theorem zhV (p : Nat -> Prop) [DecidablePred p] (t : Nat) : ∀ m : Nat,t <= m -> (∀ c d,t <= c -> c <= d -> d < m -> p d -> p c) -> ∃ u,t <= u /\ u <= m /\ ∀ c,t <= c -> c < m -> (p c ↔ c < u)
 | 0,h,_=>⟨0,h,Nat.le_refl 0,fun c _ hc=>absurd hc (by lia)⟩
 | m + 1,h,mono=>by
   rcases Nat.lt_or_ge m t with z | z
   . exact ⟨m + 1,h,Nat.le_refl _,fun c h1 h2=>absurd h2 (by lia)⟩
   . by_cases q : p m
     . exact ⟨m + 1,h,Nat.le_refl _,fun c h1 h2=>⟨fun _=>h2,fun _=>mono c m h1 (by lia) (by lia) q⟩⟩
     . obtain ⟨u,u1,u2,hu⟩:=zhV p t m z (fun c d h1 h2 h3=>mono c d h1 h2 (by lia))
       refine ⟨u,u1,by lia,fun c h1 h2=>?_⟩
       rcases Nat.lt_or_ge c m with y | y
       . exact hu c h1 y
       . have : c = m:=by lia
         subst this
         exact ⟨fun k=>absurd k q,fun k=>absurd k (by lia)⟩
structure zq7 (xs ys : List Rat) (waves : List (List Nat)) (v : Nat) : Prop where
 v1 : 1 <= v
 vm : v <= (zaY xs).length
 first : ∃ ws,waves = seg xs.length (zna xs) 0 1 :: ws /\ znU xs.length (zna xs) 1 ws v
 vals : ∃ (A B : Rat),0 < A /\ zaY ys = ((zaY xs).drop v).map (fun x=>A * x + B) ++ [0] /\ (∀ x ∈ (zaY xs).drop v,0 < A * x + B)
 at' : zlU ys (zaY ys) (fun w=>if zna xs w < v then (zaY xs).length - v else zna xs w - v)
 len : ys.length = xs.length
end GM
set_option Elab.async false
set_option linter.all false
set_option maxRecDepth 100000
namespace L2
open PySem PySem.Spec PyProof.Rows GM
section
variable {K : PySem.W.Frag} {H H' H2 : Hp} {a p : Addr} {xs ys : List V} {o : HO}
theorem zad.upd (h : H p = none) : zad H (upd H p o):=fun b u e=>by
 rw [zaZ (zaA e h)]
 exact e
theorem zad.sqT (s : zad H H') (h : SqT K H a xs) : SqT K H' a xs:=by
 rcases h with (h | ⟨o,h⟩) | h
 . exact .inl (.inl (s _ _ h))
 . exact .inl (.inr ⟨o,s _ _ h⟩)
 . exact .inr h
structure zaI (H H' : Hp) : Prop where
 t : ∀ b xs,H b = some (.tup xs) -> H' b = some (.tup xs)
 f : ∀ b o u,H b = some (.frz o u) -> H' b = some (.frz o u)
theorem zad.keep (s : zad H H') : zaI H H':=⟨fun b xs h=>s _ _ h,fun b o u h=>s _ _ h⟩
theorem zaI.refl (H : Hp) : zaI H H:=(zad.refl H).keep
theorem zaI.trans (a : zaI H H') (b : zaI H' H2) : zaI H H2:=⟨fun c xs h=>b.t _ _ (a.t _ _ h),fun c o u h=>b.f _ _ _ (a.f _ _ _ h)⟩
theorem zaI.sqT (k : zaI H H') (h : SqT K H a xs) : SqT K H' a xs:=by
 rcases h with (h | ⟨o,h⟩) | h
 . exact .inl (.inl (k.t _ _ h))
 . exact .inl (.inr ⟨o,k.f _ _ _ h⟩)
 . exact .inr h
def SqF (K : PySem.W.Frag) (H : Hp) (a : Addr) (xs : List V) : Prop :=
 (∃ o,H a = some (.frz o (.lst xs))) \/
   ∃ (o : Obj) (its : Array Value) (n : Nat),K.lookup a = some o /\ o.cls = .type "list" /\ o.dict = none /\ o.data = .seq its n /\ its.size <= sizeLine /\ zak xs its.toList
theorem SqF.sq (h : SqF K H a xs) : SqL K H a xs:=by
 rcases h with ⟨o,h⟩ | h
 . exact .inl (.inr ⟨o,h⟩)
 . exact .inr h
theorem zaI.sqF (k : zaI H H') (h : SqF K H a xs) : SqF K H' a xs:=by
 rcases h with ⟨o,h⟩ | h
 . exact .inl ⟨o,k.f _ _ _ h⟩
 . exact .inr h
def Exc (p : Addr) (H H' : Hp) : Prop:=∀ b o,b ≠ p -> H b = some o -> H' b = some o
theorem Exc.keep (e : Exc p H H') (h : H p = some (.lst xs)) : zaI H H' :=
 ⟨fun b ys hb=>e b _ (zoy hb h (by intro z; cases z)) hb,fun b o u hb=>e b _ (zoy hb h (by intro z; cases z)) hb⟩
theorem zad.exc (s : zad H H') : Exc p H H':=fun b o _ h=>s b o h
theorem Exc.refl (p : Addr) (H : Hp) : Exc p H H:=fun _ _ _ h=>h
theorem Exc.trans (a : Exc p H H') (b : Exc p H' H2) : Exc p H H2:=fun c o n h=>b c o n (a c o n h)
theorem Exc.upd (p : Addr) (H : Hp) (o : HO) : Exc p H (upd H p o):=fun b u n h=>by
 rw [zaZ n]
 exact h
theorem Exc.at (e : Exc p H H') {q : Addr} {u : HO} (n : q ≠ p) (h : H q = some u) : H' q = some u:=e q u n h
end
mutual
def Is (K : PySem.W.Frag) (H : Hp) : V -> PyData -> Prop
 | v,.none=>v = .non
 | v,.bool b=>v = .bl b
 | v,.int i=>v = .int i
 | v,.str x=>v = .str x
 | v,.tuple ds=>∃ a xs,v = .ref a /\ SqT K H a xs /\ IsAll K H xs ds
 | v,.list ds=>∃ a xs,v = .ref a /\ SqL K H a xs /\ IsAll K H xs ds
 | v,.dict _=>∃ a kvs,v = .ref a /\ H a = some (.dK kvs)
def IsAll (K : PySem.W.Frag) (H : Hp) : List V -> List PyData -> Prop
 | xs,[]=>xs = []
 | xs,d :: ds=>∃ x r,xs = x :: r /\ Is K H x d /\ IsAll K H r ds
end
section
variable {K : PySem.W.Frag} {H H' : Hp} {v : V} {xs : List V} {ds : List PyData} {d : PyData}
theorem zaK {i : Int} : Is K H v (.int i) ↔ v = .int i:=by rw [Is]
theorem zdN {b : Bool} : Is K H v (.bool b) ↔ v = .bl b:=by rw [Is]
theorem zbS {x : Str} : Is K H v (.str x) ↔ v = .str x:=by rw [Is]
theorem zdI : Is K H v .none ↔ v = .non:=by rw [Is]
theorem zaC : Is K H v (.tuple ds) ↔ ∃ a xs,v = .ref a /\ SqT K H a xs /\ IsAll K H xs ds:=by rw [Is]
theorem zav : Is K H v (.list ds) ↔ ∃ a xs,v = .ref a /\ SqL K H a xs /\ IsAll K H xs ds:=by rw [Is]
theorem zhF {kv : List (PyData × PyData)} : Is K H v (.dict kv) ↔ ∃ a kvs,v = .ref a /\ H a = some (.dK kvs):=by rw [Is]
theorem zaW : IsAll K H xs [] ↔ xs = []:=by rw [IsAll]
theorem zat : IsAll K H xs (d :: ds) ↔ ∃ x r,xs = x :: r /\ Is K H x d /\ IsAll K H r ds:=by rw [IsAll]
theorem IsAll.cons (h : Is K H v d) (t : IsAll K H xs ds) : IsAll K H (v :: xs) (d :: ds):=zat.mpr ⟨v,xs,rfl,h,t⟩
theorem IsAll.nil : IsAll K H [] []:=zaW.mpr rfl
theorem IsAll.length : ∀ {ds : List PyData} {xs : List V},IsAll K H xs ds -> xs.length = ds.length
 | [],_,h=>by rw [zaW.mp h]; rfl
 | d :: ds,_,h=>by
   obtain ⟨x,r,rfl,_,t⟩:=zat.mp h
   rw [List.length_cons,List.length_cons,IsAll.length t]
theorem IsAll.get : ∀ {ds : List PyData} {xs : List V} {i : Nat} {d : PyData},IsAll K H xs ds -> ds[i]? = some d -> ∃ x,xs[i]? = some x /\ Is K H x d
 | [],_,_,_,_,e=>by simp at e
 | d :: ds,_,0,_,h,e=>by
   obtain ⟨x,r,rfl,q,_⟩:=zat.mp h
   simp at e; subst e
   exact ⟨x,rfl,q⟩
 | d :: ds,_,i + 1,d',h,e=>by
   obtain ⟨x,r,rfl,_,t⟩:=zat.mp h
   obtain ⟨y,h1,h2⟩:=IsAll.get (i:=i) t (by simpa using e)
   exact ⟨y,by simpa using h1,h2⟩
theorem IsAll.append : ∀ {ds es : List PyData} {xs ys : List V},IsAll K H xs ds -> IsAll K H ys es -> IsAll K H (xs ++ ys) (ds ++ es)
 | [],_,_,_,h,t=>by rw [zaW.mp h]; exact t
 | d :: ds,_,_,_,h,t=>by
   obtain ⟨x,r,rfl,q,u⟩:=zat.mp h
   exact .cons q (IsAll.append u t)
mutual
theorem Is.same (s : zad H H') : ∀ (d : PyData) (v : V),Is K H v d -> Is K H' v d
 | .none,v,h=>by rw [zdI] at h ⊢; exact h
 | .bool _,v,h=>by rw [zdN] at h ⊢; exact h
 | .int _,v,h=>by rw [zaK] at h ⊢; exact h
 | .str _,v,h=>by rw [zbS] at h ⊢; exact h
 | .tuple ds,v,h=>by
   obtain ⟨a,xs,e,q,t⟩:=zaC.mp h
   exact zaC.mpr ⟨a,xs,e,s.sqT q,IsAll.same s ds xs t⟩
 | .list ds,v,h=>by
   obtain ⟨a,xs,e,q,t⟩:=zav.mp h
   exact zav.mpr ⟨a,xs,e,s.seq q,IsAll.same s ds xs t⟩
 | .dict _,v,h=>by
   obtain ⟨a,kvs,e,q⟩:=zhF.mp h
   exact zhF.mpr ⟨a,kvs,e,s _ _ q⟩
theorem IsAll.same (s : zad H H') : ∀ (ds : List PyData) (xs : List V),IsAll K H xs ds -> IsAll K H' xs ds
 | [],xs,h=>by rw [zaW] at h ⊢; exact h
 | d :: ds,xs,h=>by
   obtain ⟨x,r,e,q,t⟩:=zat.mp h
   exact zat.mpr ⟨x,r,e,Is.same s d x q,IsAll.same s ds r t⟩
end
end
/- no list and no dict within -/
mutual
def Imm : PyData -> Bool
 | .none=>true
 | .bool _=>true
 | .int _=>true
 | .str _=>true
 | .tuple ds=>ImmAll ds
 | .list _=>false
 | .dict _=>false
def ImmAll : List PyData -> Bool
 | []=>true
 | d :: ds=>Imm d && ImmAll ds
end
section
variable {K : PySem.W.Frag} {H H' : Hp}
mutual
theorem Is.keep (k : zaI H H') : ∀ (d : PyData) (v : V),Imm d = true -> Is K H v d -> Is K H' v d
 | .none,v,_,h=>by rw [zdI] at h ⊢; exact h
 | .bool _,v,_,h=>by rw [zdN] at h ⊢; exact h
 | .int _,v,_,h=>by rw [zaK] at h ⊢; exact h
 | .str _,v,_,h=>by rw [zbS] at h ⊢; exact h
 | .tuple ds,v,i,h=>by
   obtain ⟨a,xs,e,q,t⟩:=zaC.mp h
   exact zaC.mpr ⟨a,xs,e,k.sqT q,IsAll.keep k ds xs (by rw [Imm] at i; exact i) t⟩
 | .list ds,v,i,h=>by rw [Imm] at i; cases i
 | .dict _,v,i,h=>by rw [Imm] at i; cases i
theorem IsAll.keep (k : zaI H H') : ∀ (ds : List PyData) (xs : List V),ImmAll ds = true -> IsAll K H xs ds -> IsAll K H' xs ds
 | [],xs,_,h=>by rw [zaW] at h ⊢; exact h
 | d :: ds,xs,i,h=>by
   obtain ⟨x,r,e,q,t⟩:=zat.mp h
   rw [ImmAll,Bool.and_eq_true] at i
   exact zat.mpr ⟨x,r,e,Is.keep k d x i.1 q,IsAll.keep k ds r i.2 t⟩
end
end
def N (r : Rat) : PyData:=.tuple [.int r.num,.int (r.den : Int)]
section
variable {K : PySem.W.Frag} {H H' : Hp} {v : V} {r : Rat}
end
section
variable {X : Cx} {pins : List (Addr × Obj)} {σ : St} {H : Hp} {s : Shared}
mutual
theorem Inv.reads (I : Inv X pins σ H s) : ∀ (d : PyData) (v : V) (u : Value),d.canLay0 = true -> Is X.K H v d -> zaG v u -> ∃ as,Reads s.heap u d as
 | .none,v,u,_,h,r=>by
   cases zdI.mp h
   cases (show u = Value.none from r)
   exact ⟨_,.none⟩
 | .bool b,v,u,_,h,r=>by
   cases zdN.mp h
   cases (show u = Value.bool b from r)
   exact ⟨_,.bool b⟩
 | .int i,v,u,_,h,r=>by
   cases zaK.mp h
   obtain ⟨t,e⟩:=(show ∃ t,u = Value.int i t from r)
   cases e
   exact ⟨_,.int i t⟩
 | .str x,v,u,_,h,r=>by
   cases zbS.mp h
   obtain ⟨t,e⟩:=(show ∃ t,u = Value.str x t from r)
   cases e
   exact ⟨_,.str x t⟩
 | .tuple ds,v,u,c,h,r=>by
   obtain ⟨a,xs,e,q,t⟩:=zaC.mp h
   subst e
   cases (show u = Value.ref a from r)
   obtain ⟨its,rv,⟨o,e1,e2,n,e3⟩,_⟩:=I.tuple q
   obtain ⟨as,ra⟩:=Inv.readsAll I ds xs its (by rw [PyData.canLay0] at c; exact c) t rv
   exact ⟨_,.tuple e1 e2 e3 (by simpa using ra)⟩
 | .list ds,v,u,c,h,r=>by
   obtain ⟨a,xs,e,q,t⟩:=zav.mp h
   subst e
   cases (show u = Value.ref a from r)
   obtain ⟨its,rv,⟨o,n,e1,e2,_,e3⟩,_⟩:=I.list q
   obtain ⟨as,ra⟩:=Inv.readsAll I ds xs its (by rw [PyData.canLay0] at c; exact c) t rv
   exact ⟨_,.list e1 e2 e3 (by simpa using ra)⟩
 | .dict _,v,u,c,h,r=>by rw [PyData.canLay0] at c; cases c
theorem Inv.readsAll (I : Inv X pins σ H s) : ∀ (ds : List PyData) (xs : List V) (us : List Value),PyData.canLayAll0 ds = true -> IsAll X.K H xs ds -> zak xs us -> ∃ as,ReadsAll s.heap us ds as
 | [],xs,us,_,h,r=>by
   rw [zaW.mp h] at r
   cases r
   exact ⟨_,.nil⟩
 | d :: ds,xs,us,c,h,r=>by
   obtain ⟨x,l,e,q,t⟩:=zat.mp h
   subst e
   rw [PyData.canLayAll0,Bool.and_eq_true] at c
   cases r with
   | cons r1 r2 =>
     obtain ⟨as,h1⟩:=Inv.reads I d x _ c.1 q r1
     obtain ⟨bs,h2⟩:=Inv.readsAll I ds l _ c.2 t r2
     exact ⟨_,.cons h1 h2⟩
end
end
section
variable {X : Cx}
open PySem.SeqAt (shaped)
def zgA (K : PySem.W.Frag) : R2:=fun x y H Q=>∃ d e,Is K H x d /\ Is K H y e /\ shaped d = true /\ shaped e = true /\ Q (.bl (PyData.eqv d e)) H
def zeW (K : PySem.W.Frag) : R2:=fun x y H Q=>∃ d e,Is K H x d /\ Is K H y e /\ shaped d = true /\ shaped e = true /\ Q (.bl (!PyData.eqv d e)) H
theorem ze2 (hu : X.A.units + 64 < cLine) : OpR X (compareOp .Eq) (zgA X.K):=by
 intro pins s σ H x y v u Q I rx ry h
 obtain ⟨d,e,hd,he,sd,se,q⟩:=h
 obtain ⟨as,h1⟩:=I.reads d x v (PySem.SeqAt.canLay_of_shaped sd) hd rx
 obtain ⟨bs,h2⟩:=I.reads e y u (PySem.SeqAt.canLay_of_shaped se) he ry
 exact eq_dataH h1 h2 sd se hu ⟨.bl _,H,I,rfl,q⟩
theorem zc7 (hu : X.A.units + 64 < cLine) : OpR X (compareOp .NotEq) (zeW X.K):=by
 intro pins s σ H x y v u Q I rx ry h
 obtain ⟨d,e,hd,he,sd,se,q⟩:=h
 obtain ⟨as,h1⟩:=I.reads d x v (PySem.SeqAt.canLay_of_shaped sd) hd rx
 obtain ⟨bs,h2⟩:=I.reads e y u (PySem.SeqAt.canLay_of_shaped se) he ry
 exact ne_dataH h1 h2 sd se hu ⟨.bl _,H,I,rfl,q⟩
def kindOf : PyData -> String
 | .none=>"NoneType"
 | .bool _=>"bool"
 | .int _=>"int"
 | .str _=>"str"
 | .tuple _=>"tuple"
 | .list _=>"list"
 | .dict _=>"dict"
def zfl (K : PySem.W.Frag) : List V -> Hp -> VK -> Prop:=fun xs H Q=>∃ x T d b,xs = [x,.ty T] /\ Is K H x d /\ PySem.W.kitOne K (.type (kindOf d)) (.type T) = some b /\ Q (.bl b) H
theorem zeN : zah X (.builtin "isinstance") (zfl X.K):=by
 intro pins s σ H xs us Q I r h
 obtain ⟨x,T,d,b,rfl,hd,e,q⟩:=h
 obtain ⟨u,w',rfl,rx,rt⟩:=ziW r
 cases (show w' = Value.type T from rt)
 have fin : ∀ tk,EP X pins σ Q (.bool b) { s with toks:=tk }:=fun tk=>⟨.bl b,H,I.tok _,rfl,q⟩
 cases d with
 | none =>
   cases zdI.mp hd
   cases (show u = Value.none from rx)
   exact PySem.W.kia_one PySem.W.kitx_none I.kIn True.intro e (fun z=>nomatch z) fin
 | bool y =>
   cases zdN.mp hd
   cases (show u = Value.bool y from rx)
   exact PySem.W.kia_one PySem.W.kitx_bool I.kIn True.intro e (fun z=>nomatch z) fin
 | int i =>
   cases zaK.mp hd
   obtain ⟨t,q⟩:=(show ∃ t,u = Value.int i t from rx)
   cases q
   exact PySem.W.kia_one PySem.W.kitx_int I.kIn True.intro e (fun z=>nomatch z) fin
 | str y =>
   cases zbS.mp hd
   obtain ⟨t,q⟩:=(show ∃ t,u = Value.str y t from rx)
   cases q
   exact PySem.W.kia_one PySem.W.kitx_str I.kIn True.intro e (fun z=>nomatch z) fin
 | tuple ds =>
   obtain ⟨a,xs,e1,hq,_⟩:=zaC.mp hd
   subst e1
   cases (show u = Value.ref a from rx)
   obtain ⟨its,_,⟨o,h1,h2,_⟩,_⟩:=I.tuple hq
   exact PySem.W.kia_one PySem.W.kitx_tuple I.kIn ⟨o,h1,h2⟩ e (fun z=>nomatch z) fin
 | list ds =>
   obtain ⟨a,xs,e1,hq,_⟩:=zav.mp hd
   subst e1
   cases (show u = Value.ref a from rx)
   obtain ⟨its,_,⟨o,n,h1,h2,_⟩,_⟩:=I.list hq
   exact PySem.W.kia_one PySem.W.kitx_list I.kIn ⟨o,h1,h2⟩ e (fun z=>nomatch z) fin
 | dict kv =>
   obtain ⟨a,kvs,e1,hq⟩:=zhF.mp hd
   subst e1
   cases (show u = Value.ref a from rx)
   obtain ⟨_,_,vs,_,o,es,ep,h1,h2,_⟩:=(show zbe X.prog X.w H s.heap a (.dK kvs) from I.hok a _ hq)
   exact PySem.W.kia_one PySem.W.kitx_dict I.kIn ⟨o,h1,h2.1⟩ e (fun z=>nomatch z) fin
def isA (T : String) (d : PyData) : Bool:=(kindOf d == T) || (kindOf d == "bool" && T == "int")
theorem zn2 {K : PySem.W.Frag} (d : PyData) : PySem.W.kitOne K (.type (kindOf d)) (.type "int") = some (isA "int" d):=by cases d <;> rfl
theorem zmY {K : PySem.W.Frag} (d : PyData) : PySem.W.kitOne K (.type (kindOf d)) (.type "bool") = some (isA "bool" d):=by cases d <;> rfl
theorem znx {K : PySem.W.Frag} (d : PyData) : PySem.W.kitOne K (.type (kindOf d)) (.type "str") = some (isA "str" d):=by cases d <;> rfl
theorem zcR : OpR X (binaryOp .Mult) (rI IntMulOk fun i j=>.int (i * j)):=opI fun _ _ _ _ _ _ _ hc q=>mul_int q hc
def zq1 (_ j : Int) : Prop:=j ≠ 0 /\ Bd 8999 j
theorem zdp : OpR X (binaryOp .FloorDiv) (rI zq1 fun i j=>.int (i.fdiv j)):=opI fun _ _ _ _ _ _ _ hc q =>
 floordiv_int hc.1 q (.inl (PyProof.noPylong_of_log2 (Nat.lt_succ_of_lt (hc.2.log (by decide)))))
theorem zni : OpR X (binaryOp .Add) (fun x y H Q=>(rI0 fun i j=>.int (i + j)) x y H Q \/ (zpR x y H Q \/ ∃ i j,x = .str i /\ y = .str j /\ i.length + j.length <= sizeLine /\ Q (.str (i ++ j)) H)):=zpN.or (zpp.or zjB)
end
end L2
set_option Elab.async false
set_option linter.all false
set_option maxRecDepth 100000
namespace L2
open PySem PySem.Spec PyProof.Rows GM
theorem zaS : bootBuiltins "len" = some (.builtin "len"):=by decide +kernel
theorem zbD : bootBuiltins "isinstance" = some (.builtin "isinstance"):=by decide +kernel
theorem zf6 : bootBuiltins "int" = some (.type "int"):=by decide +kernel
theorem znF : bootBuiltins "bool" = some (.type "bool"):=by decide +kernel
theorem zhU : bootBuiltins "str" = some (.type "str"):=by decide +kernel
theorem zaV : bootBuiltins "tuple" = some (.type "tuple"):=by decide +kernel
theorem zn7 : bootBuiltins "list" = some (.type "list"):=by decide +kernel
def mkT (K : PySem.W.Frag) (xs : List V) (H : Hp) (Q : VK) : Prop:=xs.length <= sizeLine /\ ∀ p,H p = none -> Q (.ref p) (upd H p (.tup xs))
def mkL (K : PySem.W.Frag) (xs : List V) (H : Hp) (Q : VK) : Prop:=xs.length <= sizeLine /\ ∀ p,H p = none -> Q (.ref p) (upd H p (.lst xs))
def zjW (K : PySem.W.Frag) (t : TA) : TE:=fun σ H Q=>t σ H fun xs H1=>mkT K xs H1 Q
def zlv (K : PySem.W.Frag) (t : TA) : TE:=fun σ H Q=>t σ H fun xs H1=>mkL K xs H1 Q
def zlm : R2:=fun x y H Q=>(rI0 fun i j=>.int (i + j)) x y H Q \/ (zpR x y H Q \/ ∃ i j,x = .str i /\ y = .str j /\ i.length + j.length <= sizeLine /\ Q (.str (i ++ j)) H)
def zce (K : PySem.W.Frag) : List V -> Hp -> VK -> Prop:=fun xs H Q=>∃ p ys,xs = [.ref p] /\ (SqL K H p ys \/ SqT K H p ys) /\ Q (.int ys.length) H
def zqK : List V -> Hp -> VK -> Prop:=fun xs H Q=>(∃ i,xs = [.int i] /\ Q (.int i) H) \/ ∃ k,xs = [.bl k] /\ Q (.int (if k then 1 else 0)) H
section
variable {X : Cx} {e : Expr} {es : List Expr} {te : TE} {t : TA} {pos : Pos}
theorem zdK {x1} (h : PA X es t) : PE X (.Tuple es x1 pos) (zjW X.K t):=zpH h
theorem zbb (h : PA X es t) : PE X (.List es pos) (zlv X.K t):=zpG h
theorem zaM : OpR X (binaryOp .Add) zlm:=zni
theorem zaw : zah X (.builtin "len") (zce X.K):=zho
theorem ze1 : zah X (.type "int") zqK:=zkw
theorem zcu {x : Str} {i : Int} {pos : Pos} (hg : Gl X x) (hm : ∃ t,X.mg x = some (.int i t)) (hd : (x == ("__debug__" : Str)) = false:=by decide) : PE X (.Name x pos) (tC (.int i)):=by
 obtain ⟨t,hm⟩:=hm
 exact zka hg hm ⟨t,rfl⟩ hd
theorem zmi {x : Str} {i : Str} {pos : Pos} (hg : Gl X x) (hm : ∃ t,X.mg x = some (.str i t)) (hd : (x == ("__debug__" : Str)) = false:=by decide) : PE X (.Name x pos) (tC (.str i)):=by
 obtain ⟨t,hm⟩:=hm
 exact zka hg hm ⟨t,rfl⟩ hd
end
section
variable {K : PySem.W.Frag} {σ : St} {H H' : Hp} {Q : VK} {QA : List V -> Hp -> Prop} {QB : Bool -> Hp -> Prop} {QS : St -> Hp -> Prop} {QH : Hp -> Prop} {D : zb3} {ta tb te : TE} {tt tu : TT} {t tr : TA} {s1 s2 : TS} {g : TG} {gs : TGs} {r : R2} {v w : V} {xs ys : List V} {i : Nat} {m n : Int}
theorem zlq (h : σ[i]? = some (some v)) (q : Q v H) : zgv i σ H Q:=⟨v,h,q⟩
theorem zrh (q : Q v H) : tC v σ H Q:=q
theorem zqY (h : ta σ H fun x H1=>tb σ H1 fun y H2=>r x y H2 Q) : tOp r ta tb σ H Q:=h
theorem zpd (h : t σ H fun xs H1=>mkT K xs H1 Q) : zjW K t σ H Q:=h
theorem zph (h : t σ H fun xs H1=>mkL K xs H1 Q) : zlv K t σ H Q:=h
theorem zmo (q : QA [] H) : zkI σ H QA:=q
theorem zkm (h : te σ H fun x H1=>tr σ H1 fun xs H2=>QA (x :: xs) H2) : zgG te tr σ H QA:=h
theorem zns {sp : Sp} {E : XK} (h : t σ H fun vs H1=>sp vs H1 Q E) : ziY sp [] E t σ H Q:=by
 simpa only [ziY,List.append_nil] using h
theorem zoq {u : List V -> Hp -> VK -> Prop} (h : t σ H fun vs H1=>u vs H1 Q) : tCB u t σ H Q:=h
theorem znN (h : te σ H fun x H'=>∃ k,x = .bl k /\ QB k H') : zmA te σ H QB:=h
theorem zqh (h : te σ H fun x H'=>∃ k,x = .bl k /\ QB k H') : tB te σ H QB:=h
theorem zpV (h : tt σ H fun c H1=>if c = true then tu σ H1 QB else QB false H1) : zqp tt tu σ H QB:=h
theorem zqo (h : tt σ H fun c H1=>if c = true then QB true H1 else tu σ H1 QB) : tOr tt tu σ H QB:=h
theorem zoO (h : tt σ H fun c H1=>QB (!c) H1) : zqu tt σ H QB:=h
theorem znb (h : ta σ H fun x H1=>∃ c,x = .bl c /\ if c = true then tb σ H1 Q else Q (.bl false) H1) : zoi ta tb σ H Q:=h
theorem zpB (h : ta σ H fun x H1=>∃ c,x = .bl c /\ if c = true then Q (.bl true) H1 else tb σ H1 Q) : zqJ ta tb σ H Q:=h
theorem znA (h : ta σ H fun x H1=>∃ c,x = .bl c /\ Q (.bl (!c)) H1) : zoL ta σ H Q:=h
theorem zod (h : D.nx σ H) : zoJ D σ H:=h
theorem zpK (h : te σ H D.rt) : zp4 te D σ H:=h
theorem zpq (h : tt σ H fun b H1=>if b = true then s1 D σ H1 else s2 D σ H1) : zqZ tt s1 s2 D σ H:=h
theorem zpO (h : te σ H fun x H1=>g x σ H1 D.nx) : zmV te g D σ H:=h
theorem zn1 (h : te σ H fun _ H1=>D.nx σ H1) : zoj te D σ H:=h
theorem ziJ (q : QS (σ.set i (some v)) H) : zcv i v σ H QS:=q
theorem zm9 (q : QS σ H) : zo9 [] σ H QS:=⟨rfl,q⟩
theorem zlp (q : g v σ H fun σ' H'=>gs xs σ' H' QS) : zj5 g gs (v :: xs) σ H QS:=⟨v,xs,rfl,q⟩
theorem zfz {a : Addr} {n : Nat} (h : SqT K H a xs) (e : xs.length = n) (q : gs xs σ H QS) : zkH K n gs (.ref a) σ H QS:=⟨a,xs,rfl,h,e,q⟩
theorem zoa {tset : znX} (h : ta σ H fun o H1=>tb σ H1 fun i H2=>tset o i v H2 fun H3=>QS σ H3) : zql ta tb tset v σ H QS:=h
theorem zn0 {p : Addr} {k : Int} {j : Nat} (h : H p = some (.lst xs)) (e : ixN xs.length k = some j) (q : ∀ H',Exc p H H' -> H' p = some (.lst (xs.set j v)) -> QH H') : zox (.ref p) (.int k) v H QH :=
 ⟨p,xs,k,j,rfl,rfl,h,e,q _ (Exc.upd p H _) zal⟩
-- ints
theorem zpZ {f : Int -> Int -> V} (q : Q (f m n) H) : rI0 f (.int m) (.int n) H Q:=⟨m,n,rfl,rfl,q⟩
theorem zlV {C : Int -> Int -> Prop} {f : Int -> Int -> V} (c : C m n) (q : Q (f m n) H) : rI C f (.int m) (.int n) H Q:=⟨m,n,rfl,rfl,c,q⟩
theorem zog (q : Q (.int (m + n)) H) : zlm (.int m) (.int n) H Q:=.inl ⟨m,n,rfl,rfl,q⟩
theorem zfv {p b : Addr} (h : H p = some (.lst xs)) (k : H b = some (.lst ys)) (z : xs.length + ys.length <= sizeLine)
   (q : ∀ c H',H c = none -> zad H H' -> H' c = some (.lst (xs ++ ys)) -> Q (.ref c) H') : zlm (.ref p) (.ref b) H Q :=
 .inr (.inl ⟨p,b,xs,ys,rfl,rfl,h,k,z,fun c hc=>q c _ hc (zad.upd hc) zal⟩)
theorem zoe {p : Addr} (h : SqT K H p xs) (q : Q (.int xs.length) H) : zce K [.ref p] H Q:=⟨p,xs,rfl,.inr h,q⟩
theorem zcj {p : Addr} (h : SqL K H p xs) (q : Q (.int xs.length) H) : zce K [.ref p] H Q:=⟨p,xs,rfl,.inl h,q⟩
theorem znY {b : Bool} (q : Q (.int (if b then 1 else 0)) H) : zqK [.bl b] H Q:=.inr ⟨b,rfl,q⟩
-- comparisons
theorem zpi (q : Q (.bl (decide (m = n))) H) : zgA K (.int m) (.int n) H Q :=
 ⟨.int m,.int n,zaK.mpr rfl,zaK.mpr rfl,rfl,rfl,by
   have e : PyData.eqv (.int m) (.int n) = decide (m = n):=by
     rw [PyData.eqv,Bool.beq_eq_decide_eq]
   rw [e]; exact q⟩
theorem zoT (q : Q (.bl (!decide (m = n))) H) : zeW K (.int m) (.int n) H Q :=
 ⟨.int m,.int n,zaK.mpr rfl,zaK.mpr rfl,rfl,rfl,by
   have e : PyData.eqv (.int m) (.int n) = decide (m = n):=by
     rw [PyData.eqv,Bool.beq_eq_decide_eq]
   rw [e]; exact q⟩
theorem zpl {d e : PyData} (h : Is K H v d) (k : Is K H w e) (sd : PySem.SeqAt.shaped d = true) (se : PySem.SeqAt.shaped e = true) (q : Q (.bl (PyData.eqv d e)) H) : zgA K v w H Q:=⟨d,e,h,k,sd,se,q⟩
theorem zmS {d e : PyData} (h : Is K H v d) (k : Is K H w e) (sd : PySem.SeqAt.shaped d = true) (se : PySem.SeqAt.shaped e = true) (q : Q (.bl (!PyData.eqv d e)) H) : zeW K v w H Q:=⟨d,e,h,k,sd,se,q⟩
theorem zhY {T : String} {d : PyData} (h : Is K H v d) (e : PySem.W.kitOne K (.type (kindOf d)) (.type T) = some (isA T d)) (q : Q (.bl (isA T d)) H) : zfl K [v,.ty T] H Q:=⟨v,T,d,_,rfl,h,e,q⟩
def zmX : PyData -> Bool
 | .tuple _=>true
 | _=>false
def zi8 : PyData -> Bool
 | .int _=>true
 | .bool _=>true
 | _=>false
def zo6 : PyData -> Bool
 | .bool _=>true
 | _=>false
def zmp : PyData -> Bool
 | .list _=>true
 | _=>false
def zmD : PyData -> Bool
 | .str _=>true
 | _=>false
theorem zmI {d : PyData} (h : Is K H v d) (q : Q (.bl (zi8 d)) H) : zfl K [v,.ty "int"] H Q:=zhY h (zn2 d) (by have e : isA "int" d = zi8 d:=(by cases d <;> rfl); rw [e]; exact q)
theorem zmu {d : PyData} (h : Is K H v d) (q : Q (.bl (zo6 d)) H) : zfl K [v,.ty "bool"] H Q:=zhY h (zmY d) (by have e : isA "bool" d = zo6 d:=(by cases d <;> rfl); rw [e]; exact q)
theorem zma {d : PyData} (h : Is K H v d) (q : Q (.bl (zmD d)) H) : zfl K [v,.ty "str"] H Q:=zhY h (znx d) (by have e : isA "str" d = zmD d:=(by cases d <;> rfl); rw [e]; exact q)
-- items
theorem zln {p : Addr} {m : Int} (h : SqT K H p xs) (e : atI xs m = some v) (q : Q v H) : rIx K (.ref p) (.int m) H Q:=.inr (.inl ⟨p,xs,m,v,rfl,rfl,h,e,q⟩)
theorem zeM {p : Addr} {m : Int} (h : SqL K H p xs) (e : atI xs m = some v) (q : Q v H) : rIx K (.ref p) (.int m) H Q:=.inl ⟨p,xs,m,v,rfl,rfl,h,e,q⟩
theorem zo4 {α : Type} {xs : List α} {m : Int} (h0 : 0 <= m) (h1 : m < xs.length) : ∃ v,atI xs m = some v /\ v ∈ xs:=by
 obtain ⟨k,rfl⟩ : ∃ k : Nat,m = (k : Int):=⟨m.toNat,by lia⟩
 have l : k < xs.length:=by lia
 exact ⟨xs[k],zcQ (by simp [l]),List.getElem_mem l⟩
theorem zhG {p : Addr} {m : Int} (P : V -> Prop) (h : SqL K H p xs) (h0 : 0 <= m) (h1 : m < xs.length) (hP : ∀ x ∈ xs,P x) (q : ∀ x,P x -> Q x H) : rIx K (.ref p) (.int m) H Q:=by
 obtain ⟨x,e,hx⟩:=zo4 h0 h1
 exact zeM h e (q x (hP x hx))
theorem zi1 {ds : List PyData} {d : PyData} {j : Nat} (h : Is K H v (.tuple ds)) (e : ds[j]? = some d) (q : ∀ x,Is K H x d -> Q x H) : rIx K v (.int (j : Int)) H Q:=by
 obtain ⟨a,xs,rfl,h,t⟩:=zaC.mp h
 obtain ⟨x,e1,hx⟩:=t.get e
 exact zln h (zcQ e1) (q x hx)
theorem zn8 {ds : List PyData} (h : Is K H v (.tuple ds)) (q : Q (.int ds.length) H) : zce K [v] H Q:=by
 obtain ⟨a,xs,rfl,h,t⟩:=zaC.mp h
 exact zoe h (by rw [t.length]; exact q)
theorem zfF {α : Type} {l : List α} (h : l.length <= 1000) : l.length <= sizeLine:=Nat.le_of_lt (zbC h)
theorem zlN (z : xs.length <= 1000) (q : ∀ p H',H p = none -> zad H H' -> H' p = some (.tup xs) -> Q (.ref p) H') : mkT K xs H Q:=⟨zfF z,fun p hp=>q p _ hp (zad.upd hp) zal⟩
theorem zeY (z : xs.length <= 1000) (q : ∀ p H',H p = none -> zad H H' -> H' p = some (.lst xs) -> Q (.ref p) H') : mkL K xs H Q:=⟨zfF z,fun p hp=>q p _ hp (zad.upd hp) zal⟩
theorem zdL {ds : List PyData} (z : xs.length <= 1000) (h : IsAll K H xs ds) (q : ∀ v H',zad H H' -> Is K H' v (.tuple ds) -> Q v H') : mkT K xs H Q :=
 zlN z fun p H' _ s e=>q _ H' s (zaC.mpr ⟨p,xs,rfl,.of e,IsAll.same s ds xs h⟩)
theorem znd {p : Prop} [Decidable p] {A B : Prop} (h1 : p -> A) (h2 : ¬ p -> B) : if decide p = true then A else B:=by
 by_cases h : p
 . rw [decide_eq_true h,if_pos rfl]; exact h1 h
 . rw [decide_eq_false h,if_neg Bool.false_ne_true]; exact h2 h
theorem zmz {p : Prop} [Decidable p] {A B : Prop} (h1 : ¬ p -> A) (h2 : p -> B) : if (!decide p) = true then A else B:=by
 by_cases h : p
 . rw [decide_eq_true h]; exact zpx (h2 h)
 . rw [decide_eq_false h]; exact znV (h1 h)
theorem znv {b : Bool} {A B : Prop} (h1 : b = true -> A) (h2 : b = false -> B) : if b = true then A else B:=by
 cases b
 . exact zpx (h2 rfl)
 . exact znV (h1 rfl)
end
section
variable {c : TT} {tb : TS} {D : zb3} {σ : St} {H : Hp}
def zqQ (g : TG) (tb : TS) (D : zb3) (σ : St) (vs : List V) (H1 : Hp) : Prop:=∃ j : Int,vs = [.int j] /\ -(2 ^ 62) <= j /\ j < 2 ^ 62 /\
 ∃ W : Nat -> Nat -> St -> Hp -> Prop,(∃ m,W 0 m σ H1) /\ ∀ i m σ H,W i m σ H ->
   ((Itr 0 j.toNat).stop i H /\ D.nx σ H) \/ ((Itr 0 j.toNat).go i H /\ ∃ M : St -> Hp -> Prop,(∀ σ' H',M σ' H' -> ∃ m',m' < m /\ W (i + 1) m' σ' H') /\ ∀ x H',(Itr 0 j.toNat).yld i H x H' -> g x σ H' fun σ2 H2=>tb { D with nx:=M,ct:=M,bk:=D.nx } σ2 H2)
theorem znB {ta : TA} {g : TG} (h : ta σ H fun vs H1=>zqQ g tb D σ vs H1) : znp (zm6 ta) g tb D σ H:=h
theorem zdM {g : TG} {n : Int} (h0 : -1000000000 <= n) (h1 : n < 1000000000) (Pv : Nat -> St -> Hp -> Prop) (p : Pv 0 σ H)
   (hs : ∀ (i : Nat) σ H,i < n.toNat -> Pv i σ H -> g (.int (i : Int)) σ H fun σ2 H2=>tb { D with nx:=Pv (i + 1),ct:=Pv (i + 1),bk:=D.nx } σ2 H2)
   (hd : ∀ σ H,Pv n.toNat σ H -> D.nx σ H) : zqQ g tb D σ [.int n] H:=by
 refine ⟨n,rfl,by lia,by lia,zkY (lo:=0) Pv p (fun i σ H hi q=>?_) hd⟩
 have e : (0 : Int) + (i : Int) = (i : Int):=by lia
 rw [e]
 exact hs i σ H hi q
end
def zqC (K : PySem.W.Frag) (g : TG) (tb : TS) (D : zb3) (σ : St) (x : V) (H1 : Hp) : Prop:=∃ a,x = .ref a /\ (∃ xs,SqL K H1 a xs) /\
 ∃ W : Nat -> Nat -> St -> Hp -> Prop,(∃ m,W 0 m σ H1) /\ ∀ i m σ H,W i m σ H ->
   ((Itl K a).stop i H /\ D.nx σ H) \/ ((Itl K a).go i H /\ ∃ M : St -> Hp -> Prop,(∀ σ' H',M σ' H' -> ∃ m',m' < m /\ W (i + 1) m' σ' H') /\ ∀ x H',(Itl K a).yld i H x H' -> g x σ H' fun σ2 H2=>tb { D with nx:=M,ct:=M,bk:=D.nx } σ2 H2)
section
variable {K : PySem.W.Frag} {te : TE} {g : TG} {tb : TS} {D : zb3} {σ : St} {H : Hp} {a : Addr} {xs : List V}
theorem zoh (h : te σ H fun x H1=>zqC K g tb D σ x H1) : znp (zlP K te) g tb D σ H:=h
theorem zgY (hx : SqL K H a xs) (Pv : Nat -> St -> Hp -> Prop) (h0 : Pv 0 σ H) (hl : ∀ i σ H,i <= xs.length -> Pv i σ H -> SqL K H a xs)
   (hs : ∀ i x σ H,xs[i]? = some x -> Pv i σ H -> g x σ H fun σ2 H2=>tb { D with nx:=Pv (i + 1),ct:=Pv (i + 1),bk:=D.nx } σ2 H2) (hd : ∀ σ H,Pv xs.length σ H -> D.nx σ H) : zqC K g tb D σ (.ref a) H :=
 ⟨a,rfl,⟨xs,hx⟩,zlh Pv h0 hl hs hd⟩
end
theorem zpg {K : PySem.W.Frag} {H : Hp} {a : Addr} {xs : List V} (hO : znc H) (h : SqL K H a xs) : SqF K H a xs:=by
 rcases h with (h | ⟨o,h⟩) | h
 . rcases hO a with z | ⟨ob,ys,z⟩
   . rw [h] at z; cases z
   . rw [h] at z; cases z
 . exact .inl ⟨o,h⟩
 . exact .inr h
theorem zpf {K : PySem.W.Frag} {H : Hp} {Q : VK} {a : Addr} {ns : List Int} {m : Int} (h : SqF K H a (ns.map V.int)) (h0 : 0 <= m) (h1 : m < ((ns.map V.int).length : Int)) (q : ∀ z,Q (.int z) H) : rIx K (.ref a) (.int m) H Q:=by
 refine zhG (fun v=>∃ z,v = .int z) h.sq h0 h1 (fun x hx=>?_) (fun x hx=>?_)
 . obtain ⟨z,_,rfl⟩:=List.mem_map.mp hx
   exact ⟨z,rfl⟩
 . obtain ⟨z,rfl⟩:=hx
   exact q z
section
variable {K : PySem.W.Frag} {H H' : Hp} {v : V} {d : PyData} {a : Addr} {xs : List V} {o : HO}
theorem Is.by (s : zad H H') (h : Is K H v d) : Is K H' v d:=Is.same s d v h
theorem Is.byK (s : zaI H H') (i : Imm d = true) (h : Is K H v d) : Is K H' v d:=Is.keep s _ v i h
end
end L2
set_option Elab.async false
set_option linter.all false
set_option maxRecDepth 100000
namespace L2
open PySem PySem.Spec PyProof.Rows GM
def za6 (X : Cx) (N' : List Str) (scope : Scope) (cl : List (Str × Addr)) (C : Addr) (s₀ : Shared) (H₀ : Hp) (fp : List Addr) (pins : List (Addr × Obj)) : Cx where
 prog:=X.prog
 w:=X.w
 K:=X.K
 mg:=X.mg
 base:=X.base
 A:=X.A
 N:=N'
 s₀:=s₀
 H₀:=H₀
 env:=compEnvC scope cl C X.env
 outer:=X.stack
 stack:=X.stack
 ex:=fp
 fn:=fun _=>false
 calm:=X.calm
 pn:=X.pn ++ pins
 xe:=fun _ _=>False
structure zmN (X : Cx) (scope : Scope) (cl : List (Str × Addr)) : Prop where
 clos : closureFor scope X.env = pure cl
 sub : ∀ x c,cl.lookup x = some c -> X.env.cells.lookup x = some c
 has : ∀ x,((relabel scope X.env).names.lookup x = some .cell \/ (relabel scope X.env).names.lookup x = some .free) -> ∃ c,cl.lookup x = some c
def zas (src : List (Option Nat)) (σ : St) : St:=src.map fun o=>match o with
 | none=>none
 | some j=>(σ[j]?).join
def zop (X : Cx) (N' : List Str) (src : List (Option Nat)) : Prop :=
 N'.length = src.length /\ ∀ (i j : Nat) (x : Str),N'[i]? = some x -> src[i]? = some (some j) -> X.N[j]? = some x /\ X.env.scope.names.lookup x = some .cell
section
variable {X : Cx} {pins : List (Addr × Obj)} {σ : St} {H : Hp} {s : Shared} {N' : List Str} {scope : Scope} {cl : List (Str × Addr)} {src : List (Option Nat)} {fp : List Addr}
theorem Inv.block {h₁ : Heap} {tk : Nat} (I : Inv X pins σ H s) (hk : scope.kind = .function) (cok : zmN X scope cl) (sok : zop X N' src) (hf : ∀ b ∈ fp,zdf X pins H b) (hlt : ∀ b ∈ fp,b < s.heap.objs.size)
   (hns : h₁.Ns s.heap.objs.size fun _=>none) (old : ∀ b o,s.heap.get? b = some o -> h₁.get? b = some o)
   (hvis : ∀ (i : Nat) x,N'[i]? = some x -> src[i]? ≠ some none -> (relabel scope X.env).names.lookup x = some .cell \/ (relabel scope X.env).names.lookup x = some .free) :
   Inv (za6 X N' scope cl s.heap.objs.size s H fp pins) [] (zas src σ) H { s with heap:=h₁,toks:=tk }:=by
 have hfr : H s.heap.objs.size = none:=I.hok.fresh (Nat.le_refl _)
 have cne : ∀ x c,cl.lookup x = some c -> c < s.heap.objs.size:=fun x c e=>by
   obtain ⟨v,q⟩:=I.cell x c (cok.sub x c e)
   exact q.lt
 have fplt : ∀ b ∈ fp,b ∉ frs X.stack:=fun b hb z=>by
   obtain ⟨_,f1,f2,_⟩:=hf b hb
   exact (List.mem_cons.mp (I.stkSub b z)).elim f1 f2
 refine ⟨⟨I.ok.mod,?_,I.ok.glob,I.ok.blt,Nat.le_refl _,fun x y c h1 h2=>?_,fun x hx=>?_,fun x c hx=>?_,I.ok.hd,I.ok.frames,.inl rfl,fun b hb=>⟨?_,fun x c e=>?_⟩,I.bs,Nat.le_trans I.ok.bsz I.sz,fun b o e=>?_,fplt,I.stack,I.stkFree⟩,
   rfl,I.bare,Un.kept old,⟨_,hns,fun i x v h1 h2 h3=>?_⟩,fun x c e=>?_,hfr,fun x c e=>?_,fun p hp=>?_,I.hok.kept old,?_⟩
 . show (relabel scope X.env).kind = .function
   exact hk
 . exact I.ok.inj x y c (cok.sub x c h1) (cok.sub y c h2)
 . exact cok.has x hx
 . exact absurd (show false = true from hx) Bool.false_ne_true
 . exact Nat.ne_of_lt (hlt b hb)
 . exact (hf b hb).2.2.2.2.1 x c (cok.sub x c e)
 . intro hb
   obtain ⟨_,_,_,f3,_⟩:=hf b hb
   rcases f3 with z | z
   . exact I.ok.noex b o e z
   . exact absurd (Nat.lt_of_lt_of_le (Heap.lt_size e) (Nat.le_trans I.ok.bsz z)) (Nat.lt_irrefl _)
 . -- a name of the frame around
   have hsrc : ∃ j,src[i]? = some (some j) /\ σ[j]? = some (some v):=by
     unfold zas at h2
     rw [List.getElem?_map] at h2
     cases q : src[i]? with
     | none=>rw [q] at h2; cases h2
     | some o =>
       rw [q] at h2
       cases o with
       | none=>cases h2
       | some j =>
         refine ⟨j,rfl,?_⟩
         have h2' : (σ[j]?).join = some v:=Option.some.inj h2
         cases q2 : σ[j]? with
         | none=>rw [q2] at h2'; cases h2'
         | some z=>rw [q2] at h2'; exact congrArg some h2'
   obtain ⟨j,hj,hv⟩:=hsrc
   obtain ⟨hN,hc⟩:=sok.2 i j x h1 hj
   obtain ⟨m,_,hl⟩:=I.loc
   obtain ⟨u,ru,lk⟩:=hl j x v hN hv (.inr (.inl hc))
   refine ⟨u,ru,.inr ⟨hvis i x h1 (by rw [hj]; intro z; cases z),?_⟩⟩
   rcases lk with ⟨k,_⟩ | ⟨_,c,ec,hcell⟩
   . have k' : X.env.scope.names.lookup x = some .local:=k
     rw [hc] at k'; cases k'
   . obtain ⟨c',ec'⟩:=cok.has x (hvis i x h1 (by rw [hj]; intro z; cases z))
     have:=cok.sub x c' ec'
     rw [ec] at this; cases this
     obtain ⟨o,ho,hd⟩:=hcell
     exact ⟨c,ec',o,old c o ho,hd⟩
 . obtain ⟨v,o,ho,hd⟩:=I.cell x c (cok.sub x c e)
   exact ⟨v,o,old c o ho,hd⟩
 . exact I.freeC x c (cok.sub x c e)
 . have hp' : p ∈ (X.pn ++ pins) ++ []:=hp
   rw [List.append_nil] at hp'
   obtain ⟨e,n,ne,nf,d⟩:=I.pin p hp'
   refine ⟨old _ _ e,n,Nat.ne_of_lt (Heap.lt_size e),fun z=>?_,d⟩
   exact (List.mem_cons.mp (I.stkSub p.1 z)).elim ne nf
 . show (zas src σ).length = N'.length
   unfold zas
   rw [List.length_map,sok.1]
end
def ze6 : TT:=fun _ H Q=>Q true H
def PTs (X : Cx) (ifs : List Expr) (t : TT) : Prop :=
 ∀ (pins : List (Addr × Obj)) (s : Shared) (σ : St) (H : Hp) (Q : Bool -> Hp -> Prop),Inv X pins σ H s -> t σ H Q ->
   wpAny (model X.prog X.w) X.A (forIn ifs true fun c r=>if r = true then do let ok <- isTrue c X.env (eval c X.env); pure (ForInStep.yield ok) else pure (ForInStep.yield r)) (TP X pins σ Q) X.xe s
theorem zax {X : Cx} : PTs X [] ze6:=fun _ _ _ H _ I h=>wpAny_tests_nil ⟨H,I,h⟩
theorem zjP {X : Cx} {c : Expr} {t : TT} (hc : PT X c t) : PTs X [c] t:=fun pins s σ H Q I h=>wpAny_tests_one (hc pins s σ H Q I h)
section
variable {prog : Program} {w : World} {A : Around} {R : Result -> Shared -> Prop} {s : Shared}
theorem zhr {elt target iter : Expr} {ifs : List Expr} {scope : Scope} {pos : Pos} {it acc : Value} {env : Env} (I : Nat -> Shared -> Prop)
   (turn : ∀ n s,I n s -> wpAny (model prog w) A (pyNext it) (fun r s₁=>match r with
     | none=>R (.ok .next) s₁
     | some v=>wpAny (model prog w) A (letOwnedTupleGo target it v) (fun _ s₁'=>wpAny (model prog w) A (assign target env v) (fun _ s₂ =>
         wpAny (model prog w) A (forIn ifs true fun c r=>if r = true then do let ok <- isTrue c env (eval c env); pure (ForInStep.yield ok) else pure (ForInStep.yield r)) (fun ok s₃ =>
           if ok = true then wpAny (model prog w) A (eval elt env) (fun x s₄ =>
             wpAny (model prog w) A (call (.builtin "list.append") [acc,x]) (fun _ s₅=>∃ m,m < n /\ I m s₅) (fun _ _=>False) s₄) (fun _ _=>False) s₃
           else ∃ m,m < n /\ I m s₃) (fun _ _=>False) s₂) (fun _ _=>False) s₁') (fun _ _=>False) s₁) (fun _ _=>False) s)
   (n : Nat) (h : I n s) : codeAny (model prog w) A (.compLoop (.ListComp elt [⟨target,iter,ifs,0⟩] scope pos) 0 it acc env) R s:=by
 refine codeAny_loop rfl I (fun n s hI=>?_) n h
 show wpAny _ A ((compTurn (.ListComp elt [⟨target,iter,ifs,0⟩] scope pos) 0 it acc env).onRaise (fun x=>do noteFrame x env; theTreesLotGoes x)) _ _ s
 refine wpAny_noted ?_
 rw [compTurn_list]
 refine wpAny_bind (wpAny_standAt (wpAny_bind (wpAny_mono (turn n s hI) (fun r s₁ h₁=>?_) fun _ _ h'=>h'.elim)))
 cases r with
 | none=>exact wpAny_pure h₁
 | some v =>
   refine wpAny_bind (wpAny_mono h₁ (fun _ s₁' h₁'=>?_) fun _ _ h'=>h'.elim)
   refine wpAny_bind (wpAny_mono h₁' (fun _ s₂ h₂=>wpAny_bind (wpAny_mono h₂ (fun ok s₃ h₃=>?_) fun _ _ h'=>h'.elim)) fun _ _ h'=>h'.elim)
   cases ok with
   | false=>exact wpAny_pure ⟨rfl,h₃⟩
   | true=>exact wpAny_bind (wpAny_bind (wpAny_mono h₃ (fun x s₄ h₄=>wpAny_bind (wpAny_mono h₄ (fun _ s₅ h₅=>wpAny_pure (wpAny_pure ⟨rfl,h₅⟩)) fun _ _ h'=>h'.elim)) fun _ _ h'=>h'.elim))
end
def zcL (g : TG) (tt : TT) (te : TE) (J : It) (D : Addr) (σ0 : St) (H0 : Hp) (Q : Hp -> Prop) : Prop :=
 ∃ W : Nat -> Nat -> St -> Hp -> Prop,(∃ m,W 0 m σ0 H0) /\ ∀ i m σ' H',W i m σ' H' ->
   (J.stop i H' /\ Q H') \/ (J.go i H' /\ ∃ M : St -> Hp -> Prop,(∀ σ2 H2,M σ2 H2 -> ∃ m',m' < m /\ W (i + 1) m' σ2 H2) /\
     ∀ x H2,J.yld i H' x H2 -> g x σ' H2 fun σ3 H3=>tt σ3 H3 fun ok H4=>if ok = true then te σ3 H4 fun y H5=>∃ ys,H5 D = some (.lst ys) /\ ys.length < sizeLine /\ M σ3 (upd H5 D (.lst (ys ++ [y]))) else M σ3 H4)
def zfh (src : List (Option Nat)) (wi : TI) (g : TG) (tt : TT) (te : TE) : TE:=fun σ H Q=>wi σ H fun J H1=>∀ D,H1 D = none -> zcL g tt te J D (zas src σ) (upd H1 D (.lst [])) (fun H'=>Q (.ref D) H')
structure zoH (Y : Cx) (tg : Expr) (J : It) (fp : List Addr) (it : Addr) (tn : Nat -> Heap -> Prop) : Prop where
 item : ∀ (i : Nat) (pins : List (Addr × Obj)) (s : Shared) (σ : St) (H : Hp) (E : Value -> Shared -> Prop),Inv Y pins σ H s -> (∀ b ∈ fp,zdf Y pins H b) -> tn i s.heap -> J.go i H ->
   wpAny (model Y.prog Y.w) Y.A (pyNext (.ref it)) (fun r s1=>∃ u,r = some u /\ wpAny (model Y.prog Y.w) Y.A (letOwnedTupleGo tg (.ref it) u) (fun _ s2=>∃ x H',Inv Y pins σ H' s2 /\ zaG x u /\ J.yld i H x H' /\ tn (i + 1) s2.heap /\ ∀ b ∈ fp,H' b = none) E s1) E s
 done : ∀ (i : Nat) (pins : List (Addr × Obj)) (s : Shared) (σ : St) (H : Hp) (E : Value -> Shared -> Prop),Inv Y pins σ H s -> (∀ b ∈ fp,zdf Y pins H b) -> tn i s.heap -> J.stop i H ->
   wpAny (model Y.prog Y.w) Y.A (pyNext (.ref it)) (fun r s1=>r = none /\ Inv Y pins σ H s1) E s
theorem zhz.toC {P : Program} {w : World} {K : PySem.W.Frag} {tg : Expr} {J : It} {fp : List Addr} {it : Addr} {tn : Nat -> Heap -> Prop} (T : zhz P w K tg J fp it tn) {Y : Cx} (h1 : Y.prog = P) (h2 : Y.w = w) (h3 : Y.K = K) (hc : Y.calm = true) : zoH Y tg J fp it tn:=by
 subst h1 h2 h3
 exact ⟨T.item Y rfl rfl rfl hc,T.done Y rfl rfl rfl hc⟩
section
variable {X : Cx} {pins : List (Addr × Obj)} {σ : St} {H : Hp} {s : Shared} {N' : List Str} {scope : Scope} {cl : List (Str × Addr)} {src : List (Option Nat)} {elt tgt iter : Expr} {ifs : List Expr} {pos : Pos} {wi : TI} {g : TG} {tt : TT} {te : TE}
structure zau (X : Cx) (N' : List Str) (scope : Scope) (cl : List (Str × Addr)) (src : List (Option Nat)) : Prop where
 kind : scope.kind = .function
 cell : ∀ y ∈ scope.names,y.2 ≠ .cell
 names : ∀ y ∈ scope.names,y.2 = .local -> scope.names.lookup y.1 = some .local
 clos : zmN X scope cl
 srco : zop X N' src
 vis : ∀ (i : Nat) x,N'[i]? = some x -> src[i]? ≠ some none -> (relabel scope X.env).names.lookup x = some .cell \/ (relabel scope X.env).names.lookup x = some .free
theorem zhi {it : Addr} {fp : List Addr} {tn : Nat -> Heap -> Prop} {J : It} {RQ : Addr -> Hp -> Prop} {E : Value -> Shared -> Prop} {RR : Value -> Addr -> Result -> Shared -> Prop}
   (TC : ∀ C s₀ H₀,zoH (za6 X N' scope cl C s₀ H₀ fp pins) tgt J fp it tn) (ok : zau X N' scope cl src)
   (hg : ∀ C s₀ H₀ fp pins,PG (za6 X N' scope cl C s₀ H₀ fp pins) tgt g) (ht : ∀ C s₀ H₀ fp pins,PTs (za6 X N' scope cl C s₀ H₀ fp pins) ifs tt) (he : ∀ C s₀ H₀ fp pins,PE (za6 X N' scope cl C s₀ H₀ fp pins) elt te)
   (I : Inv X pins σ H s) (T : zhz X.prog X.w X.K tgt J fp it tn) (st : tn 0 s.heap) (hf : ∀ b ∈ fp,zdf X pins H b)
   (rd : ∀ D,H D = none -> zcL g tt te J D (zas src σ) (upd H D (.lst [])) (fun H'=>RQ D H'))
   (hRR : ∀ D C H' s' m,Inv X pins σ H' s' -> s'.heap.Ns C m -> zdf X pins H' C -> RQ D H' -> RR (.ref D) C (.ok .next) s') :
   wpAny (model X.prog X.w) X.A (newList []) (fun acc s₃=>wpAny (model X.prog X.w) X.A (newFunctionEnv scope X.env.globals cl [] X.env.qual none .none (some X.env)) (fun cenv s₄ =>
     codeAny (model X.prog X.w) X.A (.compStart (.ListComp elt [⟨tgt,iter,ifs,0⟩] scope pos) 0 (.ref it) acc { cenv with scope:=relabel scope X.env }) (RR acc cenv.locals) s₄) E s₃) E s:=by
 -- the list
 refine wpAny_newObj_type ?_ (by show 0 <= sizeLine; exact Nat.zero_le _)
 have hD : H s.heap.objs.size = none:=I.hok.fresh (Nat.le_refl _)
 have I3 : Inv X pins σ (upd H s.heap.objs.size (.lst [])) { s with heap:=s.heap.push { cls:=.type "list",data:=.seq ([] : List Value).toArray } } :=
   I.lnew (ys:=[]) (its:=[]) (t':=s.toks) .nil (Nat.zero_le _)
 have old3 : ∀ b o,s.heap.get? b = some o -> (s.heap.push { cls:=.type "list",data:=.seq ([] : List Value).toArray }).get? b = some o:=fun b o e=>Heap.get?_push_of_some _ e
 have lt0 : ∀ b ∈ fp,b < s.heap.objs.size:=fun b hb=>by
   obtain ⟨o,e,_⟩:=T.obj 0 _ st b hb
   exact Heap.lt_size e
 have hf3 : ∀ b ∈ fp,zdf X pins (upd H s.heap.objs.size (.lst [])) b:=fun b hb=>⟨by rw [zaZ (Nat.ne_of_lt (lt0 b hb))]; exact (hf b hb).1,(hf b hb).2⟩
 have lt3 : ∀ b ∈ fp,b < (s.heap.push { cls:=.type "list",data:=.seq ([] : List Value).toArray }).objs.size:=fun b hb=>by
   rw [Heap.size_push]; exact Nat.lt_succ_of_lt (lt0 b hb)
 have st3 : tn 0 (s.heap.push { cls:=.type "list",data:=.seq ([] : List Value).toArray }):=T.keep _ _ _ st fun b _ o e=>old3 b o e
 obtain ⟨W,⟨m0,w0⟩,turn⟩:=rd _ hD
 generalize hs3 : ({ s with heap:=s.heap.push { cls:=.type "list",data:=.seq ([] : List Value).toArray } } : Shared) = s3 at I3 ⊢
 have hh3 : s3.heap = s.heap.push { cls:=.type "list",data:=.seq ([] : List Value).toArray }:=by rw [<- hs3]
 rw [<- hh3] at lt3 st3
 clear old3 hs3 hh3
 generalize hD' : s.heap.objs.size = D at *
 -- the block's dict
 refine wpAny_newFunctionEnv ok.cell (by intro y hy; cases hy) (fun h₁ hns₁ hsb₁=>?_) ok.kind
 have old : ∀ b o,s3.heap.get? b = some o -> h₁.get? b = some o:=fun b o e=>hsb₁.extBut b o (Nat.ne_of_lt (Heap.lt_size e)) (Heap.get?_push_of_some _ e)
 have hC : zdf X pins (upd H D (.lst [])) s3.heap.objs.size:=I3.fpOk (Nat.le_refl _) (I3.hok.fresh (Nat.le_refl _))
 have IB : ∀ tk,Inv (za6 X N' scope cl s3.heap.objs.size s3 (upd H D (.lst [])) fp pins) [] (zas src σ) (upd H D (.lst [])) { s3 with heap:=h₁,toks:=tk }:=fun tk =>
   I3.block ok.kind ok.clos ok.srco hf3 lt3 hns₁ old ok.vis
 have stB : tn 0 h₁:=T.keep _ _ _ st3 fun b _ o e=>old b o e
 -- what is true of the iterator's records within
 have stat : ∀ {H' : Hp} ,(∀ b ∈ fp,H' b = none) -> ∀ b ∈ fp,zdf (za6 X N' scope cl s3.heap.objs.size s3 (upd H D (.lst [])) fp pins) [] H' b:=fun hn b hb=>by
   obtain ⟨_,f1,f2,f3,f4,f5⟩:=hf3 b hb
   refine ⟨hn b hb,Nat.ne_of_lt (lt3 b hb),fun z=>(List.mem_cons.mp (I3.stkSub b z)).elim f1 f2,.inl hb,fun x c e=>f4 x c (ok.clos.sub x c e),fun p hp=>?_⟩
   have hp' : p ∈ (X.pn ++ pins) ++ []:=hp
   rw [List.append_nil] at hp'
   exact f5 p hp'
 -- from within back to the frame around
 have back : ∀ {σ' : St} {H' : Hp} {s' : Shared},Inv (za6 X N' scope cl s3.heap.objs.size s3 (upd H D (.lst [])) fp pins) [] σ' H' s' -> Inv X pins σ H' s' /\ (∃ m,s'.heap.Ns s3.heap.objs.size m) /\ zdf X pins H' s3.heap.objs.size:=fun {σ' H' s'} J=>by
   obtain ⟨m,hn,_⟩:=J.loc
   refine ⟨I3.call' (ch:=fp) J.os J.base J.hok J.bare (fun b hb=>?_),⟨m,hn⟩,⟨J.free,hC.2⟩⟩
   obtain ⟨_,f1,_,f3,f4,f5⟩:=hf3 b hb
   exact ⟨f3,f1,f4,f5⟩
 have loop : ∀ tk,codeAny (model X.prog X.w) X.A (.compLoop (.ListComp elt [⟨tgt,iter,ifs,0⟩] scope pos) 0 (.ref it) (.ref D) (compEnvC scope cl s3.heap.objs.size X.env)) (RR (.ref D) s3.heap.objs.size) { s3 with heap:=h₁,toks:=tk }:=by
   intro tk
   refine zhr (fun n s'=>∃ i σ' H',Inv (za6 X N' scope cl s3.heap.objs.size s3 (upd H D (.lst [])) fp pins) [] σ' H' s' /\ tn i s'.heap /\ (∀ b ∈ fp,H' b = none) /\ W i n σ' H') ?_ m0
     ⟨0,_,_,IB tk,stB,fun b hb=>(hf3 b hb).1,w0⟩
   rintro n s4 ⟨i,σ4,H4,I4,st4,fr4,w4⟩
   rcases turn i n σ4 H4 w4 with ⟨stop,q⟩ | ⟨go,M,hM,step⟩
   . refine thn ((TC _ _ _).done i [] s4 σ4 H4 (fun _ _=>False) I4 (stat fr4) st4 stop) fun r s5 ⟨hr,I5⟩=>?_
     subst hr
     obtain ⟨J,⟨m,hn⟩,hCf⟩:=back I5
     exact hRR D _ H4 s5 m J hn hCf q
   . refine thn ((TC _ _ _).item i [] s4 σ4 H4 (fun _ _=>False) I4 (stat fr4) st4 go) fun r s5 ⟨u,hr,h5⟩=>?_
     subst hr
     refine thn h5 fun _ s6 ⟨x,H6,I6,r6,y6,st6,fr6⟩=>?_
     have I6':=I6.pinned (stat fr6) (T.obj _ _ st6)
     have again : ∀ {σ7 : St} {H7 : Hp} {s7 : Shared},Inv (za6 X N' scope cl s3.heap.objs.size s3 (upd H D (.lst [])) fp pins) ([] ++ zfD fp s6.heap) σ7 H7 s7 -> M σ7 H7 ->
         ∃ m,m < n /\ ∃ i σ' H',Inv (za6 X N' scope cl s3.heap.objs.size s3 (upd H D (.lst [])) fp pins) [] σ' H' s7 /\ tn i s7.heap /\ (∀ b ∈ fp,H' b = none) /\ W i m σ' H':=fun {σ7 H7 s7} I7 n7=>by
       obtain ⟨m',hm,w7⟩:=hM σ7 H7 n7
       refine ⟨m',hm,i + 1,σ7,H7,I7.unpinned,T.keep _ _ _ st6 fun b hb o e=>(I7.pin (b,o) (List.mem_append_right _ (List.mem_append_right _ (zcS hb e)))).1,fun b hb=>?_,w7⟩
       obtain ⟨o,e,d⟩:=T.obj _ _ st6 b hb
       exact (I7.pin (b,o) (List.mem_append_right _ (List.mem_append_right _ (zcS hb e)))).2.1
     refine thn (hg _ _ _ _ _ _ s6 σ4 H6 x u _ I6' r6 (step x H6 y6)) fun _ s7 ⟨σ7,H7,I7,q7⟩=>?_
     refine thn (ht _ _ _ _ _ _ s7 σ7 H7 _ I7 q7) fun k s8 ⟨H8,I8,q8⟩=>?_
     cases k with
     | false=>exact again I8 q8
     | true =>
       rw [if_pos rfl] at q8 ⊢
       refine thn (he _ _ _ _ _ _ s8 σ7 H8 _ I8 q8) fun y s9 ⟨yv,H9,I9,r9,ys,hys,hz,q9⟩=>?_
       exact thn (zcB _ s9 σ7 H9 (.ref D) [yv] (.ref D) [y] (fun _ H'=>M σ7 H') I9 rfl (.cons r9 .nil) ⟨D,ys,yv,rfl,rfl,hys,hz,q9⟩) fun _ s10 ⟨_,H10,I10,_,q10⟩=>again I10 q10
 exact codeAny_compStart_list (loop _) (T.self _ _ _ _ _ stB (loop _))
theorem zaz (hc : X.calm = true) (ok : zau X N' scope cl src) (hi : PI X tgt iter wi)
   (hg : ∀ C s₀ H₀ fp pins,PG (za6 X N' scope cl C s₀ H₀ fp pins) tgt g) (ht : ∀ C s₀ H₀ fp pins,PTs (za6 X N' scope cl C s₀ H₀ fp pins) ifs tt) (he : ∀ C s₀ H₀ fp pins,PE (za6 X N' scope cl C s₀ H₀ fp pins) elt te)
   (hs : ∀ x,foldedSetIterable iter X.env x = pure x:=by intro _; rfl) : PE X (.ListComp elt [⟨tgt,iter,ifs,0⟩] scope pos) (zfh src wi g tt te):=by
 intro pins s σ H Q I h
 rw [eval_ListComp]
 refine wpAny_comprehension_free (use:=none) rfl hs ok.clos.clos ok.kind ok.names (thn (hi pins s σ H _ I h) fun v s1 h1=>thn h1 fun itv s2 h2=>?_)
 obtain ⟨it,fp,tn,J,H2,e,I2,T,st2,f2,rd⟩:=h2
 subst e
 refine zhi (RQ:=fun D H'=>Q (.ref D) H') (RR:=fun acc C=>compPost (model X.prog X.w) X.A X.xe none (EP X pins σ Q) acc C) (fun _ _ _=>T.toC rfl rfl rfl hc) ok hg ht he I2 T st2 f2 rd ?_
 intro D C H' s' m J hn hC q
 obtain ⟨c0,c1,_,c3,c4,c5⟩:=hC
 exact ⟨m,hn,fun h' sb=>⟨.ref D,H',J.turned (t':=s'.toks) (fun b o hb e=>(sb.2 b hb).trans e) c0 c1 c3 c4 c5,rfl,q⟩⟩
theorem zeb {i : Nat} {y : Str} {py spos : Pos} (hN : X.N.Nodup) (hy : X.N[i]? = some y) (hly : Loc X.env.scope y) (hc : X.calm = true) (ok : zau X N' scope cl src) (hi : PI X tgt iter wi)
   (hg : ∀ C s₀ H₀ fp pins,PG (za6 X N' scope cl C s₀ H₀ fp pins) tgt g) (ht : ∀ C s₀ H₀ fp pins,PTs (za6 X N' scope cl C s₀ H₀ fp pins) ifs tt) (he : ∀ C s₀ H₀ fp pins,PE (za6 X N' scope cl C s₀ H₀ fp pins) elt te)
   (hsw : swapsWith (.ListComp elt [⟨tgt,iter,ifs,0⟩] scope pos) (some (.Name y py)) spos.line X.env = pure true:=by rfl)
   (hs : ∀ x,foldedSetIterable iter X.env x = pure x:=by intro _; rfl) (hf : X.fn y = true \/ X.env.scope.names.lookup y = some .local:=by first | exact .inl rfl | exact .inr rfl | assumption) :
   PS X (.Assign [.Name y py] (.ListComp elt [⟨tgt,iter,ifs,0⟩] scope pos) spos) (zmV (zfh src wi g tt te) (zcv i)):=by
 intro pins s σ H D0 I h
 rw [exec_Assign_Name_used _ _ _ _ hsw]
 refine wpAny_bind (wpAny_standAt (wpAny_bind ?_))
 show wpAny _ X.A (do let _ <- comprehension (.ListComp elt [⟨tgt,iter,ifs,0⟩] scope pos) scope X.env _ (newList []) false (eval iter X.env) (some (assign (.Name y py) X.env))) _ _ s
 refine wpAny_bind (wpAny_mono (wpAny_comprehension_free (Q:=fun _ s'=>SP X pins D0 .next s') rfl hs ok.clos.clos ok.kind ok.names (thn (hi pins s σ H _ I h) fun v s1 h1=>thn h1 fun itv s2 h2=>?_))
   (fun _ s' hq=>wpAny_pure (wpAny_pure hq)) fun _ _ e=>e)
 obtain ⟨it,fp,tn,J,H2,e,I2,T,st2,f2,rd⟩:=h2
 subst e
 refine zhi (RQ:=fun D H'=>zcv i (.ref D) σ H' D0.nx) (RR:=fun acc C=>compPost (model X.prog X.w) X.A X.xe (some (assign (.Name y py) X.env)) (fun _ s'=>SP X pins D0 .next s') acc C) (fun _ _ _=>T.toC rfl rfl rfl hc) ok hg ht he I2 T st2 f2 rd ?_
 intro D C H' s' m J hn hC q
 obtain ⟨c0,c1,_,c3,c4,c5⟩:=hC
 show wpAny _ _ (assign (.Name y py) X.env (.ref D)) _ _ s'
 refine wpAny_assign_Name (zg8 J hN hy hly (v:=.ref D) rfl (fun s'' J2 ⟨a,sb,ha⟩=>?_) hf)
 have hCa : C ≠ a:=by
   rcases ha with z | z
   . rw [z]; exact c1
   . exact (c4 y a z).symm
 exact ⟨m,hn.sameBut sb hCa,fun h' sb'=>⟨_,H',J2.turned (t':=s''.toks) (fun b o hb e=>(sb'.2 b hb).trans e) c0 c1 c3 c4 c5,q⟩⟩
end
end L2
set_option Elab.async false
set_option linter.all false
set_option maxRecDepth 100000
namespace L2
open PySem PySem.Spec PyProof.Rows GM
abbrev Tr0 (h B : Heap) (e : Addr) (cls : Value) : Prop :=
 ∃ oe vs,h.get? e = some oe /\ oe.cls = cls /\ oe.data = .fields vs /\ vs[1]? = some .none /\ vs[2]? = some .none /\ oe.dict = none /\ B.get? e = none
abbrev Tr1 (h B : Heap) (e : Addr) (cls fl : Value) : Prop :=
 ∃ oe vs T oT ts,h.get? e = some oe /\ oe.cls = cls /\ oe.data = .fields vs /\ vs[1]? = some (.ref T) /\ vs[2]? = some .none /\ oe.dict = none /\ B.get? e = none /\ B.get? T = none /\ T ≠ e /\ h.get? T = some oT /\ oT.data = .fields ts /\ ts[3]? = some fl
structure Fly (B : Heap) (l : List Env) (e : Addr) (cls fl : Value) (h : Heap) : Prop where
 st : B.StaysIn h
 fr : h.FunFrames B l
 tr : Tr1 h B e cls fl
theorem ziE {f : Array Value -> Array Value} (o : Obj) : (Obj.mapFields f o).dict = o.dict:=by
 obtain ⟨c,d,dt,sl⟩:=o
 cases dt <;> rfl
theorem zcc {h : Heap} {T : Addr} {f : Obj -> Obj} {b : Addr} (n : b ≠ T) : (h.update T f).get? b = h.get? b:=Heap.get?_update_other _ _ (Ne.symm n)
theorem zdv {h : Heap} {T b : Addr} {oT o : Obj} {ts : Array Value} (hT : h.get? T = some oT) (dT : oT.data = .fields ts) (hb : h.get? b = some o) (hn : ∀ vs,o.data ≠ .fields vs) : b ≠ T:=by
 rintro rfl
 rw [hT] at hb
 cases hb
 exact hn _ dT
theorem zjK {B : Heap} {T b : Addr} {o : Obj} (n : B.get? T = none) (q : B.get? b = some o) : b ≠ T:=by
 rintro rfl
 rw [n] at q
 cases q
section
variable {M : Model} {A : Around} {E : Value -> Shared -> Prop} {s : Shared} {B : Heap} {l outer : List Env} {env : Env} {L e : Addr} {cls fl : Value} {Q : Unit -> Shared -> Prop}
theorem Fly.land (F : Fly B l e cls fl s.heap) (k : ∀ h',Fly B l e cls .none h' -> s.heap.UpToSlots h' -> Q () { s with heap:=h' }) : wpAny M A (setFlight (.ref e) none) Q E s:=by
 obtain ⟨st,fr,oe,vs,T,oT,ts,he,hc,hd,h1,h2,hdi,be,bT,ne,hT,dT,h3⟩:=F
 have sz : 3 < ts.size:=(Array.getElem?_eq_some_iff.mp h3).1
 unfold setFlight
 refine wpAny_bind (wpAny_field he hd h1 ?_)
 rw [if_pos (by simp)]
 have at3 : ∀ b,b ≠ T -> (s.heap.update T (Obj.mapFields (·.setIfInBounds 3 Value.none))).get? b = s.heap.get? b:=fun b n=>zcc n
 have tr : Tr1 (s.heap.update T (Obj.mapFields (·.setIfInBounds 3 Value.none))) B e cls .none :=
   ⟨oe,vs,T,Obj.mapFields (·.setIfInBounds 3 Value.none) oT,ts.setIfInBounds 3 Value.none,(at3 e ne.symm).trans he,hc,hd,h1,h2,hdi,be,bT,ne,
     Heap.get?_update_self _ hT (Obj.isFreed_of_fields (Obj.data_mapFields dT _)),Obj.data_mapFields dT _,by simp [sz]⟩
 refine wpAny_setField hT dT sz (k _ ⟨fun b o q=>(at3 b (zjK bT q)).trans (st b o q),fr.of_keeps fun b o hb hn=>⟨o,(at3 b (zdv hT dT hb hn)).trans hb,rfl⟩,tr⟩ fun b o hb hn=>⟨o.slots,(at3 b (zdv hT dT hb hn)).trans hb⟩)
theorem zgR {oe : Obj} {vs : Array Value} {head : Value} {had : Bool} (hfr : A.frames = some (env :: outer)) (hf : env.frame = some L) (st : B.StaysIn s.heap) (fr : s.heap.FunFrames B (env :: outer)) (he : s.heap.get? e = some oe)
   (hd : oe.data = .fields vs) (sz : 1 < vs.size) (h2 : vs[2]? = some .none) (hdi : oe.dict = none) (be : B.get? e = none) (k : ∀ h',Fly B (env :: outer) e oe.cls (rawInt L) h' -> s.heap.UpToSlots h' -> Q () { s with heap:=h' }) :
   wpAny M A (do let a <- frameOf env; let pl <- entryPlaceOf L had; let b <- EntryCells.newEntry head a .none (rawInt L) .none pl; setField (.ref e) 1 b) Q E s:=by
 have nfr : e ∉ (env :: outer).filterMap (·.frame):=fun z=>by
   obtain ⟨_,o,ho,hnf⟩:=fr.mem z
   rw [he] at ho
   cases ho
   exact hnf vs hd
 refine wpAny_bind (wpAny_frameOf_fun hfr fr hf fun g sg=>wpAny_bind (wpAny_entryPlaceOf fun pl hpl=>?_))
 unfold EntryCells.newEntry newFields
 refine wpAny_bind (wpAny_newObj_type ?_ (hpl.sizeOk5 _ _ _ _ _))
 have eg : g.get? e = some oe:=(sg.2.1 e nfr).trans he
 have stg : B.StaysIn g:=fun b o q=>by
   rw [sg.2.1 b fun z=>?_]
   . exact st b o q
   . rw [(fr.mem z).1] at q; cases q
 generalize hob : ({ cls:=.type "traceback",data:=.fields ([head,.ref L,.none,rawInt L,.none] ++ (if pl.isEmpty then List.replicate 6 Value.none else pl)).toArray } : Obj) = tb
 have dtb : tb.data = .fields ([head,.ref L,.none,rawInt L,.none] ++ (if pl.isEmpty then List.replicate 6 Value.none else pl)).toArray:=by rw [<- hob]
 have ftb : tb.isFreed = false:=Obj.isFreed_of_fields dtb
 have e2:=Heap.get?_push_of_some (h:=g) tb eg
 have neT : g.objs.size ≠ e:=Nat.ne_of_gt (Heap.lt_size eg)
 have at3 : ∀ b o,b ≠ e -> g.get? b = some o -> ((g.push tb).update e (Obj.mapFields (·.setIfInBounds 1 (.ref g.objs.size)))).get? b = some o:=fun b o n q=>by
   rw [zcc n]
   exact Heap.get?_push_of_some _ q
 refine wpAny_setField e2 hd sz (k _ ?_ ?_)
 . have d3:=Obj.data_mapFields hd (·.setIfInBounds 1 (Value.ref g.objs.size))
   refine ⟨fun b o q=>at3 b o (zjK be q) (stg b o q),fr.of_keeps fun b o hb hn=>?_,_,_,g.objs.size,tb,_,Heap.get?_update_self _ e2 (Obj.isFreed_of_fields d3),Obj.cls_mapFields _ _,d3,by simp [sz],?_,?_,be,stg.fresh,neT,?_,dtb,?_⟩
   . obtain ⟨sl,q⟩:=sg.2.2 b o hb
     exact ⟨_,at3 b _ (zdv he hd hb hn) q,rfl⟩
   . rw [Array.getElem?_setIfInBounds_ne (by decide)]; exact h2
   . exact (ziE oe).trans hdi
   . rw [zcc neT]; exact Heap.get?_push_size _ ftb
   . first | (simp; done) | (rcases hpl with rfl | ⟨_,_,_,_,_,_,_,rfl⟩ <;> simp)
 . exact fun b o hb hn=>by
     obtain ⟨sl,q⟩:=sg.2.2 b o hb
     exact ⟨sl,at3 b _ (zdv he hd hb hn) q⟩
theorem zk8 (hfr : A.frames = some (env :: outer)) (hf : env.frame = some L) (st : B.StaysIn s.heap) (fr : s.heap.FunFrames B (env :: outer)) (t : Tr0 s.heap B e cls)
   (k : ∀ h',Fly B (env :: outer) e cls (rawInt L) h' -> s.heap.UpToSlots h' -> Q () { s with heap:=h' }) : wpAny M A (noteFrame (.ref e) env) Q E s:=by
 obtain ⟨oe,vs,he,hc,hd,h1,h2,hdi,be⟩:=t
 subst hc
 unfold noteFrame
 simp only [hf]
 refine wpAny_bind (wpAny_field he hd h1 ?_)
 rw [if_neg (by decide)]
 exact zgR hfr hf st fr he hd (Array.getElem?_eq_some_iff.mp h1).1 h2 hdi be k
theorem Fly.note (F : Fly B (env :: outer) e cls .none s.heap) (hfr : A.frames = some (env :: outer)) (hf : env.frame = some L)
   (k : ∀ h',Fly B (env :: outer) e cls (rawInt L) h' -> s.heap.UpToSlots h' -> Q () { s with heap:=h' }) : wpAny M A (noteFrame (.ref e) env) Q E s:=by
 obtain ⟨st,fr,oe,vs,T,oT,ts,he,hc,hd,h1,h2,hdi,be,bT,ne,hT,dT,h3⟩:=F
 subst hc
 unfold noteFrame
 simp only [hf]
 refine wpAny_bind (wpAny_field he hd h1 ?_)
 rw [if_pos (by simp)]
 refine wpAny_bind (wpAny_field hT dT h3 ?_)
 rw [if_neg (by simp [rawInt])]
 refine wpAny_bind (wpAny_setField hT dT (Array.getElem?_eq_some_iff.mp h3).1 ?_)
 refine zgR hfr hf (fun b o q=>?_) (fr.of_keeps fun b o hb hn=>⟨o,?_,rfl⟩) ?_ hd (Array.getElem?_eq_some_iff.mp h1).1 h2 hdi be fun h' F' sm=>k h' F' fun b o hb hn=>sm b o ?_ hn
 . show (Heap.update _ _ _).get? b = _
   rw [zcc (zjK bT q)]; exact st b o q
 . show (Heap.update _ _ _).get? b = _
   rw [zcc (zdv hT dT hb hn)]; exact hb
 . show (Heap.update _ _ _).get? e = _
   rw [zcc ne.symm]; exact he
 . show (Heap.update _ _ _).get? b = _
   rw [zcc (zdv hT dT hb hn)]; exact hb
theorem zjG (hfr : A.frames = some (env :: outer)) (hf : env.frame = some L) (st : B.StaysIn s.heap) (fr : s.heap.FunFrames B (env :: outer)) (t : Tr0 s.heap B e cls)
   (k : ∀ h',Fly B outer e cls .none h' -> s.heap.UpToSlots h' -> Q () { s with heap:=h' }) : wpAny M A (leaving env (.ref e)) Q E s:=by
 unfold leaving
 refine wpAny_bind (zk8 hfr hf st fr t fun h1 F1 s1=>Fly.land F1 fun h2 F2 s2=>k h2 ⟨F2.st,F2.fr.2.2,F2.tr⟩ (s1.trans s2))
theorem Fly.leave (F : Fly B (env :: outer) e cls .none s.heap) (hfr : A.frames = some (env :: outer)) (hf : env.frame = some L)
   (k : ∀ h',Fly B outer e cls .none h' -> s.heap.UpToSlots h' -> Q () { s with heap:=h' }) : wpAny M A (leaving env (.ref e)) Q E s:=by
 unfold leaving
 refine wpAny_bind (F.note hfr hf fun h1 F1 s1=>Fly.land F1 fun h2 F2 s2=>k h2 ⟨F2.st,F2.fr.2.2,F2.tr⟩ (s1.trans s2))
end
theorem zbe.there {P : Program} {w : World} {H : Hp} {h : Heap} {a : Addr} {o : HO} (x : zbe P w H h a o) : ∃ u,h.get? a = some u:=by
 cases o with
 | lst xs=>obtain ⟨_,_,_,_,e⟩:=x; exact ⟨_,e⟩
 | tup xs=>obtain ⟨_,_,_,_,e,_⟩:=x; exact ⟨_,e⟩
 | dK kvs=>obtain ⟨_,_,_,_,o,_,_,e,_⟩:=x; exact ⟨_,e⟩
 | dT kvs=>obtain ⟨_,_,_,_,o,_,_,e,_⟩:=x; exact ⟨_,e⟩
 | set S n=>obtain ⟨o,_,_,_,e,_⟩:=x; exact ⟨_,e⟩
 | ins C dx fs=>obtain ⟨_,_,_,e,_⟩:=x; exact ⟨_,e⟩
 | own y=>exact x
 | xd fs=>obtain ⟨_,⟨_,_,_,e,_⟩,_⟩:=x; exact ⟨_,e⟩
 | rng lo hi=>obtain ⟨_,_,_,e⟩:=x; exact ⟨_,e⟩
 | frz ob u=>obtain ⟨e,_⟩:=x; exact ⟨_,e⟩
 | tbl ps=>exact ⟨_,x⟩
 | met f y=>exact ⟨_,x⟩
 | ext φ=>obtain ⟨_,e,_⟩:=x; exact e
structure zp7 (B : Heap) (fs : List Addr) (H H' : Hp) (h : Heap) : Prop where
 trk : ∀ a o,H' a = some o -> ∃ u,B.get? a = some u
 old : ∀ b o,h.get? b = some o -> H b = none -> b ∉ fs -> B.get? b = some o
 thr : ∀ b o,h.get? b = some o -> b ∉ fs -> ∃ u,B.get? b = some u
def CX1 (P : Program) (w : World) : CXT:=fun outer H s E e s'=>∃ (ex : Addr) (C : Value) (H' : Hp) (B : Heap),e = .ref ex /\ s'.os = s.os /\ AllBare s'.gens /\ Un (frs outer) [] H H' s.heap s'.heap /\ HOk P w H' s'.heap /\
 Fly B outer ex C .none s'.heap /\ zp7 B (frs outer) H H' s.heap /\ E C none H'
section
variable {B h h1 h' : Heap} {fs : List Addr} {H H' : Hp} {P : Program} {w : World}
end
section
variable {X : Cx} {pins : List (Addr × Obj)} {σ : St} {H H' : Hp} {s s' : Shared} {B : Heap} {ex : Addr} {C : Value} {E : XK} {E' : Value -> Shared -> Prop}
theorem ze9 (I : Inv X pins σ H s) (hx : X.ex = []) (os : s'.os = s.os) (bare : AllBare s'.gens) (un : Un (frs X.stack) [] H H' s.heap s'.heap) (hok : HOk X.prog X.w H' s'.heap) (stB : B.StaysIn s'.heap) (ov : zp7 B (frs X.stack) H H' s.heap)
   (q : E C none H') (fly : ∀ (Q : Unit -> Shared -> Prop),(∀ h',Fly B X.outer ex C .none h' -> s'.heap.UpToSlots h' -> Q () { s' with heap:=h' }) -> wpAny (model X.prog X.w) X.A (leaving X.env (.ref ex)) Q E' s') :
   wpAny (model X.prog X.w) X.A (leaving X.env (.ref ex)) (fun _ s''=>CX1 X.prog X.w X.outer X.H₀ X.s₀ E (.ref ex) s'') E' s':=by
 have base : Un X.fs [] X.H₀ H X.s₀.heap s.heap:=by have:=I.base; rwa [hx] at this
 have nL : ∀ b o,X.s₀.heap.get? b = some o -> b ∉ X.fs -> b ∉ frs X.stack:=fun b o e n z=>by
   rcases List.mem_cons.mp (I.stkSub b z) with r | r
   . exact Nat.ne_of_lt (Nat.lt_of_lt_of_le (Heap.lt_size e) I.ok.above) r
   . exact n r
 have old : ∀ b o,X.s₀.heap.get? b = some o -> X.H₀ b = none -> b ∉ X.fs -> B.get? b = some o:=fun b o e n nf =>
   ov.old b o (base.keep b o e n nf (by simp)) (base.free b o e n (by simp)) (nL b o e nf)
 have thr : ∀ b o,X.s₀.heap.get? b = some o -> b ∉ X.fs -> ∃ u,B.get? b = some u:=fun b o e nf=>by
   obtain ⟨o',e1⟩:=base.there b o e (by simp)
   exact ov.thr b o' e1 (nL b o e nf)
 refine fly _ fun h' F sm=>⟨ex,C,H',B,rfl,os.trans I.os,bare,⟨fun b o e n nf _=>F.st b o (old b o e n nf),fun b o e n hb _=>?_,fun b o e n _=>?_,fun b o e _=>?_,fun b xs e=>un.tups b xs (base.tups b xs e),
   fun b o u e=>un.frzs b o u (base.frzs b o u e),fun b ps e=>?_⟩,fun a o e=>?_,F,⟨ov.trk,old,thr⟩,q⟩
 . obtain ⟨sl,e1⟩:=base.slot b o e n hb (by simp)
   obtain ⟨sl',e2⟩:=un.any e1 (base.free b o e n (by simp)) (by simp)
   obtain ⟨_,o',ho',nr⟩:=I.ok.funs.mem hb
   rw [e] at ho'
   cases ho'
   obtain ⟨sl2,e3⟩:=sm b _ e2 nr
   exact ⟨sl2,e3⟩
 . obtain ⟨o',e1⟩:=base.there b o e (by simp)
   exact un.free b o' e1 (base.free b o e n (by simp)) (by simp)
 . by_cases hb : b ∈ X.fs
   . obtain ⟨_,o',ho',nr⟩:=I.ok.funs.mem hb
     rw [e] at ho'
     cases ho'
     have n : X.H₀ b = none:=I.ok.frf b hb
     obtain ⟨sl,e1⟩:=base.slot b o e n hb (by simp)
     obtain ⟨sl',e2⟩:=un.any e1 (base.free b o e n (by simp)) (by simp)
     obtain ⟨sl2,e3⟩:=sm b _ e2 nr
     exact ⟨_,e3⟩
   . obtain ⟨u,e1⟩:=thr b o e hb
     exact ⟨u,F.st b u e1⟩
 . obtain ⟨m1,e1⟩:=base.tbls b ps e
   obtain ⟨m2,e2⟩:=un.tbls b _ e1
   exact ⟨m1 ++ m2,by rw [e2,Array.append_assoc]⟩
 . refine (hok a o e).stay (fun b u hb r=>?_) (fun _ z=>z) fun _ _ z=>z
   have : ∃ v,B.get? b = some v:=by
     rcases hb with rfl | hb
     . exact ov.trk _ _ e
     . exact ov.trk _ _ hb
   obtain ⟨v,ev⟩:=this
   have e2:=stB b v ev
   rw [r] at e2
   cases e2
   exact F.st b u ev
theorem zkt {e : Value} (I : Inv X pins σ H s) (hx : X.ex = []) (hs : X.stack = X.env :: X.outer) (hf : X.env.frame = some X.env.locals) (h : CX1 X.prog X.w X.stack H s E e s') :
   wpAny (model X.prog X.w) X.A (leaving X.env e) (fun _ s''=>CX1 X.prog X.w X.outer X.H₀ X.s₀ E e s'') E' s':=by
 obtain ⟨ex,C,H',B,rfl,os,bare,un,hok,F,ov,q⟩:=h
 rw [hs] at F
 exact ze9 I hx os bare un hok F.st ov q fun Q k=>F.leave (I.ok.frames.trans (congrArg some hs)) hf k
theorem zjz {h' : Heap} {vs : List Value} (I : Inv X pins σ H s) (hx : X.ex = []) (hs : X.stack = X.env :: X.outer) (hf : X.env.frame = some X.env.locals) (m : Heap.MadeExcOf s.heap h' ex C vs) (q : E C none H) :
   wpAny (model X.prog X.w) X.A (leaving X.env (.ref ex)) (fun _ s''=>CX1 X.prog X.w X.outer X.H₀ X.s₀ E (.ref ex) s'') E' { s with heap:=h' }:=by
 obtain ⟨B,hB⟩ : ∃ B,B = PySem.W.hideAll s.heap (frs X.stack):=⟨_,rfl⟩
 have hin : ∀ env ∈ X.stack,∀ b,env.frame = some b -> b ∈ frs X.stack:=fun env he b hb=>List.mem_filterMap.mpr ⟨env,he,hb⟩
 have frB : s.heap.FunFrames B X.stack:=by rw [hB]; exact PySem.W.funFrames_hide I.stack hin
 have getB : ∀ {b o},s.heap.get? b = some o -> b ∉ frs X.stack -> B.get? b = some o:=fun e n=>by rw [hB]; exact PySem.W.hideAll_get _ e n
 have ofB : ∀ {b o},B.get? b = some o -> s.heap.get? b = some o:=fun r=>by rw [hB] at r; exact PySem.W.of_hideAll _ r
 have nfr : ∀ a o,H a = some o -> a ∉ frs X.stack:=fun a o e z=>by
   have:=I.stkFree a z
   rw [e] at this
   cases this
 obtain ⟨t,he,_,_⟩:=m.there
 refine ze9 (B:=B) (s':={ s with heap:=h' }) I hx rfl I.bare (Un.kept m.keeps) (I.hok.kept m.keeps) (fun b o r=>m.keeps b o (ofB r))
   ⟨fun a o e=>?_,fun b o e _ nf=>getB e nf,fun b o e nf=>⟨o,getB e nf⟩⟩ q fun Q k=>?_
 . obtain ⟨u,e1⟩:=(I.hok a o e).there
   exact ⟨u,getB e1 (nfr a o e)⟩
 . rw [hs] at frB
   refine zjG (s:={ s with heap:=h' }) (I.ok.frames.trans (congrArg some hs)) hf (fun b o r=>m.keeps b o (ofB r)) (frB.of_keeps fun b o hb _=>⟨o,m.keeps b o hb,rfl⟩) ⟨_,_,he,rfl,rfl,rfl,rfl,rfl,?_⟩ k
   cases z : B.get? ex with
   | none=>rfl
   | some o =>
     have:=ofB z
     rw [m.new] at this
     cases this
end
theorem zh3 {P : Program} {w : World} {K : PySem.W.Frag} {mg : Str -> Option Value} {base : Heap} {N : List Str} {qual : Str} {scope : Scope} {f : Addr} {cd : Value} {A : Around} {outer : List Env} {s : Shared} {H : Hp} {E : XK} :
   zeX (CX1 P w) (zgd (CX1 P w) P w K mg base N qual scope f cd A outer s H E) E:=fun pins σ H1 s1 e s' I h=>zkt I rfl rfl rfl h
def zoF (X : Cx) (C : Value) (E : XK) : Prop:=∀ (pins : List (Addr × Obj)) (σ : St) (H : Hp) (s : Shared) (h' : Heap) (ex : Addr) (vs : List Value),Inv X pins σ H s -> Heap.MadeExcOf s.heap h' ex C vs -> E C none H -> X.xe (.ref ex) { s with heap:=h' }
theorem zel {P : Program} {w : World} {K : PySem.W.Frag} {mg : Str -> Option Value} {base : Heap} {N : List Str} {qual : Str} {scope : Scope} {f : Addr} {cd C : Value} {A : Around} {outer : List Env} {s : Shared} {H : Hp} {E : XK} :
   zoF (zgd (CX1 P w) P w K mg base N qual scope f cd A outer s H E) C E:=fun pins σ H1 s1 h' ex vs I m q=>zjz I rfl rfl rfl m q
def zia : List Value:=[.type "ValueError",.type "Exception",.type "BaseException",.type "object"]
theorem zno {K : PySem.W.Frag} {h : Heap} {C : Addr} {bmB : List Value} {newId : String} (X : K.In h) (q : PySem.W.excIn K C bmB newId = true) :
   ∃ bm N nm qn bs hd sn sub ab col dd k0 k1 k2 k3 k5 mN,h.get? C = some (excClassObj nm qn C N bs bm hd sn sub ab col dd k0 k1 k2 k3 k5 newId) /\ h.Ns N mN /\ mN "__init__" = none /\ OwnTail h bmB bm:=by
 unfold PySem.W.excIn at q
 split at q
 case h_2=>cases q
 rename_i dd cd sl ho
 split at q
 case h_2=>cases q
 rename_i C' bm k0 k1 k2 k3 n k5 hm hs
 simp only [Bool.and_eq_true,beq_iff_eq,Bool.not_eq_true'] at q
 obtain ⟨⟨⟨⟨⟨rfl,rfl⟩,hdel⟩,ht⟩,hok⟩,hni⟩:=q
 obtain ⟨nm,bs,mro,ns,qn,hd,sn,sub,ab,col,del⟩:=cd
 dsimp only at hm hdel hok hni
 subst hm hdel
 have e : sl = #[k0,k1,k2,k3,some (.builtin n),k5]:=by
   cases sl
   simp only at hs
   rw [hs]
 subst e
 exact ⟨bm,ns,nm,qn,bs,hd,sn,sub,ab,col,dd,k0,k1,k2,k3,k5,_,X _ _ ho,.of_isNs (PySem.W.isNs_of_in X hok),PySem.W.nsMap_none_of_in X hok hni,PySem.W.tail_of_in X ht⟩
section
variable {X : Cx} {x : Str} {C : Addr} {E : XK} {e : Expr} {es : List Expr} {t : TA} {np cpos pos : Pos}
def zoX (C : Value) (E : XK) (t : TA) : TS:=fun _ σ H=>t σ H fun vs H1=>vs.length <= sizeLine /\ E C none H1
theorem zcb (q : PySem.W.excIn X.K C zia "ValueError.__new__" = true) (hc : X.calm = true) (hg : Gl X x) (hm : X.mg x = some (.ref C)) (Z : zoF X (.ref C) E) (ha : PA X (e :: es) t) (hdb : (x == ("__debug__" : Str)) = false:=by decide)
   (he : starEach (e :: es) X.env = (false,eval e X.env) :: starEach es X.env:=by rfl) (hpl : (backTo cpos (starEach es X.env)).any (·.1) = false:=by rfl) :
   PS X (.Raise (some (.Call (.Name x np) (e :: es) [] cpos)) none pos) (zoX (.ref C) E t):=by
 intro pins s σ H D I h
 obtain ⟨bm,N,nm,qn,bs,hd,sn,sub,ab,col,dd,k0,k1,k2,k3,k5,mN,hC,hN,hni,T⟩:=zno I.ok.mod.kin q
 refine wpAny_Raise_call_subU (C:=C) (nm:=nm) (q:=qn) (N:=N) (bs:=bs) (bm:=bm) (hdct:=hd) (sn:=sn) (sub:=sub) (ab:=ab) (col:=col) (dd:=dd) (k0:=k0) (k1:=k1) (k2:=k2) (k3:=k3) (k5:=k5)
   F.excBase_ValueError (by decide) F.excBase_ValueError (mN:=mN) (T.hasType (by decide)) (I.ok.hd hc) (by rw [he]; show (false || (backTo cpos (starEach es X.env)).any (·.1)) = false; rw [hpl]; rfl) hni (zhn I hg hm ⟨rfl,?_⟩ hdb)
 have ha':=ha cpos pins s σ H _ I h
 rw [he] at ha' ⊢
 refine Calls.evalArgs_plain (wpAny_mono ha' (fun us s2 ⟨vs,H2,I2,r,z,q2⟩=>⟨rfl,by rw [<- r.length]; exact z,I2.bk _ _ hC,hN.keeps I2.bk,T.keeps I2.bk,fun h' ex m=>Z pins σ H2 s2 h' ex us I2 m q2⟩) fun _ _ y=>y)
end
end L2
set_option Elab.async false
set_option linter.all false
set_option maxRecDepth 100000
namespace L2
open PySem PySem.Spec PyProof.Rows GM
abbrev Cx.at (X : Cx) (pn : List (Addr × Obj)) (E : Value -> Shared -> Prop) : Cx:={ X with pn:=pn,xe:=E }
abbrev Cx.inExc (X : Cx) (pn : List (Addr × Obj)) (ex : Addr) (oe : Obj) : Cx:={ X with pn:=pn ++ [(ex,oe)],xe:=fun _ _=>False,A:=X.A.mark (some (.ref ex)),calm:=false }
section
variable {X : Cx} {pins pins' : List (Addr × Obj)} {σ : St} {H : Hp} {s : Shared} {ex : Addr} {oe : Obj}
end
section
variable {X : Cx} {CX : CXT} {k : Nat} {f : Addr} {fd : FuncData} {ps : List Str} {sp : Sp} {W : St -> XK} {x : Str} {p pos : Pos} {e : Expr} {es : List Expr} {t : TA}
end
structure zoC (C : Value) (oe : Obj) : Prop where
 cls : oe.cls = C
 fld : ∃ vs,oe.data = .fields vs /\ vs[2]? = some .none
 dict : oe.dict = none
section
variable {X : Cx} {x n : Str} {G : Value} {i : Nat} {b₀ : Stmt} {body suite : List Stmt} {np hpos pos : Pos} {tb : (St -> XK) -> TS} {th : Addr -> Value -> TS}
end
structure zqn (k : Nat) (A : Around) : Prop where
 dp : A.depth + 3 * k + 5 < recursionLimit
 un : A.units + 16 * k + 200 < cLine
structure zro (P : Program) (w : World) (K : PySem.W.Frag) (mg : Str -> Option Value) (base : Heap) (k : Nat) (f : Addr) (fd : FuncData) (ps : List Str) (sp : Addr -> Value -> Sp) : Prop where
 len : ∀ ex C vs H Q E,sp ex C vs H Q E -> vs.length = ps.length
 run : ∀ (A : Around) (outer : List Env) (s : Shared) (H : Hp) (args : Args) (us : List Value) (vs : List V) (Q : VK) (E : XK) (ex : Addr) (C : Value) (oe : Obj),zqn k A -> A.handled = some (.ref ex) -> s.heap.get? ex = some oe -> zoC C oe -> H ex = none -> ex ∉ frs outer ->
   zmF P w K mg base A outer s H -> BindsTo s fd args (ps.zip us) -> zak vs us -> sp ex C vs H Q E -> codeAny (model P w) A (.call (.ref f) args) (CR CX0 outer P w H s Q E) s
structure Hd (X : Cx) (ex : Addr) (C : Value) (oe : Obj) : Prop where
 hd : X.A.handled = some (.ref ex)
 pn : (ex,oe) ∈ X.pn
 ob : zoC C oe
section
variable {P : Program} {w : World} {K : PySem.W.Frag} {mg : Str -> Option Value} {base : Heap}
end
section
variable {X : Cx} {k : Nat} {f : Addr} {fd : FuncData} {ps : List Str} {sp : Addr -> Value -> Sp} {x : Str} {p pos : Pos} {e : Expr} {es : List Expr} {t : TA} {ex : Addr} {C : Value} {oe : Obj}
end
end L2
set_option Elab.async false
set_option linter.all false
set_option maxRecDepth 100000
namespace L2
open PySem PySem.Spec PyProof.Rows GM
def zfr (cells : List (Str × Addr)) : List (Str × NameKind) -> List (Str × Addr) -> List (Str × Addr)
 | [],acc=>acc
 | (n,k) :: r,acc=>zfr cells r (if (k == NameKind.free) = true then (n,(cells.lookup n).getD 0) :: acc else acc)
theorem zeV {scope : Scope} {env : Env} (h : ∀ y ∈ scope.names,y.2 = .free -> ∃ c,env.cells.lookup y.1 = some c) : closureFor scope env = pure (zfr env.cells scope.names []):=by
 unfold closureFor
 generalize scope.names = names at h
 suffices g : ∀ (names : List (Str × NameKind)) (acc : List (Str × Addr)),(∀ y ∈ names,y.2 = .free -> ∃ c,env.cells.lookup y.1 = some c) ->
     (forIn names acc fun (x : Str × NameKind) (r : List (Str × Addr))=>if (x.2 == NameKind.free) = true then do let c <- cellOf env x.1; pure (ForInStep.yield ((x.1,c) :: r)) else pure (ForInStep.yield r) : Sem (List (Str × Addr))) = pure (zfr env.cells names acc) by
   have:=g names [] h
   show (_ >>= pure) = _
   rw [bind_pure]
   exact this
 intro names
 induction names with
 | nil=>intro acc _; rfl
 | cons y r ih =>
   intro acc hy
   obtain ⟨n,k⟩:=y
   rw [List.forIn_cons]
   by_cases e : (k == NameKind.free) = true
   . obtain ⟨c,hc⟩:=hy (n,k) List.mem_cons_self (beq_iff_eq.mp e)
     have hcell : cellOf env n = pure c:=by
       unfold cellOf
       rw [hc]
     simp only [e,if_true,hcell,pure_bind]
     rw [ih _ fun z hz=>hy z (List.mem_cons_of_mem _ hz)]
     show _ = pure (zfr env.cells r _)
     simp only [e,if_true,hc,Option.getD_some]
   . simp only [e,pure_bind]
     rw [if_neg (by simp),pure_bind]
     dsimp only
     rw [ih _ fun z hz=>hy z (List.mem_cons_of_mem _ hz)]
     show _ = pure (zfr env.cells r _)
     rw [if_neg e]
theorem ze7 {cells : List (Str × Addr)} : ∀ (names : List (Str × NameKind)) (acc : List (Str × Addr)) (x : Str) (c : Addr),(∀ y ∈ names,y.2 = .free -> ∃ c,cells.lookup y.1 = some c) -> (∀ x c,acc.lookup x = some c -> cells.lookup x = some c) ->
   (zfr cells names acc).lookup x = some c -> cells.lookup x = some c
 | [],acc,x,c,_,ha,h=>ha x c h
 | (n,k) :: r,acc,x,c,hy,ha,h=>by
   unfold zfr at h
   refine ze7 r _ x c (fun z hz=>hy z (List.mem_cons_of_mem _ hz)) (fun x' c' h'=>?_) h
   split at h'
   . rename_i e
     obtain ⟨c0,hc0⟩:=hy (n,k) List.mem_cons_self (beq_iff_eq.mp e)
     rw [List.lookup_cons] at h'
     split at h'
     . rename_i e2
       rw [beq_iff_eq.mp e2,hc0]
       rw [hc0] at h'
       exact h'
     . exact ha x' c' h'
   . exact ha x' c' h'
theorem ziX {cells : List (Str × Addr)} : ∀ (names : List (Str × NameKind)) (acc : List (Str × Addr)) (x : Str),(∃ c,acc.lookup x = some c) -> ∃ c,(zfr cells names acc).lookup x = some c
 | [],acc,x,h=>h
 | (n,k) :: r,acc,x,h=>by
   unfold zfr
   refine ziX r _ x ?_
   split
   . rw [List.lookup_cons]
     split
     . exact ⟨_,rfl⟩
     . exact h
   . exact h
theorem ziF {cells : List (Str × Addr)} : ∀ (names : List (Str × NameKind)) (acc : List (Str × Addr)) (x : Str),(x,NameKind.free) ∈ names -> ∃ c,(zfr cells names acc).lookup x = some c
 | [],acc,x,h=>nomatch h
 | (n,k) :: r,acc,x,h=>by
   unfold zfr
   rcases List.mem_cons.mp h with e | e
   . cases e
     rw [if_pos (by decide)]
     refine ziX r _ _ ?_
     rw [List.lookup_cons]
     simp
   . exact ziF r _ x e
theorem zfa (g : Str -> NameKind -> NameKind) : ∀ (names : List (Str × NameKind)) (x : Str),(names.map fun y=>(y.1,g y.1 y.2)).lookup x = (names.lookup x).map (g x)
 | [],x=>rfl
 | (n,k) :: r,x=>by
   rw [List.map_cons,List.lookup_cons,List.lookup_cons]
   dsimp only
   by_cases e : (x == n) = true
   . have e':=beq_iff_eq.mp e
     subst e'
     simp
   . rw [Bool.not_eq_true] at e
     simp only [e]
     exact zfa g r x
def znS (env : Env) (x : Str) (k : NameKind) : NameKind:=if (k == .free && env.scope.kind == .function && env.kindOf x == some .cell) = true then .cell else k
theorem zge {scope : Scope} {env : Env} (x : Str) : (relabel scope env).names.lookup x = (scope.names.lookup x).map (znS env x):=by
 rw [<- zfa]
 show (scope.names.map _).lookup x = _
 congr 2
 funext ⟨n,k⟩
 dsimp only [znS]
 split <;> rfl
def zam (inner outer : List (Str × NameKind)) (N N' : List Str) (src : List (Option Nat)) : Bool :=
 (inner.all fun y=>(y.2 != .cell) && (y.2 != .local || inner.lookup y.1 == some .local) && (y.2 != .free || outer.lookup y.1 == some .cell)) &&
 (N'.length == src.length) && ((N'.zip src).all fun p=>match p.2 with
   | none=>true
   | some j=>N[j]? == some p.1 && outer.lookup p.1 == some .cell && inner.lookup p.1 == some .free)
theorem zau.by {X : Cx} {N' : List Str} {scope : Scope} {src : List (Option Nat)} (hk : scope.kind = .function) (hc : zam scope.names X.env.scope.names X.N N' src = true) (hf : ∀ x,X.env.scope.names.lookup x = some .cell -> ∃ c,X.env.cells.lookup x = some c:=by exact fun x h=>zfC h) :
   zau X N' scope (zfr X.env.cells scope.names []) src:=by
 unfold zam at hc
 simp only [Bool.and_eq_true,List.all_eq_true,beq_iff_eq,Bool.or_eq_true,bne_iff_ne,ne_eq] at hc
 obtain ⟨⟨h1,h2⟩,h3⟩:=hc
 have fr : ∀ y ∈ scope.names,y.2 = .free -> ∃ c,X.env.cells.lookup y.1 = some c:=fun y hy e=>hf _ (((h1 y hy).2).elim (fun z=>absurd e z) id)
 have at3 : ∀ (i : Nat) (x : Str) (j : Nat),N'[i]? = some x -> src[i]? = some (some j) -> X.N[j]? = some x /\ X.env.scope.names.lookup x = some .cell /\ scope.names.lookup x = some .free:=fun i x j e1 e2=>by
   have m : (x,some j) ∈ N'.zip src:=by
     rw [List.mem_iff_getElem?]
     exact ⟨i,by rw [List.getElem?_zip_eq_some]; exact ⟨e1,e2⟩⟩
   have:=h3 _ m
   simp only [Bool.and_eq_true,beq_iff_eq] at this
   exact ⟨this.1.1,this.1.2,this.2⟩
 refine ⟨hk,fun y hy=>((h1 y hy).1).1,fun y hy e=>(((h1 y hy).1).2).elim (fun z=>absurd e z) id,⟨zeV fr,fun x c e=>ze7 _ _ x c fr (fun _ _ z=>by simp at z) e,fun x e=>?_⟩,⟨h2,fun i j x e1 e2=>⟨(at3 i x j e1 e2).1,(at3 i x j e1 e2).2.1⟩⟩,fun i x e1 e2=>?_⟩
 . rw [zge] at e
   cases q : scope.names.lookup x with
   | none=>rw [q] at e; simp at e
   | some k =>
     have hm:=PySem.mem_of_lookup q
     have hk : k = .free:=by
       rw [q] at e
       simp only [Option.map_some,Option.some.injEq,znS] at e
       have nc : k ≠ .cell:=((h1 _ hm).1).1
       rcases e with e | e
       . split at e
         . rename_i z; simp only [Bool.and_eq_true,beq_iff_eq] at z; exact z.1.1
         . exact absurd e nc
       . split at e
         . cases e
         . exact e
     subst hk
     exact ziF _ _ x hm
 . obtain ⟨o,ho⟩ : ∃ o,src[i]? = some o:=by
     have : i < src.length:=by rw [<- h2]; exact (List.getElem?_eq_some_iff.mp e1).1
     exact ⟨src[i],by simp [this]⟩
   cases o with
   | none=>exact absurd ho e2
   | some j =>
     have:=(at3 i x j e1 ho).2.2
     rw [zge,this]
     simp only [Option.map_some,Option.some.injEq,znS]
     split
     . exact .inl rfl
     . exact .inr rfl
section
variable {prog : Program} {w : World} {A : Around} {E : Value -> Shared -> Prop} {s : Shared}
structure zrr (A : Around) (h : Heap) (ex : Addr) : Prop where
 hd : A.handled = some (.ref ex)
 ob : ∃ oe vs,h.get? ex = some oe /\ oe.data = .fields vs /\ vs[2]? = some .none
end
section
variable {X : Cx} {ex : Addr} {C : Value} {oe : Obj} {pins : List (Addr × Obj)} {σ : St} {H : Hp} {s : Shared} {pos : Pos}
variable {tg l : Expr} {tl : TE}
variable {N' : List Str} {scope : Scope} {cl : List (Str × Addr)} {src : List (Option Nat)} {elt tgt iter : Expr} {ifs : List Expr} {wi : TI} {g : TG} {tt : TT} {te : TE}
end
structure zq4 (K : PySem.W.Frag) (C : Addr) : Prop where
 ga : PySem.W.findIn K (.ref C) "__getattribute__" = some (some (.builtin "BaseException.__getattribute__"))
 gh : PySem.W.findIn K (.ref C) "__getattr__" = some none
 cl : (PySem.W.clsIn K C).isSome = true
 at_ : PySem.W.findIn K (.ref C) "__class__" = some (some (.builtin "object.__class__"))
 gt : PySem.W.specialIn K (.builtin "object.__class__") "__get__" = some (some (.builtin "getset_descriptor.__get__"))
 tk : PySem.W.takesIn K (.builtin "object.__class__") = some true
 mr : PySem.W.mroIn K C (.type "object") = some true
 be : PySem.W.mroIn K C (.type "BaseException") = some true
end L2
set_option Elab.async false
set_option linter.all false
set_option maxRecDepth 100000
namespace L2
open PySem PySem.Spec PyProof.Rows GM
def zgf (K : PySem.W.Frag) (g : TG) (tt : TT) (te : TE) (src : List (Option Nat)) (σ : St) (x : V) (H1 : Hp) (Q : VK) : Prop :=
 ∃ a,x = .ref a /\ (∃ xs,SqL K H1 a xs) /\ ∀ D,H1 D = none -> zcL g tt te (Itl K a) D (zas src σ) (upd H1 D (.lst [])) (fun H'=>Q (.ref D) H')
def zgh (K : PySem.W.Frag) (g : TG) (tt : TT) (te : TE) (src : List (Option Nat)) (σ : St) (x : V) (H1 : Hp) (Q : VK) : Prop :=
 ∃ a,x = .ref a /\ (∃ xs,SqT K H1 a xs) /\ ∀ D,H1 D = none -> zcL g tt te (Itt K a) D (zas src σ) (upd H1 D (.lst [])) (fun H'=>Q (.ref D) H')
def zol (g : TG) (tt : TT) (te : TE) (src : List (Option Nat)) (σ : St) (vs : List V) (H1 : Hp) (Q : VK) : Prop :=
 ∃ j : Int,vs = [.int j] /\ -(2 ^ 62) <= j /\ j < 2 ^ 62 /\ ∀ D,H1 D = none -> zcL g tt te (Itr 0 j.toNat) D (zas src σ) (upd H1 D (.lst [])) (fun H'=>Q (.ref D) H')
section
variable {K : PySem.W.Frag} {g : TG} {tt : TT} {te ta : TE} {tA : TA} {src : List (Option Nat)} {σ : St} {H : Hp} {Q : VK} {a : Addr} {xs : List V} {n : Int}
theorem zm0 (h : ta σ H fun x H1=>zgf K g tt te src σ x H1 Q) : zfh src (zlP K ta) g tt te σ H Q:=h
theorem zlA (h : ta σ H fun x H1=>zgh K g tt te src σ x H1 Q) : zfh src (zqy K ta) g tt te σ H Q:=h
theorem zmk (h : tA σ H fun vs H1=>zol g tt te src σ vs H1 Q) : zfh src (zm6 tA) g tt te σ H Q:=h
def zis (Pv : Addr -> Nat -> List V -> St -> Hp -> Prop) (D : Addr) (i : Nat) (σ3 : St) (y : V) (H5 : Hp) : Prop :=
 ∃ ys,H5 D = some (.lst ys) /\ ys.length < sizeLine /\ ∃ ys',Pv D (i + 1) ys' σ3 (upd H5 D (.lst (ys ++ [y])))
def zcA (Pv : Addr -> Nat -> List V -> St -> Hp -> Prop) (g : TG) (tt : TT) (te : TE) (D : Addr) (i : Nat) (x : V) (σ' : St) (H' : Hp) : Prop :=
 g x σ' H' fun σ3 H3=>tt σ3 H3 fun ok H4=>if ok = true then te σ3 H4 fun y H5=>zis Pv D i σ3 y H5 else ∃ ys',Pv D (i + 1) ys' σ3 H4
theorem zcI {Pv : Addr -> Nat -> List V -> St -> Hp -> Prop} {D : Addr} {i : Nat} {σ3 : St} {y : V} {H5 : Hp} {ys : List V} (h : H5 D = some (.lst ys)) (z : ys.length <= 1000) (q : ∀ H6,Exc D H5 H6 -> H6 D = some (.lst (ys ++ [y])) -> Pv D (i + 1) (ys ++ [y]) σ3 H6) : zis Pv D i σ3 y H5 :=
 ⟨ys,h,zbC z,_,q _ (Exc.upd D H5 _) zal⟩
theorem zeq {J : It} {N : Nat} {D : Addr} {σ0 : St} {H0 : Hp} {R : Hp -> Prop} (Pv : Addr -> Nat -> List V -> St -> Hp -> Prop) (item : Nat -> V -> Prop) (h0 : Pv D 0 [] σ0 H0)
   (stop : ∀ i ys σ' H',Pv D i ys σ' H' -> N <= i -> J.stop i H') (go : ∀ i ys σ' H',Pv D i ys σ' H' -> i < N -> J.go i H') (yld : ∀ i ys σ' H' x H2,Pv D i ys σ' H' -> J.yld i H' x H2 -> H2 = H' /\ item i x)
   (hs : ∀ i x ys σ' H',i < N -> item i x -> Pv D i ys σ' H' -> zcA Pv g tt te D i x σ' H') (hd : ∀ ys σ' H',Pv D N ys σ' H' -> R H') : zcL g tt te J D σ0 H0 R:=by
 refine ⟨fun i m σ' H'=>i + m = N /\ ∃ ys,Pv D i ys σ' H',⟨N,by lia,[],h0⟩,?_⟩
 rintro i m σ' H' ⟨him,ys,hp⟩
 by_cases hm : m = 0
 . subst hm
   have e : i = N:=by lia
   subst e
   exact .inl ⟨stop _ _ _ _ hp (Nat.le_refl _),hd _ _ _ hp⟩
 . refine .inr ⟨go _ _ _ _ hp (by lia),fun σ2 H2=>∃ ys,Pv D (i + 1) ys σ2 H2,fun σ2 H2 h=>⟨m - 1,by lia,by lia,h⟩,fun x H2 hy2=>?_⟩
   obtain ⟨e,hit⟩:=yld _ _ _ _ _ _ hp hy2
   subst e
   exact hs i x ys σ' H2 (by lia) hit hp
theorem zea (hx : SqL K H a xs) (Pv : Addr -> Nat -> List V -> St -> Hp -> Prop) (h0 : ∀ D H',H D = none -> zad H H' -> H' D = some (.lst []) -> Pv D 0 [] (zas src σ) H') (hl : ∀ D i ys σ' H',Pv D i ys σ' H' -> SqL K H' a xs)
   (hs : ∀ D i x ys σ' H',xs[i]? = some x -> Pv D i ys σ' H' -> zcA Pv g tt te D i x σ' H') (hd : ∀ D ys σ' H',Pv D xs.length ys σ' H' -> Q (.ref D) H') : zgf K g tt te src σ (.ref a) H Q:=by
 refine ⟨a,rfl,⟨xs,hx⟩,fun D hD=>zeq (N:=xs.length) Pv (fun i x=>xs[i]? = some x) (h0 D _ hD (zad.upd hD) zal) (fun i ys σ' H' hp hi=>⟨xs,hl _ _ _ _ _ hp,hi⟩) (fun i ys σ' H' hp hi=>?_) (fun i ys σ' H' x H2 hp hy=>?_)
   (fun i x ys σ' H' _ hit hp=>hs D i x ys σ' H' hit hp) (hd D)⟩
 . exact ⟨xs,xs[i],hl _ _ _ _ _ hp,by simp [hi]⟩
 . obtain ⟨e,hy⟩:=hy
   exact ⟨e,hy xs (hl _ _ _ _ _ hp)⟩
theorem zjd (hx : SqT K H a xs) (Pv : Addr -> Nat -> List V -> St -> Hp -> Prop) (h0 : ∀ D H',H D = none -> zad H H' -> H' D = some (.lst []) -> Pv D 0 [] (zas src σ) H') (hl : ∀ D i ys σ' H',Pv D i ys σ' H' -> SqT K H' a xs)
   (hs : ∀ D i x ys σ' H',xs[i]? = some x -> Pv D i ys σ' H' -> zcA Pv g tt te D i x σ' H') (hd : ∀ D ys σ' H',Pv D xs.length ys σ' H' -> Q (.ref D) H') : zgh K g tt te src σ (.ref a) H Q:=by
 refine ⟨a,rfl,⟨xs,hx⟩,fun D hD=>zeq (N:=xs.length) Pv (fun i x=>xs[i]? = some x) (h0 D _ hD (zad.upd hD) zal) (fun i ys σ' H' hp hi=>⟨xs,hl _ _ _ _ _ hp,hi⟩) (fun i ys σ' H' hp hi=>?_) (fun i ys σ' H' x H2 hp hy=>?_)
   (fun i x ys σ' H' _ hit hp=>hs D i x ys σ' H' hit hp) (hd D)⟩
 . exact ⟨xs,xs[i],hl _ _ _ _ _ hp,by simp [hi]⟩
 . obtain ⟨e,hy⟩:=hy
   exact ⟨e,hy xs (hl _ _ _ _ _ hp)⟩
theorem zd6 (h0' : -1000000000 <= n) (h1 : n < 1000000000) (Pv : Addr -> Nat -> List V -> St -> Hp -> Prop) (h0 : ∀ D H',H D = none -> zad H H' -> H' D = some (.lst []) -> Pv D 0 [] (zas src σ) H')
   (hs : ∀ D (i : Nat) ys σ' H',i < n.toNat -> Pv D i ys σ' H' -> zcA Pv g tt te D i (.int (i : Int)) σ' H') (hd : ∀ D ys σ' H',Pv D n.toNat ys σ' H' -> Q (.ref D) H') : zol g tt te src σ [.int n] H Q:=by
 refine ⟨n,rfl,by lia,by lia,fun D hD=>zeq (N:=n.toNat) Pv (fun i x=>x = .int (i : Int)) (h0 D _ hD (zad.upd hD) zal) (fun i ys σ' H' hp hi=>hi) (fun i ys σ' H' hp hi=>hi) (fun i ys σ' H' x H2 hp hy=>?_)
   (fun i x ys σ' H' hi hit hp=>?_) (hd D)⟩
 . obtain ⟨e,hy⟩:=hy
   exact ⟨e,by rw [hy,Int.zero_add]⟩
 . subst hit
   exact hs D i ys σ' H' hi hp
end
structure zhv (u' u : TS) : Prop where
 e : u' = u
theorem znJ {t u : TS} {D : zb3} {σ : St} {H : Hp} (h : ∀ u',zhv u' u -> t { D with nx:=u' D } σ H) : zqG t u D σ H:=h u ⟨rfl⟩
theorem zhv.go {u' u : TS} {D : zb3} {σ : St} {H : Hp} (e : zhv u' u) (h : u D σ H) : u' D σ H:=by rw [e.e]; exact h
end L2
set_option Elab.async false
set_option linter.all false
set_option maxRecDepth 100000
namespace L2
open PySem PySem.Spec PyProof.Rows GM
theorem zj7 {P : Program} {w : World} {X : Cx} : zeX (CX1 P w) X E0:=fun _ _ _ _ _ _ _ h=>by
 obtain ⟨_,_,_,_,_,_,_,_,_,_,_,q⟩:=h
 exact q.elim
theorem Fun.ok1 {P : Program} {w : World} {K : PySem.W.Frag} {mg : Str -> Option Value} {base : Heap} {x qual : Str} {st : Stmt} {f : Addr} {fd : FuncData} {N ps : List Str} {k : Nat} {sp : Sp} (F : Fun K x qual st f fd) (S : zan N ps (zac st)) (len : ∀ vs H Q E,sp vs H Q E -> vs.length = ps.length)
   (hbody : ∀ (cdv : Value) (A : Around) (outer : List Env) (s : Shared) (H : Hp) (vs : List V) (Q : VK) (E : XK),zct k (A.deeper (envOfC qual (zac st) s.heap.objs.size f cdv)) -> sp vs H Q E ->
     ∃ t,PSs (zgd (CX1 P w) P w K mg base N qual (zac st) f cdv A outer s H E) (zch st) t /\ t { nx:=fun _ H'=>Q .non H',rt:=Q } (start N vs) H) : za5 P w K mg base (CX1 P w) (k + 1) f fd ps sp:=by
 obtain ⟨oc,od,kV,doc,pm,an,cdv,ct,osl,rfl,lk,hcd⟩:=F.ex
 exact zoB lk hcd S len fun A outer s H vs Q E hr hsp=>hbody cdv A outer s H vs Q E hr hsp
theorem znk {X : Cx} {i j v : Int} {k1 k2 : Nat} {p1 p2 pos : Pos} (hc : zqk i j) (hv : i ^ j.toNat = v) : PE X (.BinOp (.Constant (.int i) k1 p1) .Pow (.Constant (.int j) k2 p2) pos) (tC (.int v)):=by
 subst hv
 exact fun pins s σ H Q I h=>(zar zpL zaf zaf : PE X _ _) pins s σ H Q I ⟨i,j,rfl,rfl,hc,h⟩
theorem zk5 {α : Type} [DecidableEq α] {x : α} {A B : Prop} (h : B) : if (!decide (x = x)) = true then A else B:=by simpa using h
section
variable {K : PySem.W.Frag} {σ : St} {H H' : Hp} {Q : VK} {QB : Bool -> Hp -> Prop} {D : zb3} {t : TA} {v w : V} {xs ys : List V} {m n : Int} {r : Rat} {p : Addr}
theorem zqb {A B : Prop} (h : B) : if (!true) = true then A else B:=by simpa using h
theorem zqf {A B : Prop} (h : A) : if (!false) = true then A else B:=by simpa using h
theorem znD {a b : V} (h : H p = some (.lst [a,b])) (h0 : 0 <= m) (h1 : m < 2) (q : ∀ z,z = a \/ z = b -> Q z H) : rIx K (.ref p) (.int m) H Q :=
 zhG (fun z=>z = a \/ z = b) (SqL.of h) h0 (by simpa using h1) (by simp) q
theorem znC {a b : Int} (h : H p = some (.lst [.int a,.int b])) (h0 : 0 <= m) (h1 : m < 2) (q : ∀ z,z = a \/ z = b -> Q (.int z) H) : rIx K (.ref p) (.int m) H Q :=
 znD h h0 h1 fun z hz=>by rcases hz with rfl | rfl; exact q _ (.inl rfl); exact q _ (.inr rfl)
theorem zn6 {a b c d : Int} (h : H p = some (.lst [.int a,.int b,.int c,.int d])) (h0 : 0 <= m) (h1 : m < 4) (q : ∀ z,z = a \/ z = b \/ z = c \/ z = d -> Q (.int z) H) : rIx K (.ref p) (.int m) H Q:=by
 refine zhG (fun v=>∃ z,v = .int z /\ (z = a \/ z = b \/ z = c \/ z = d)) (SqL.of h) h0 (by simpa using h1) (fun x hx=>?_) fun x hx=>?_
 . simp only [List.mem_cons,List.not_mem_nil,or_false] at hx
   rcases hx with rfl | rfl | rfl | rfl
   . exact ⟨_,rfl,by simp⟩
   . exact ⟨_,rfl,by simp⟩
   . exact ⟨_,rfl,by simp⟩
   . exact ⟨_,rfl,by simp⟩
 . obtain ⟨z,rfl,hz⟩:=hx
   exact q z hz
end
def R (a b : Rat) : PyData:=.tuple [N a,N b]
structure zrn (a b : Rat) : Prop where
 a0 : 0 < a
 a4 : a <= 4
 ad : a.den <= 8
 b0 : 0 <= b
 b1 : b <= 1
 bd : b.den <= 12
 ab : 1 <= a + b
section
variable {K : PySem.W.Frag} {H : Hp} {Q : VK} {v : V} {a b : Rat} {σ : St} {gs : TGs} {QS : St -> Hp -> Prop}
end
section
variable {K : PySem.W.Frag} {H H' H2 : Hp} {Q : VK} {v w : V} {a b c d : Rat} {D : Addr}
theorem zad.grow (s : zad H H') (n : H D = none) (e : Exc D H' H2) : zad H H2:=fun b o h=>e b o (zaA h n) (s b o h)
end
theorem ziB {σ : St} {H : Hp} {Q : Bool -> Hp -> Prop} (q : Q true H) : ze6 σ H Q:=q
theorem zde {Pv : Addr -> Nat -> List V -> St -> Hp -> Prop} {g : TG} {tt : TT} {te : TE} {D : Addr} {i : Nat} {x : V} {σ' : St} {H' : Hp} (h : g x σ' H' fun σ3 H3=>tt σ3 H3 fun ok H4=>if ok = true then te σ3 H4 fun y H5=>zis Pv D i σ3 y H5 else ∃ ys',Pv D (i + 1) ys' σ3 H4) :
   zcA Pv g tt te D i x σ' H':=h
section
variable {K : PySem.W.Frag} {σ : St} {H : Hp} {Q : VK} {E : XK} {D : zb3} {t : TA} {C G : Value} {i : Nat} {tb : (St -> XK) -> TS} {th : Addr -> Value -> TS} {sp : Sp} {W : St -> XK} {ex C' : Addr} {b : Bool}
end
theorem zhe (s : String) : PyData.strOk (Str.ofString s) = true:=by
 rw [Str.ofString_eq_toList,PyData.strOk]
 simp only [List.all_toArray,List.all_map,List.all_eq_true,Function.comp,decide_eq_true_eq]
 intro c _
 have:=c.valid
 simp only [Char.toNat]
 rcases this with h | h
 . have : c.val.toNat < 0xd800:=h
   lia
 . exact h.2
inductive zf1 (K : PySem.W.Frag) (H : Hp) : List V -> List (Str × Bool) -> Prop
 | nil : zf1 K H [] []
 | cons {x : V} {xs : List V} {w : Str} {b : Bool} {ws : List (Str × Bool)} : Is K H x (.tuple [.str w,.bool b]) -> zf1 K H xs ws -> zf1 K H (x :: xs) ((w,b) :: ws)
inductive zmB (X : Cx) : List Expr -> List TE -> Prop
 | nil : zmB X [] []
 | cons {e : Expr} {es : List Expr} {te : TE} {ts : List TE} : (∀ env,starEach (e :: es) env = (false,eval e env) :: starEach es env) -> PE X e te -> zmB X es ts -> zmB X (e :: es) (te :: ts)
end L2
set_option Elab.async false
set_option linter.all false
set_option maxRecDepth 100000
namespace L2
open PySem PySem.Spec PyProof.Rows GM
theorem zgT : bootBuiltins "sorted" = some (.builtin "sorted"):=by decide +kernel
section
variable {K : PySem.W.Frag} {H H' H2 : Hp} {Q : VK} {R : Prop} {v w y : V} {p l : Addr} {xs ys zs : List V} {ns : List Int} {m : Int} {σ : St}
end
section
variable {K : PySem.W.Frag} {H H' H2 : Hp} {Q : VK} {R : Prop} {v w y : V} {p l : Addr} {xs ys zs : List V} {ns : List Int} {m : Int} {σ : St} {to : TE} {t : TA} {T : String} {r : V -> List V -> Hp -> VK -> Prop}
theorem zqL (h : to σ H fun x H1=>tyV K T x H1 /\ t σ H1 fun xs H2=>r x xs H2 Q) : tBM K T r to t σ H Q:=h
theorem zjs (h : SqL K H p xs) (q : R) : tyV K "list" (.ref p) H /\ R:=⟨.inl ⟨rfl,xs,h⟩,q⟩
theorem zdG (h : H l = some (.lst xs)) (z : xs.length <= 1000) (q : ∀ H',Exc l H H' -> H' l = some (.lst (xs ++ [y])) -> Q .non H') : zkj (.ref l) [y] H Q:=⟨l,xs,y,rfl,rfl,h,zbC z,q _ (Exc.upd l H _) zal⟩
end
def zay (K : PySem.W.Frag) : List V -> Hp -> VK -> Prop:=fun xs H Q=>∃ p ys,xs = [.ref p] /\ ((SqL K H p ys /\ ∀ l,H l = none -> Q (.ref l) (upd H l (.tup ys))) \/ (SqT K H p ys /\ Q (.ref p) H))
theorem zaB {X : Cx} : zah X (.type "tuple") (zay X.K):=zgC
def zje (K : PySem.W.Frag) : V -> Option Int -> Option Int -> Hp -> VK -> Prop:=fun x lo hi H Q=>zqM K x lo hi H Q \/ zqc K x lo hi H Q
theorem zhL {X : Cx} : SlR X (zje X.K):=znt.or zoQ
section
variable {K : PySem.W.Frag} {H H' H2 : Hp} {Q : VK} {QO : Option Int -> Hp -> Prop} {R : Prop} {v w y : V} {p l : Addr} {xs ys zs : List V} {ds es : List PyData} {m : Int} {σ : St} {te : TE} {tl th : TO} {r : V -> Option Int -> Option Int -> Hp -> VK -> Prop} {lo hi : Option Int}
theorem zdF (h : SqL K H p ys) (q : ∀ l H',H l = none -> zad H H' -> H' l = some (.tup ys) -> Q (.ref l) H') : zay K [.ref p] H Q:=⟨p,ys,rfl,.inl ⟨h,fun l hl=>q l _ hl (zad.upd hl) zal⟩⟩
theorem zby (h : Is K H v (.list ds)) (q : ∀ w H',zad H H' -> Is K H' w (.tuple ds) -> Q w H') : zay K [v] H Q:=by
 obtain ⟨a,xs,rfl,hs,t⟩:=zav.mp h
 exact zdF hs fun l H' _ s e=>q _ H' s (zaC.mpr ⟨l,xs,rfl,.of e,IsAll.same s ds xs t⟩)
theorem zfW (h : Is K H v (.tuple ds)) (q : Q v H) : zay K [v] H Q:=by
 obtain ⟨a,xs,rfl,hs,t⟩:=zaC.mp h
 exact ⟨a,xs,rfl,.inr ⟨hs,q⟩⟩
theorem zl1 (h : te σ H fun x H1=>tl σ H1 fun l H2=>th σ H2 fun u H3=>r x l u H3 Q) : tSl r te tl th σ H Q:=h
theorem zkS (q : QO none H) : zkn σ H QO:=q
theorem zof (h : te σ H fun x H1=>∃ i,x = .int i /\ QO (some i) H1) : zow te σ H QO:=h
theorem zli {RI : Int -> Prop} (q : RI m) : ∃ i,V.int m = V.int i /\ RI i:=⟨m,rfl,q⟩
def zh1 {α : Type} (xs : List α) (lo hi : Option Int) : List α:=(xs.drop (HT.sIx xs.length 0 lo)).take (HT.sIx xs.length xs.length hi - HT.sIx xs.length 0 lo)
theorem IsAll.take : ∀ {ds : List PyData} {xs : List V} (n : Nat),IsAll K H xs ds -> IsAll K H (xs.take n) (ds.take n)
 | _,_,0,h=>by simp [IsAll.nil]
 | [],_,n + 1,h=>by rw [zaW.mp h]; simp [IsAll.nil]
 | d :: ds,_,n + 1,h=>by
   obtain ⟨x,r,rfl,q,t⟩:=zat.mp h
   rw [List.take_succ_cons,List.take_succ_cons]
   exact .cons q (IsAll.take n t)
theorem IsAll.drop : ∀ {ds : List PyData} {xs : List V} (n : Nat),IsAll K H xs ds -> IsAll K H (xs.drop n) (ds.drop n)
 | _,_,0,h=>by simpa using h
 | [],_,n + 1,h=>by rw [zaW.mp h]; simp [IsAll.nil]
 | d :: ds,_,n + 1,h=>by
   obtain ⟨x,r,rfl,q,t⟩:=zat.mp h
   rw [List.drop_succ_cons,List.drop_succ_cons]
   exact IsAll.drop n t
theorem IsAll.cut (h : IsAll K H xs ds) : IsAll K H (zgo xs lo hi) (zh1 ds lo hi):=by
 unfold zgo zh1
 rw [h.length]
 exact (h.drop _).take _
theorem zjo (h : SqL K H p xs) (q : ∀ l H',H l = none -> zad H H' -> H' l = some (.lst (zgo xs lo hi)) -> Q (.ref l) H') : zje K (.ref p) lo hi H Q:=.inl ⟨p,xs,rfl,h,fun l hl=>q l _ hl (zad.upd hl) zal⟩
theorem zny (h : Is K H v (.list ds)) (q : ∀ l H' ys,H l = none -> zad H H' -> H' l = some (.lst ys) -> IsAll K H' ys (zh1 ds lo hi) -> Q (.ref l) H') : zje K v lo hi H Q:=by
 obtain ⟨a,xs,rfl,hs,t⟩:=zav.mp h
 exact zjo hs fun l H' hl s e=>q l H' _ hl s e (IsAll.same s _ _ t.cut)
theorem zj2 (h : Is K H v (.tuple ds)) (hw : ¬ (HT.sIx ds.length 0 lo = 0 /\ HT.sIx ds.length ds.length hi = ds.length)) (q : ∀ w H',zad H H' -> Is K H' w (.tuple (zh1 ds lo hi)) -> Q w H') : zje K v lo hi H Q:=by
 obtain ⟨a,xs,rfl,hs,t⟩:=zaC.mp h
 refine .inr ⟨a,xs,rfl,hs,by rw [t.length]; exact hw,fun l hl=>q _ _ (zad.upd hl) (zaC.mpr ⟨l,_,rfl,.of zal,IsAll.same (zad.upd hl) _ _ t.cut⟩)⟩
theorem zeQ {α : Type} (xs : List α) : zh1 xs (some 1) none = xs.tail:=by
 unfold zh1
 show (xs.drop (min 1 xs.length)).take (xs.length - min 1 xs.length) = _
 cases xs with
 | nil=>rfl
 | cons x xs =>
   have e : min 1 (x :: xs).length = 1:=by rw [List.length_cons]; lia
   rw [e,List.drop_succ_cons,List.drop_zero,List.length_cons,Nat.add_sub_cancel,List.take_length,List.tail_cons]
end
section
variable {K : PySem.W.Frag} {H H' H2 : Hp} {Q : VK} {v w y : V} {p l : Addr} {vs : List V} {xs ys : List Rat} {m : Int} {σ : St}
end
section
variable {K : PySem.W.Frag} {g : TG} {tt : TT} {te : TE} {src : List (Option Nat)} {σ : St} {H : Hp} {Q : VK} {a : Addr} {vs : List V} {n : Int} {tl : St} {o0 : Option V}
def zbq (H : Hp) (tl : St) (Rel : Nat -> V -> Hp -> Prop) (D : Addr) (i : Nat) (ys : List V) (σ' : St) (H' : Hp) : Prop :=
 (∃ o,σ' = o :: tl) /\ H D = none /\ zad H H' /\ H' D = some (.lst ys) /\ ys.length = i /\ ∀ j y,ys[j]? = some y -> Rel j y H'
theorem zbq.same {Rel : Nat -> V -> Hp -> Prop} {D : Addr} {i : Nat} {ys : List V} {σ' : St} {H' : Hp} (h : zbq H tl Rel D i ys σ' H') : zad H H':=h.2.2.1
theorem zaF {Rel : Nat -> V -> Hp -> Prop} {D : Addr} {i : Nat} {ys : List V} {σ' σ3 : St} {H1 H5 : Hp} {y : V} (inv : zbq H tl Rel D i ys σ' H1) (hi : i <= 1000) (hk : ∀ i v H1 H2,zaI H1 H2 -> Rel i v H1 -> Rel i v H2) (hσ : ∃ o,σ3 = o :: tl) (s : zad H1 H5) (r : Rel i y H5) : zis (zbq H tl Rel) D i σ3 y H5:=by
 obtain ⟨_,hn,s1,hD,hl,hr⟩:=inv
 have hD5:=s _ _ hD
 refine zcI hD5 (by lia) fun H6 E6 e6=>⟨hσ,hn,(s1.trans s).grow hn E6,e6,by simp [hl],fun j z hz=>?_⟩
 have k6 : zaI H5 H6:=E6.keep hD5
 rcases Nat.lt_or_ge j ys.length with hj | hj
 . rw [List.getElem?_append_left hj] at hz
   exact hk _ _ _ _ (s.keep.trans k6) (hr j z hz)
 . have hj' : j = ys.length:=by
     rcases Nat.lt_or_ge ys.length j with q | q
     . rw [List.getElem?_eq_none (by simp; lia)] at hz; cases hz
     . lia
   subst hj'
   rw [List.getElem?_append_right (Nat.le_refl _),Nat.sub_self] at hz
   cases hz
   rw [hl]
   exact hk _ _ _ _ k6 r
theorem zbV (hx : SqL K H a vs) (hsrc : zas src σ = o0 :: tl) (Rel : Nat -> V -> Hp -> Prop) (hs : ∀ D i x ys o H1,vs[i]? = some x -> zbq H tl Rel D i ys (o :: tl) H1 -> zcA (zbq H tl Rel) g tt te D i x (o :: tl) H1)
   (hd : ∀ D ys H',H D = none -> zad H H' -> H' D = some (.lst ys) -> ys.length = vs.length -> (∀ j y,ys[j]? = some y -> Rel j y H') -> Q (.ref D) H') : zgf K g tt te src σ (.ref a) H Q:=by
 refine zea hx (zbq H tl Rel) (fun D H' n s e=>⟨⟨o0,hsrc⟩,n,s,e,rfl,fun j y z=>by simp at z⟩) (fun D i ys σ' H' h=>h.same.seq hx) ?_ fun D ys σ' H' ⟨_,n,s,e,hl,r⟩=>hd D ys H' n s e hl r
 rintro D i x ys σ' H' hx' h
 obtain ⟨⟨o,rfl⟩,_⟩:=id h
 exact hs D i x ys o H' hx' h
theorem zeA (hx : SqT K H a vs) (hsrc : zas src σ = o0 :: tl) (Rel : Nat -> V -> Hp -> Prop) (hs : ∀ D i x ys o H1,vs[i]? = some x -> zbq H tl Rel D i ys (o :: tl) H1 -> zcA (zbq H tl Rel) g tt te D i x (o :: tl) H1)
   (hd : ∀ D ys H',H D = none -> zad H H' -> H' D = some (.lst ys) -> ys.length = vs.length -> (∀ j y,ys[j]? = some y -> Rel j y H') -> Q (.ref D) H') : zgh K g tt te src σ (.ref a) H Q:=by
 refine zjd hx (zbq H tl Rel) (fun D H' n s e=>⟨⟨o0,hsrc⟩,n,s,e,rfl,fun j y z=>by simp at z⟩) (fun D i ys σ' H' h=>h.same.sqT hx) ?_ fun D ys σ' H' ⟨_,n,s,e,hl,r⟩=>hd D ys H' n s e hl r
 rintro D i x ys σ' H' hx' h
 obtain ⟨⟨o,rfl⟩,_⟩:=id h
 exact hs D i x ys o H' hx' h
end
theorem zkA {H H' : Hp} {l : Addr} (s : zad H H') (h : H' l = none) : H l = none:=by
 cases e : H l with
 | none=>rfl
 | some o=>rw [s _ _ e] at h; cases h
def TZ (ns : List Int) : PyData:=.tuple (ns.map PyData.int)
theorem zib : ∀ ns : List Int,ImmAll (ns.map PyData.int) = true
 | []=>by simp [ImmAll]
 | n :: ns=>by rw [List.map_cons,ImmAll,zib ns]; rfl
theorem zej (ns : List Int) : Imm (TZ ns) = true:=by rw [TZ,Imm]; exact zib ns
section
variable {K : PySem.W.Frag} {H H' H2 : Hp} {Q : VK} {v w y : V} {p l : Addr} {vs : List V} {ns : List Int} {rss : List (List Rat)} {m : Int} {σ : St}
theorem zb8 : ∀ {ns : List Int} {vs : List V},IsAll K H vs (ns.map PyData.int) ↔ vs = ns.map V.int
 | [],vs=>by rw [List.map_nil,zaW]; rfl
 | n :: ns,vs=>by
   rw [List.map_cons,zat,List.map_cons]
   constructor
   . rintro ⟨x,r,rfl,h,t⟩
     rw [zaK.mp h,zb8.mp t]
   . rintro rfl
     exact ⟨_,_,rfl,zaK.mpr rfl,zb8.mpr rfl⟩
theorem zck : Is K H v (TZ ns) ↔ ∃ a,v = .ref a /\ SqT K H a (ns.map V.int):=by
 unfold TZ
 rw [zaC]
 constructor
 . rintro ⟨a,xs,e,h,t⟩
   rw [zb8.mp t] at h
   exact ⟨a,e,h⟩
 . rintro ⟨a,e,h⟩
   exact ⟨a,_,e,h,zb8.mpr rfl⟩
theorem Is.thruI (h : Is K H v (TZ ns)) (s : zaI H H') : Is K H' v (TZ ns):=Is.keep s _ v (zej ns) h
theorem zj6 (h : Is K H v (TZ ns)) (h0 : 0 <= m) (h1 : m < ns.length) (q : Q (.int (ns.getD m.toNat 0)) H) : rIx K v (.int m) H Q:=by
 obtain ⟨a,rfl,hs⟩:=zck.mp h
 obtain ⟨n,rfl⟩ : ∃ n : Nat,m = (n : Int):=⟨m.toNat,by lia⟩
 refine zln hs (zcQ (j:=n) (v:=.int (ns.getD n 0)) ?_) q
 rw [List.getElem?_map,List.getD_eq_getElem?_getD,List.getElem?_eq_getElem (by lia)]
 rfl
end
def zjV (K : PySem.W.Frag) : R2:=fun x y H Q=>zov K x y H Q \/ ∃ a b ys,x = .ref a /\ y = .ref b /\ SqT K H a [] /\ SqT K H b ys /\ Q (.ref b) H
theorem zjR {X : Cx} : OpR X (binaryOp .Add) (zjV X.K):=by
 intro pins s σ H x y v u Q I rx ry h
 rcases h with h | ⟨a,b,ys,rfl,rfl,ha,hb,q⟩
 . exact znP pins s σ H x y v u Q I rx ry h
 . cases rx
   cases ry
   obtain ⟨its,r1,p1,_⟩:=I.tuple ha
   cases r1
   obtain ⟨its2,r2,p2,_⟩:=I.tuple hb
   obtain ⟨⟨cls,dd,data,sl⟩,ho,hc,n,hd⟩:=id p1
   obtain ⟨⟨cls2,dd2,data2,sl2⟩,ho2,hc2,n2,hd2⟩:=id p2
   simp only at hc hd hc2 hd2
   subst hc hd hc2 hd2
   exact concat_meets ⟨_,ho,rfl⟩ ⟨_,ho2,rfl⟩ noFill_tuple_add seq_tuple_add PySem.F.slot_tuple_add PySem.F.entry_tuple_add (PySem.F.args_tuple_add_2 _ _) (tuple_addW0 a b _ its2.toArray n n2 dd dd2 sl sl2 rfl) ⟨ho,ho2,⟨.ref b,H,I,rfl,q⟩⟩
theorem zij {K : PySem.W.Frag} {H : Hp} {Q : VK} {v w : V} {ds es : List PyData} (h1 : Is K H v (.tuple ds)) (h2 : Is K H w (.tuple es)) (z : ds.length + es.length <= 1000) (q : ∀ u H',zad H H' -> Is K H' u (.tuple (ds ++ es)) -> Q u H') : zjV K v w H Q:=by
 obtain ⟨a,xs,rfl,ha,ta⟩:=zaC.mp h1
 obtain ⟨b,ys,rfl,hb,tb⟩:=zaC.mp h2
 have la:=ta.length
 have lb:=tb.length
 cases xs with
 | nil =>
   obtain rfl : ds = []:=List.eq_nil_of_length_eq_zero (by simpa using la.symm)
   exact .inr ⟨a,b,ys,rfl,rfl,ha,hb,q _ H (zad.refl _) h2⟩
 | cons x xs =>
   refine .inl ⟨a,b,x :: xs,ys,rfl,rfl,ha,hb,by simp,Nat.le_of_lt (zbC (by lia)),fun hy=>?_,fun hy p hp=>?_⟩
   . obtain rfl : es = []:=List.eq_nil_of_length_eq_zero (by rw [hy] at lb; simpa using lb.symm)
     exact q _ H (zad.refl _) (by rw [List.append_nil]; exact h1)
   . exact q _ _ (zad.upd hp) (zaC.mpr ⟨p,_,rfl,.of zal,(IsAll.same (zad.upd hp) _ _ ta).append (IsAll.same (zad.upd hp) _ _ tb)⟩)
end L2
set_option Elab.async false
set_option linter.all false
set_option maxRecDepth 100000
namespace L2
open PySem PySem.Spec PyProof.Rows GM
theorem Inv.turnedL {X : Cx} {pins : List (Addr × Obj)} {σ : St} {H : Hp} {s : Shared} {h' : Heap} {t' : Nat} {ch : List Addr} (I : Inv X pins σ H s) (k : ∀ b o,b ∉ ch -> s.heap.get? b = some o -> h'.get? b = some o) (hf : ∀ b ∈ ch,zdf X pins H b) : Inv X pins σ H { s with heap:=h',toks:=t' }:=by
 have nit : ∀ b u,H b = some u -> b ∉ ch:=fun b u e z=>by rw [(hf b z).1] at e; cases e
 refine I.step (g':=s.gens) (d':=s.drawn) (ch:=ch) (fun b hb=>⟨(hf b hb).2.2.2.1,(hf b hb).2.1,(hf b hb).2.2.2.2.1,(hf b hb).2.2.2.2.2⟩) (fun b o _ _ hc e _=>k b o hc e)
   (fun b o _ _ hc e _=>⟨o.slots,k b o hc e⟩) (fun _ _ _ _ n=>n) (fun b o hc e=>⟨o,k b o hc e⟩) (fun _ _ e=>e) (fun _ _ _ e=>e) (fun b ps e=>⟨#[],by rw [e]; simp⟩) (fun m hm=>?_) (fun b u e=>?_) I.bare
 . obtain ⟨o,es,ep,ho,r⟩:=hm
   exact ⟨o,es,ep,k _ o (fun z=>(hf _ z).2.1 rfl) ho,r⟩
 . refine (I.hok b u e).stay (fun c v hc q=>k c v ?_ q) (fun _ q=>q) fun _ _ q=>q
   rcases hc with z | z
   . rw [z]; exact nit b u e
   . exact nit c _ z
section
variable {prog : Program} {w : World} {A : Around} {E : Value -> Shared -> Prop} {s : Shared}
theorem zh5 {it tu : Addr} {i : Nat} {its : Array Value} {x : Value} {Q : Value -> Shared -> Prop} (ei : s.heap.IsTupleIter it tu i) (et : s.heap.IsTuple tu its) (ex : its[i]? = some x)
   (fin : ∀ h',h'.IsTupleIter it tu (i + 1) -> Heap.SameBut it s.heap h' -> Q x { s with heap:=h' }) : wpAny (model prog w) A (Builtin.SmallTypes.nextOf (.ref it)) Q E s:=by
 obtain ⟨ob,eo,ec,ed⟩:=id ei
 obtain ⟨ot,eot,_,nt,edt⟩:=et
 unfold Builtin.SmallTypes.nextOf
 refine wpAny_bind (wpAny_callSpecial?_slot (name:=Str.ofString "__next__") ei.typeIs F.slot_tuple_iterator_next (wpAny_call_entry F.slot_tuple_iterator_next ei.typeIs F.entry_tuple_iterator_next ?_ (F.args_tuple_iterator_next_1 _)))
 show wpAny _ _ (field (.ref it) 0 >>= _) _ _ s; refine wpAny_bind (wpAny_field eo ed (x:=.ref tu) rfl ?_)
 show wpAny _ _ (if (Value.ref tu == Value.none) = true then _ else _) _ _ s; rw [if_neg (show ¬ ((Value.ref tu == Value.none) = true) from Bool.false_ne_true)]
 show wpAny _ _ (field (.ref it) 1 >>= _) _ _ s; refine wpAny_bind (wpAny_field eo ed (x:=.int i 0) rfl ?_)
 show wpAny _ _ (seqItems? (.ref tu) >>= _) _ _ s; refine wpAny_bind (wpAny_seqItems eot edt ?_)
 simp only [Int.toNat_natCast,ex]
 refine wpAny_bind (wpAny_setField eo ed (by simp) (wpAny_pure ⟨x,rfl,wpAny_pure (fin _ ?_ (Heap.SameBut.update ..))⟩))
 exact ⟨_,Heap.get?_update_self _ eo (Obj.isFreed_of_fields (Obj.data_mapFields ed _)),(Obj.cls_mapFields ..).trans ec,by rw [Obj.data_mapFields ed]; simp [rawInt]⟩
theorem zh8 {it tu : Addr} {i : Nat} {its : Array Value} {Q : Value -> Shared -> Prop} (hh : A.handled = none) (ei : s.heap.IsTupleIter it tu i) (et : s.heap.IsTuple tu its) (ex : its[i]? = none)
   (fin : ∀ h' e,Heap.ExtBut it s.heap h' -> (∃ o,h'.get? e = some o /\ o.cls = .type "StopIteration") -> E (.ref e) { s with heap:=h' }) : wpAny (model prog w) A (Builtin.SmallTypes.nextOf (.ref it)) Q E s:=by
 obtain ⟨ob,eo,ec,ed⟩:=id ei
 obtain ⟨ot,eot,_,nt,edt⟩:=et
 unfold Builtin.SmallTypes.nextOf
 refine wpAny_bind (wpAny_callSpecial?_slot (name:=Str.ofString "__next__") ei.typeIs F.slot_tuple_iterator_next (wpAny_call_entry F.slot_tuple_iterator_next ei.typeIs F.entry_tuple_iterator_next ?_ (F.args_tuple_iterator_next_1 _)))
 show wpAny _ _ (field (.ref it) 0 >>= _) _ _ s; refine wpAny_bind (wpAny_field eo ed (x:=.ref tu) rfl ?_)
 show wpAny _ _ (if (Value.ref tu == Value.none) = true then _ else _) _ _ s; rw [if_neg (show ¬ ((Value.ref tu == Value.none) = true) from Bool.false_ne_true)]
 show wpAny _ _ (field (.ref it) 1 >>= _) _ _ s; refine wpAny_bind (wpAny_field eo ed (x:=.int i 0) rfl ?_)
 show wpAny _ _ (seqItems? (.ref tu) >>= _) _ _ s; refine wpAny_bind (wpAny_seqItems eot edt ?_)
 simp only [Int.toNat_natCast,ex]
 refine wpAny_bind (wpAny_rule (wpAny_bind (wpAny_setField eo ed (by simp) ?_)))
 show wpAny _ _ (newExc (.type "StopIteration") [] >>= _) _ _ _; refine wpAny_bind ?_; simp only [newExc,newTuple]
 refine wpAny_bind (wpAny_newObj_type ?_ (by size_fits)); refine wpAny_bind (m:=firstArgMember _ _) (wpAny_of_eq (a:=Value.none) (by first | rfl | (simp only [firstArgMember]; rfl)) ?_)
 refine wpAny_newObj_type ?_ (by size_fits); simp only [raiseNew]; refine wpAny_bind (wpAny_handled ?_)
 first | rw [hh] | rw [show A.in1.handled = none from hh]
 exact wpAny_bind (wpAny_pure (wpAny_throw (fin _ _ (((Heap.SameBut.update ..).extBut.push _).push _) ⟨_,Heap.get?_push_size _ rfl,rfl⟩)))
theorem zpr (hh : A.handled = none) (it tu : Addr) (hne : tu ≠ it) (its : Array Value) : Draws prog w A it [it,tu] its.size (fun i v=>its[i]? = some v) (fun i h=>h.IsTupleIter it tu i /\ h.IsTuple tu its) where
 live:=fun _ _ st=>let ⟨o,ho,_⟩:=st.1; ⟨o,ho⟩
 frame:=fun _ _ _ st hk=>⟨st.1.at fun o e=>hk it (by simp) o e,st.2.at fun o e=>hk tu (by simp) o e⟩
 item:=fun i s Q E hi st hQ=>zh5 st.1 st.2 (x:=its[i]) (by simp [hi]) fun h' hit' hs'=>hQ _ h' s.toks (by simp [hi]) ⟨hit',st.2.extBut hs'.extBut hne⟩ hs'
 done:=fun s Q E st hE=>zh8 hh st.1 st.2 (by simp) hE
end
section
variable {K : PySem.W.Frag} {ta : TA} {g : TG} {tb : TS} {D : zb3} {σ : St} {H : Hp} {a : Addr} {xs : List V}
end
end L2
set_option Elab.async false
set_option linter.all false
set_option maxRecDepth 100000
namespace L2
open PySem PySem.Spec PyProof.Rows GM
structure ZA (z TI TO i1 i2 : Addr) (f1 f2 : List Addr) : Prop where
 a1 : TI ≠ z
 a2 : TO ≠ z
 a3 : i1 ≠ z
 a4 : i2 ≠ z
 a5 : TI ≠ TO
 a6 : TI ≠ i1
 a7 : TI ≠ i2
 a8 : TO ≠ i1
 a9 : TO ≠ i2
 b0 : i1 ≠ i2
 b1 : z ∉ f1
 b2 : z ∉ f2
 b3 : TO ∉ f1
 b4 : TO ∉ f2
 b5 : i1 ∉ f2
 b6 : i2 ∉ f1
section
variable {prog : Program} {w : World} {A : Around} {E : Value -> Shared -> Prop} {s : Shared} {z TI TO i1 i2 : Addr} {f1 f2 : List Addr} {n1 n2 k : Nat} {P1 P2 : Nat -> Value -> Prop} {S1 S2 : Nat -> Heap -> Prop} {a b : Value}
theorem zre {Q : Value -> Shared -> Prop} (D1 : Draws prog w A i1 f1 n1 P1 S1) (D2 : Draws prog w A i2 f2 n2 P2 S2) (ap : ZA z TI TO i1 i2 f1 f2) (hz : IsZip s.heap z TI TO .none) (hi : IsPair s.heap TI (.ref i1) (.ref i2)) (ho : IsPair s.heap TO a b)
   (h1 : S1 k s.heap) (h2 : S2 k s.heap) (l1 : k < n1) (l2 : k < n2)
   (fin : ∀ x y h' tk,P1 k x -> P2 k y -> IsZip h' z TI TO (rawInt s.heap.objs.size) -> IsPair h' TO x y -> S1 (k + 1) h' -> S2 (k + 1) h' -> IsPair h' s.heap.objs.size x y ->
     (∀ c o,c ≠ z -> c ≠ TO -> c ≠ i1 -> c ≠ i2 -> s.heap.get? c = some o -> h'.get? c = some o) -> Q (.ref s.heap.objs.size) { s with heap:=h',toks:=tk }) :
   wpAny (model prog w) A (Builtin.«zip.__next__» ⟨[.ref z],[]⟩) (fun r s'=>∃ v,r = .done (.ret v) /\ Q v s') E s:=by
 show wpAny _ _ (field (.ref z) 2 >>= _) _ _ _; refine wpAny_bind (wpAny_field hz rfl (x:=.bool false) rfl ?_)
 show wpAny _ _ (field (.ref z) 3 >>= _) _ _ _; refine wpAny_bind (wpAny_field hz rfl (x:=.ref TI) rfl ?_)
 refine wpAny_bind (wpAny_seqItems hi rfl ?_); show wpAny _ _ (Builtin.SmallTypes.ownedTupleIsFree (.ref z) >>= _) _ _ _
 refine wpAny_bind ?_; unfold Builtin.SmallTypes.ownedTupleIsFree
 refine wpAny_bind (wpAny_field hz rfl (x:=.none) rfl (wpAny_pure ?_)); simp only [if_true]
 refine wpAny_bind (wpAny_rule ?_); refine wpAny_bind (wpAny_field hz rfl (x:=.ref TO) rfl ?_)
 refine wpAny_bind (wpAny_setField_rec hz (by simp) fun g1 zz1 sb1=>?_)
 have zz1 : IsZip g1 z TI TO .ellipsis:=zz1
 refine wpAny_bind ?_; simp only [List.zipIdx_cons,List.zipIdx_nil,List.forIn_cons,List.forIn_nil]
 refine wpAny_bind (wpAny_bind (wpAny_onRaise ?_)); show wpAny _ _ (Builtin.SmallTypes.nextOf (.ref i1) >>= _) _ _ _
 have h1a : S1 k g1:=D1.frame _ _ _ h1 fun c hc o e=>sb1.extBut c o (fun q=>ap.b1 (q ▸ hc)) e
 have h2a : S2 k g1:=D2.frame _ _ _ h2 fun c hc o e=>sb1.extBut c o (fun q=>ap.b2 (q ▸ hc)) e
 refine wpAny_bind (D1.item k _ _ _ l1 h1a fun x g2 t2 px h1b sb2=>wpAny_pure ?_)
 have ho2 : IsPair g2 TO a b:=sb2.extBut _ _ ap.a8 (sb1.extBut _ _ ap.a2 ho)
 have h2b : S2 k g2:=D2.frame _ _ _ h2a fun c hc o e=>sb2.extBut c o (fun q=>ap.b5 (q ▸ hc)) e
 refine wpAny_bind (wpAny_seqItems ho2 rfl ?_); refine wpAny_bind (wpAny_updateSeq_pair ho2 fun g3 ho3 sb3=>?_)
 have ho3 : IsPair g3 TO x b:=ho3
 have sb3 : Heap.SameBut TO g2 g3:=sb3
 have h1c : S1 (k + 1) g3:=D1.frame _ _ _ h1b fun c hc o e=>sb3.extBut c o (fun q=>ap.b3 (q ▸ hc)) e
 have h2c : S2 k g3:=D2.frame _ _ _ h2b fun c hc o e=>sb3.extBut c o (fun q=>ap.b4 (q ▸ hc)) e
 refine wpAny_bind (wpAny_letGo (wpAny_pure ?_)); refine wpAny_bind (wpAny_bind (wpAny_onRaise ?_))
 show wpAny _ _ (Builtin.SmallTypes.nextOf (.ref i2) >>= _) _ _ _; refine wpAny_bind (D2.item k _ _ _ l2 h2c fun y g4 t4 py h2d sb4=>wpAny_pure ?_)
 have sb4 : Heap.SameBut i2 g3 g4:=sb4
 have ho4 : IsPair g4 TO x b:=sb4.extBut _ _ ap.a9 ho3
 have h1d : S1 (k + 1) g4:=D1.frame _ _ _ h1c fun c hc o e=>sb4.extBut c o (fun q=>ap.b6 (q ▸ hc)) e
 refine wpAny_bind (wpAny_seqItems ho4 rfl ?_); refine wpAny_bind (wpAny_updateSeq_pair ho4 fun g5 ho5 sb5=>?_)
 have ho5 : IsPair g5 TO x y:=ho5
 have sb5 : Heap.SameBut TO g4 g5:=sb5
 have h1e : S1 (k + 1) g5:=D1.frame _ _ _ h1d fun c hc o e=>sb5.extBut c o (fun q=>ap.b3 (q ▸ hc)) e
 have h2e : S2 (k + 1) g5:=D2.frame _ _ _ h2d fun c hc o e=>sb5.extBut c o (fun q=>ap.b4 (q ▸ hc)) e
 refine wpAny_bind (wpAny_letGo (wpAny_pure (wpAny_pure ?_))); refine wpAny_bind (wpAny_seqItems ho5 rfl ?_); refine wpAny_bind (wpAny_newTuple ?_)
 have sb2 : Heap.SameBut i1 g1 g2:=sb2
 have sb1 : Heap.SameBut z s.heap g1:=sb1
 have hsz : g5.objs.size = s.heap.objs.size:=by rw [sb5.1,sb4.1,sb3.1,sb2.1,sb1.1]
 have zz5 : IsZip g5 z TI TO .ellipsis:=sb5.extBut _ _ ap.a2.symm (sb4.extBut _ _ ap.a4.symm (sb3.extBut _ _ ap.a2.symm (sb2.extBut _ _ ap.a3.symm zz1)))
 have kept : ∀ c o,c ≠ z -> c ≠ TO -> c ≠ i1 -> c ≠ i2 -> s.heap.get? c = some o -> g5.get? c = some o:=fun c o c1 c2 c3 c4 e=>sb5.extBut _ _ c2 (sb4.extBut _ _ c4 (sb3.extBut _ _ c2 (sb2.extBut _ _ c3 (sb1.extBut _ _ c1 e))))
 have zlt : z < g5.objs.size:=Heap.lt_size zz5
 show wpAny _ _ (Builtin.SmallTypes.ownedTupleHandOut (.ref z) (.ref g5.objs.size) >>= _) _ _ _; refine wpAny_bind ?_; unfold Builtin.SmallTypes.ownedTupleHandOut
 have zz6 : IsZip (g5.push { cls:=.type "tuple",data:=.seq #[x,y] }) z TI TO .ellipsis:=Heap.get?_push_of_some _ zz5
 refine wpAny_bind (wpAny_setField_rec zz6 (by simp) fun g7 zz7 sb7=>?_)
 have zz7 : IsZip g7 z TI TO (rawInt g5.objs.size):=zz7
 refine wpAny_setField_rec zz7 (by simp) fun g8 zz8 sb8=>?_
 have zz8 : IsZip g8 z TI TO (rawInt g5.objs.size):=zz8
 have sb7 : Heap.SameBut z (g5.push { cls:=.type "tuple",data:=.seq #[x,y] }) g7:=sb7
 have sb8 : Heap.SameBut z g7 g8:=sb8
 have up : ∀ c o,c ≠ z -> g5.get? c = some o -> g8.get? c = some o:=fun c o c1 e=>sb8.extBut _ _ c1 (sb7.extBut _ _ c1 (Heap.get?_push_of_some _ e))
 have new8 : IsPair g8 g5.objs.size x y:=sb8.extBut _ _ (Nat.ne_of_gt zlt) (sb7.extBut _ _ (Nat.ne_of_gt zlt) (Heap.get?_push_size _ rfl))
 rw [hsz] at zz8 new8
 refine wpAny_pure ⟨_,rfl,?_⟩
 show Q (.ref g5.objs.size) _
 rw [hsz]
 exact fin x y g8 _ px py zz8 (up _ _ ap.a2 ho5) (D1.frame _ _ _ h1e fun c hc o e=>up c o (fun q=>ap.b1 (q ▸ hc)) e) (D2.frame _ _ _ h2e fun c hc o e=>up c o (fun q=>ap.b2 (q ▸ hc)) e) new8 fun c o c1 c2 c3 c4 e=>up c o c1 (kept c o c1 c2 c3 c4 e)
theorem zrc {Q : Fin -> Shared -> Prop} (D1 : Draws prog w A i1 f1 n1 P1 S1) (D2 : Draws prog w A i2 f2 n2 P2 S2) (ap : ZA z TI TO i1 i2 f1 f2) (hz : IsZip s.heap z TI TO .none) (hi : IsPair s.heap TI (.ref i1) (.ref i2)) (ho : IsPair s.heap TO a b)
   (h1 : S1 k s.heap) (h2 : S2 k s.heap) (hk : k = n1 \/ (k < n1 /\ k = n2))
   (fin : ∀ h' e tk,(∀ c o,c ≠ z -> c ≠ TO -> c ≠ i1 -> c ≠ i2 -> s.heap.get? c = some o -> h'.get? c = some o) -> (∃ o,h'.get? e = some o /\ o.cls = .type "StopIteration") -> E (.ref e) { s with heap:=h',toks:=tk }) :
   wpAny (model prog w) A (Builtin.«zip.__next__» ⟨[.ref z],[]⟩) Q E s:=by
 show wpAny _ _ (field (.ref z) 2 >>= _) _ _ _; refine wpAny_bind (wpAny_field hz rfl (x:=.bool false) rfl ?_)
 show wpAny _ _ (field (.ref z) 3 >>= _) _ _ _; refine wpAny_bind (wpAny_field hz rfl (x:=.ref TI) rfl ?_)
 refine wpAny_bind (wpAny_seqItems hi rfl ?_); show wpAny _ _ (Builtin.SmallTypes.ownedTupleIsFree (.ref z) >>= _) _ _ _
 refine wpAny_bind ?_; unfold Builtin.SmallTypes.ownedTupleIsFree
 refine wpAny_bind (wpAny_field hz rfl (x:=.none) rfl (wpAny_pure ?_)); simp only [if_true]
 refine wpAny_bind (wpAny_rule ?_); refine wpAny_bind (wpAny_field hz rfl (x:=.ref TO) rfl ?_)
 refine wpAny_bind (wpAny_setField_rec hz (by simp) fun g1 zz1 sb1=>?_)
 have zz1 : IsZip g1 z TI TO .ellipsis:=zz1
 have sb1 : Heap.SameBut z s.heap g1:=sb1
 refine wpAny_bind ?_; simp only [List.zipIdx_cons,List.zipIdx_nil,List.forIn_cons,List.forIn_nil]
 refine wpAny_bind (wpAny_bind (wpAny_onRaise ?_)); show wpAny _ _ (Builtin.SmallTypes.nextOf (.ref i1) >>= _) _ _ _
 have h1a : S1 k g1:=D1.frame _ _ _ h1 fun c hc o e=>sb1.extBut c o (fun q=>ap.b1 (q ▸ hc)) e
 have h2a : S2 k g1:=D2.frame _ _ _ h2 fun c hc o e=>sb1.extBut c o (fun q=>ap.b2 (q ▸ hc)) e
 rcases hk with rfl | ⟨l1,rfl⟩
 . refine wpAny_bind (D1.done _ _ _ h1a fun g2 e sb2 he=>?_)
   obtain ⟨oe,hoe,hce⟩:=he
   have zz2 : IsZip g2 z TI TO .ellipsis:=sb2 _ _ ap.a3.symm zz1
   have hez : e ≠ z:=fun q=>by subst q; rw [zz2] at hoe; cases hoe; simp at hce
   exact wpAny_setField_rec zz2 (by simp) fun g3 _ sb3=>fin g3 e _ (fun c o c1 _ c3 _ q=>sb3.extBut _ _ c1 (sb2 _ _ c3 (sb1.extBut _ _ c1 q))) ⟨oe,sb3.extBut _ _ hez hoe,hce⟩
 . refine wpAny_bind (D1.item k _ _ _ l1 h1a fun x g2 t2 px h1b sb2=>wpAny_pure ?_)
   have sb2 : Heap.SameBut i1 g1 g2:=sb2
   have ho2 : IsPair g2 TO a b:=sb2.extBut _ _ ap.a8 (sb1.extBut _ _ ap.a2 ho)
   have h2b : S2 k g2:=D2.frame _ _ _ h2a fun c hc o e=>sb2.extBut c o (fun q=>ap.b5 (q ▸ hc)) e
   refine wpAny_bind (wpAny_seqItems ho2 rfl ?_); refine wpAny_bind (wpAny_updateSeq_pair ho2 fun g3 ho3 sb3=>?_)
   have sb3 : Heap.SameBut TO g2 g3:=sb3
   have h2c : S2 k g3:=D2.frame _ _ _ h2b fun c hc o e=>sb3.extBut c o (fun q=>ap.b4 (q ▸ hc)) e
   refine wpAny_bind (wpAny_letGo (wpAny_pure ?_)); refine wpAny_bind (wpAny_bind (wpAny_onRaise ?_))
   show wpAny _ _ (Builtin.SmallTypes.nextOf (.ref i2) >>= _) _ _ _; refine wpAny_bind (D2.done _ _ _ h2c fun g4 e sb4 he=>?_)
   obtain ⟨oe,hoe,hce⟩:=he
   have zz4 : IsZip g4 z TI TO .ellipsis:=sb4 _ _ ap.a4.symm (sb3.extBut _ _ ap.a2.symm (sb2.extBut _ _ ap.a3.symm zz1))
   have hez : e ≠ z:=fun q=>by subst q; rw [zz4] at hoe; cases hoe; simp at hce
   exact wpAny_setField_rec zz4 (by simp) fun g5 _ sb5=>fin g5 e _ (fun c o c1 c2 c3 c4 q=>sb5.extBut _ _ c1 (sb4 _ _ c4 (sb3.extBut _ _ c2 (sb2.extBut _ _ c3 (sb1.extBut _ _ c1 q))))) ⟨oe,sb5.extBut _ _ hez hoe,hce⟩
end
def SqK (t : Bool) (K : PySem.W.Frag) (H : Hp) (a : Addr) (xs : List V) : Prop:=match t with
 | true=>SqT K H a xs
 | false=>SqL K H a xs
def zdZ (t : Bool) (h : Heap) (it a : Addr) (i : Nat) : Prop:=match t with
 | true=>h.IsTupleIter it a i
 | false=>h.IsListIter it a i
def zqP (t : Bool) (h : Heap) (a : Addr) (its : Array Value) : Prop:=match t with
 | true=>h.IsTuple a its
 | false=>h.IsList a its
theorem zhm {prog : Program} {w : World} {A : Around} (t : Bool) (hh : A.handled = none) (it a : Addr) (hne : a ≠ it) (its : Array Value) : Draws prog w A it [it,a] its.size (fun i v=>its[i]? = some v) (fun i h=>zdZ t h it a i /\ zqP t h a its):=by
 cases t
 . exact Draws.list hh it a hne its
 . exact zpr hh it a hne its
theorem Inv.seqK {X : Cx} {pins : List (Addr × Obj)} {σ : L2.St} {H : Hp} {s : Shared} {t : Bool} {a : Addr} {xs : List V} (I : Inv X pins σ H s) (h : SqK t X.K H a xs) : ∃ its : List Value,zak xs its /\ zqP t s.heap a its.toArray:=by
 cases t
 . obtain ⟨its,r,p,_⟩:=I.list h
   exact ⟨its,r,p.isList⟩
 . obtain ⟨its,r,p,_⟩:=I.tuple h
   exact ⟨its,r,p⟩
theorem Inv.seqK_inj {X : Cx} {pins : List (Addr × Obj)} {σ : L2.St} {H : Hp} {s : Shared} {t : Bool} {a : Addr} {xs ys : List V} (I : Inv X pins σ H s) (h : SqK t X.K H a xs) (k : SqK t X.K H a ys) : xs = ys:=by
 cases t
 . exact I.list_inj h k
 . exact I.tuple_inj h k
theorem zdZ.obj {t : Bool} {h : Heap} {it a : Addr} {i : Nat} (st : zdZ t h it a i) : ∃ o,h.get? it = some o /\ ∀ v,o.data ≠ .cell v:=by
 cases t
 . obtain ⟨o,e,_,d⟩:=st
   exact ⟨o,e,fun v z=>by rw [d] at z; cases z⟩
 . obtain ⟨o,e,_,d⟩:=st
   exact ⟨o,e,fun v z=>by rw [d] at z; cases z⟩
theorem zdZ.at {t : Bool} {h h' : Heap} {it a : Addr} {i : Nat} (st : zdZ t h it a i) (k : ∀ o,h.get? it = some o -> h'.get? it = some o) : zdZ t h' it a i:=by
 cases t
 . exact Heap.IsListIter.at st k
 . exact Heap.IsTupleIter.at st k
def Itz (t u : Bool) (K : PySem.W.Frag) (a b : Addr) : It :=
 ⟨fun i H=>∃ xs x ys y,SqK t K H a xs /\ xs[i]? = some x /\ SqK u K H b ys /\ ys[i]? = some y,
  fun i H v H'=>∃ (c : Addr) (x y : V),v = .ref c /\ H c = none /\ (∀ xs,SqK t K H a xs -> xs[i]? = some x) /\ (∀ ys,SqK u K H b ys -> ys[i]? = some y) /\ H' = upd H c (.tup [x,y]),
  fun i H=>∃ xs ys,SqK t K H a xs /\ SqK u K H b ys /\ (xs.length = i \/ (i < xs.length /\ ys.length = i))⟩
theorem zlS {P : Program} {w : World} {K : PySem.W.Frag} {elts : List Expr} {k1} {tpos : Pos} {t u : Bool} (a b z TI TO i1 i2 : Addr) (ap : ZA z TI TO i1 i2 [i1,a] [i2,b]) (na : a ≠ i1) (nb : b ≠ i2) :
   zhz P w K (.Tuple elts k1 tpos) (Itz t u K a b) [z,TI,TO,i1,i2] z (fun i h=>IsZip h z TI TO .none /\ IsPair h TI (.ref i1) (.ref i2) /\ (∃ p q,IsPair h TO p q) /\ zdZ t h i1 a i /\ zdZ u h i2 b i) where
 mem:=by simp
 obj:=fun i h st c hc=>by
   obtain ⟨hz,hi,⟨p,q,ho⟩,s1,s2⟩:=st
   simp only [List.mem_cons,List.not_mem_nil,or_false] at hc
   rcases hc with rfl | rfl | rfl | rfl | rfl
   . exact ⟨_,hz,fun v z=>by cases (show Data.fields _ = Data.cell v from z)⟩
   . exact ⟨_,hi,fun v z=>by cases (show Data.seq _ _ = Data.cell v from z)⟩
   . exact ⟨_,ho,fun v z=>by cases (show Data.seq _ _ = Data.cell v from z)⟩
   . exact s1.obj
   . exact s2.obj
 keep:=fun i h h' st k=>by
   obtain ⟨hz,hi,⟨p,q,ho⟩,s1,s2⟩:=st
   exact ⟨k z (by simp) _ hz,k TI (by simp) _ hi,⟨p,q,k TO (by simp) _ ho⟩,s1.at fun o e=>k i1 (by simp) o e,s2.at fun o e=>k i2 (by simp) o e⟩
 item:=by
   intro X hP hw hK hc i pins s σ H E I hf st hg
   subst hP hw hK
   obtain ⟨hz,hi,⟨p,q,ho⟩,s1,s2⟩:=st
   obtain ⟨xs,x,ys,y,hq1,hx,hq2,hy⟩:=hg
   obtain ⟨its,r1,p1⟩:=I.seqK hq1
   obtain ⟨jts,r2,p2⟩:=I.seqK hq2
   obtain ⟨ux,hux,rux⟩:=r1.get hx
   obtain ⟨uy,huy,ruy⟩:=r2.get hy
   have lt1 : i < its.toArray.size:=by
     rcases Nat.lt_or_ge i its.length with q | q
     . simpa using q
     . rw [List.getElem?_eq_none q] at hux; cases hux
   have lt2 : i < jts.toArray.size:=by
     rcases Nat.lt_or_ge i jts.length with q | q
     . simpa using q
     . rw [List.getElem?_eq_none q] at huy; cases huy
   have hT : s.TypeIs (.ref z) "zip":=⟨_,hz,rfl⟩
   unfold pyNext
   refine wpAny_bind (wpAny_attempt (wpAny_callSpecial?_slot (name:=Str.ofString "__next__") hT F.slot_zip_next (wpAny_call_entry F.slot_zip_next hT F.entry_zip_next
     (zre (zhm (A:=X.A.in1) t (I.ok.hd hc) i1 a na its.toArray) (zhm (A:=X.A.in1) u (I.ok.hd hc) i2 b nb jts.toArray) ap hz hi ho ⟨s1,p1⟩ ⟨s2,p2⟩ lt1 lt2 fun v1 v2 h1 tk e1 e2 hz1 ho1 st1 st2 hT1 hk=>wpAny_pure ?_) (F.args_zip_next_1 _))))
   have ev1 : v1 = ux:=by
     have e1' : its[i]? = some v1:=by simpa using e1
     rw [hux] at e1'; exact (Option.some.inj e1').symm
   have ev2 : v2 = uy:=by
     have e2' : jts[i]? = some v2:=by simpa using e2
     rw [huy] at e2'; exact (Option.some.inj e2').symm
   subst ev1 ev2
   have I1 : Inv X pins σ (upd H s.heap.objs.size (.tup [x,y])) { s with heap:=s.heap.push { cls:=.type "tuple",data:=.seq ([v1,v2] : List Value).toArray },toks:=tk } :=
     I.laid (fun c o q=>Heap.get?_push_of_some _ q) (Nat.le_refl _) (show zbe X.prog X.w _ _ _ (.tup [x,y]) from ⟨zfF (by simp),_,.cons rux (.cons ruy .nil),IsTup.new _ _⟩)
   have ltf : ∀ c ∈ [z,TI,TO,i1,i2],c < s.heap.objs.size:=fun c hc=>by
     simp only [List.mem_cons,List.not_mem_nil,or_false] at hc
     rcases hc with rfl | rfl | rfl | rfl | rfl
     . exact Heap.lt_size hz
     . exact Heap.lt_size hi
     . exact Heap.lt_size ho
     . obtain ⟨o,e,_⟩:=s1.obj; exact Heap.lt_size e
     . obtain ⟨o,e,_⟩:=s2.obj; exact Heap.lt_size e
   have hf1 : ∀ c ∈ [z,TI,TO,i1,i2],zdf X pins (upd H s.heap.objs.size (.tup [x,y])) c:=fun c hc=>⟨by rw [zaZ (Nat.ne_of_lt (ltf c hc))]; exact (hf c hc).1,(hf c hc).2⟩
   refine ⟨_,rfl,wpAny_letOwnedTupleGo_zip hz1 fun h2 hz2 hs2=>?_⟩
   have hs2 : Heap.SameBut z h1 h2:=hs2
   refine ⟨.ref s.heap.objs.size,_,Inv.turnedL (s:={ s with heap:=s.heap.push { cls:=.type "tuple",data:=.seq ([v1,v2] : List Value).toArray },toks:=tk }) (ch:=[z,TI,TO,i1,i2]) I1 (fun c o hc q=>?_) hf1,rfl,
     ⟨_,x,y,rfl,I.hok.fresh (Nat.le_refl _),fun zs hzs=>by rw [I.seqK_inj hzs hq1]; exact hx,fun zs hzs=>by rw [I.seqK_inj hzs hq2]; exact hy,rfl⟩,
     ⟨hz2,hs2.extBut _ _ ap.a1 (hk _ _ ap.a1 ap.a5 ap.a6 ap.a7 hi),⟨_,_,hs2.extBut _ _ ap.a2 ho1⟩,st1.1.at fun o e=>hs2.extBut _ _ ap.a3 e,st2.1.at fun o e=>hs2.extBut _ _ ap.a4 e⟩,fun c hc=>(hf1 c hc).1⟩
   have c1 : c ≠ z:=fun q=>hc (by simp [q])
   have c2 : c ≠ TO:=fun q=>hc (by simp [q])
   have c3 : c ≠ i1:=fun q=>hc (by simp [q])
   have c4 : c ≠ i2:=fun q=>hc (by simp [q])
   refine hs2.extBut _ _ c1 ?_
   by_cases hcs : c = s.heap.objs.size
   . subst hcs
     rw [Heap.get?_push_size _ rfl] at q
     cases q
     exact hT1
   . exact hk c o c1 c2 c3 c4 (by rw [Heap.get?_push_ne _ _ _ hcs] at q; exact q)
 done:=by
   intro X hP hw hK hc i pins s σ H E I hf st hg
   subst hP hw hK
   obtain ⟨hz,hi,⟨p,q,ho⟩,s1,s2⟩:=st
   obtain ⟨xs,ys,hq1,hq2,hend⟩:=hg
   obtain ⟨its,r1,p1⟩:=I.seqK hq1
   obtain ⟨jts,r2,p2⟩:=I.seqK hq2
   have e1:=r1.length
   have e2:=r2.length
   have hT : s.TypeIs (.ref z) "zip":=⟨_,hz,rfl⟩
   unfold pyNext
   refine wpAny_bind (wpAny_attempt (wpAny_callSpecial?_slot (name:=Str.ofString "__next__") hT F.slot_zip_next (wpAny_call_entry F.slot_zip_next hT F.entry_zip_next
     (zrc (k:=i) (zhm (A:=X.A.in1) t (I.ok.hd hc) i1 a na its.toArray) (zhm (A:=X.A.in1) u (I.ok.hd hc) i2 b nb jts.toArray) ap hz hi ho ⟨s1,p1⟩ ⟨s2,p2⟩ (by simp only [List.size_toArray]; lia) fun h' y tk hk hx'=>?_) (F.args_zip_next_1 _))))
   obtain ⟨o,ho',hcl⟩:=hx'
   refine wpAny_bind (wpAny_isInstance (T:="StopIteration") (b:=true) ⟨o,ho',hcl⟩ isSubtype_stop (wpAny_pure ⟨rfl,?_⟩))
   exact Inv.turnedL (ch:=[z,TI,TO,i1,i2]) I (fun c o hc e=>hk c o (fun q=>hc (by simp [q])) (fun q=>hc (by simp [q])) (fun q=>hc (by simp [q])) (fun q=>hc (by simp [q])) e) hf
 self:=fun _ _ _ _ _ st h=>wpAny_pyIter_zip st.1 h
abbrev zT1 (h : Heap) (a : Addr) : Heap:=h.push { cls:=.type "tuple_iterator",data:=.fields #[.ref a,.int 0 0] }
abbrev zT2 (h : Heap) (a b : Addr) : Heap:=(zT1 h a).push { cls:=.type "tuple_iterator",data:=.fields #[.ref b,.int 0 0] }
abbrev zT3 (h : Heap) (a b : Addr) : Heap:=(zT2 h a b).push { cls:=.type "tuple",data:=.seq #[.ref h.objs.size,.ref (zT1 h a).objs.size] }
abbrev zT4 (h : Heap) (a b : Addr) : Heap:=(zT3 h a b).push { cls:=.type "tuple",data:=.seq #[.none,.none] }
abbrev zT5 (h : Heap) (a b : Addr) : Heap:=(zT4 h a b).push { cls:=.type "zip",data:=.fields #[.none,.bool false,.bool false,.ref (zT2 h a b).objs.size,.ref (zT3 h a b).objs.size] }
theorem zi2 (a b : Addr) (xs ys : Array Value) : Meets (Builtin.«zip.__new__» ⟨[.type "zip",.ref a,.ref b],[]⟩) (fun _ R s=>s.heap.IsTuple a xs /\ s.heap.IsTuple b ys /\ R (.ok (.ret (.ref (zT4 s.heap a b).objs.size))) { s with heap:=zT5 s.heap a b }) :=
 .of_wp fun prog w A R s h=>by
   obtain ⟨hp,g,d,tk,os⟩:=s
   obtain ⟨ha,hb,h⟩:=h
   have hsub:=sub_zip
   have hA : Heap.IsTuple (Shared.heap ⟨hp,g,d,tk,os⟩) a xs:=ha
   have hB : Heap.IsTuple (Shared.heap ⟨hp.push { cls:=.type "tuple_iterator",data:=.fields #[.ref a,.int 0 0] },g,d,tk,os⟩) b ys:=hb.at fun o e=>Heap.get?_push_of_some _ e
   wp_walk using wpAny_pyIter_tuple hA,wpAny_pyIter_tuple hB
   exact ⟨_,rfl,h⟩
section
variable {prog : Program} {w : World} {A : Around} {E : Value -> Shared -> Prop} {s : Shared}
theorem zk7 {a b : Addr} {xs ys : Array Value} {Q : Value -> Shared -> Prop} (ha : s.heap.IsTuple a xs) (hb : s.heap.IsTuple b ys)
   (fin : ∀ h',IsZip h' (s.heap.objs.size + 4) (s.heap.objs.size + 2) (s.heap.objs.size + 3) .none -> IsPair h' (s.heap.objs.size + 2) (.ref s.heap.objs.size) (.ref (s.heap.objs.size + 1)) -> IsPair h' (s.heap.objs.size + 3) .none .none ->
     h'.IsTupleIter s.heap.objs.size a 0 -> h'.IsTupleIter (s.heap.objs.size + 1) b 0 -> (∀ c o,s.heap.get? c = some o -> h'.get? c = some o) -> Q (.ref (s.heap.objs.size + 4)) { s with heap:=h' }) : wpAny (model prog w) A (call (.type "zip") [.ref a,.ref b]) Q E s:=by
 refine callType_new F.called_zip (by decide) (F.typeCall_zip_2 _ _) (F.newCall_zip_2 _ _) (fun obj=>F.args_object_init_3 obj _ _) F.entry_zip_new (zi2 a b xs ys) ⟨ha,hb,?_⟩
 have z1 : (zT1 s.heap a).objs.size = s.heap.objs.size + 1:=Heap.size_push ..
 have z2 : (zT2 s.heap a b).objs.size = s.heap.objs.size + 2:=by rw [Heap.size_push,z1]
 have z3 : (zT3 s.heap a b).objs.size = s.heap.objs.size + 3:=by rw [Heap.size_push,z2]
 have z4 : (zT4 s.heap a b).objs.size = s.heap.objs.size + 4:=by rw [Heap.size_push,z3]
 have g5 : (zT5 s.heap a b).get? (zT4 s.heap a b).objs.size = some _:=Heap.get?_push_size _ rfl
 have g4 : (zT5 s.heap a b).get? (zT3 s.heap a b).objs.size = some _:=Heap.get?_push_of_some _ (Heap.get?_push_size _ rfl)
 have g3 : (zT5 s.heap a b).get? (zT2 s.heap a b).objs.size = some _:=Heap.get?_push_of_some _ (Heap.get?_push_of_some _ (Heap.get?_push_size _ rfl))
 have g2 : (zT5 s.heap a b).get? (zT1 s.heap a).objs.size = some _:=Heap.get?_push_of_some _ (Heap.get?_push_of_some _ (Heap.get?_push_of_some _ (Heap.get?_push_size _ rfl)))
 have g1 : (zT5 s.heap a b).get? s.heap.objs.size = some _:=Heap.get?_push_of_some _ (Heap.get?_push_of_some _ (Heap.get?_push_of_some _ (Heap.get?_push_of_some _ (Heap.get?_push_size _ rfl))))
 show _ /\ _
 rw [z2,z3,z4] at g5; rw [z1,z2] at g3; rw [z3] at g4; rw [z1] at g2; rw [z4]
 exact ⟨⟨_,g5,rfl⟩,fin _ g5 g3 g4 ⟨_,g1,rfl,rfl⟩ ⟨_,g2,rfl,rfl⟩ fun c o x=>Heap.get?_push_of_some _ (Heap.get?_push_of_some _ (Heap.get?_push_of_some _ (Heap.get?_push_of_some _ (Heap.get?_push_of_some _ x))))⟩
end
theorem zpJ : bootBuiltins "zip" = some (.type "zip"):=by decide +kernel
theorem zdP {x a b : Addr} (h : x ≠ a) (k : x ≠ b) : x ∉ [a,b]:=by simp [h,k]
theorem zqs {n a b : Nat} (la : a < n) (lb : b < n) : ZA (n + 4) (n + 2) (n + 3) n (n + 1) [n,a] [n + 1,b] where
 a1:=Nat.ne_of_lt (by lia)
 a2:=Nat.ne_of_lt (by lia)
 a3:=Nat.ne_of_lt (by lia)
 a4:=Nat.ne_of_lt (by lia)
 a5:=Nat.ne_of_lt (by lia)
 a6:=Nat.ne_of_gt (by lia)
 a7:=Nat.ne_of_gt (by lia)
 a8:=Nat.ne_of_gt (by lia)
 a9:=Nat.ne_of_gt (by lia)
 b0:=Nat.ne_of_lt (by lia)
 b1:=zdP (Nat.ne_of_gt (by lia)) (Nat.ne_of_gt (by lia))
 b2:=zdP (Nat.ne_of_gt (by lia)) (Nat.ne_of_gt (by lia))
 b3:=zdP (Nat.ne_of_gt (by lia)) (Nat.ne_of_gt (by lia))
 b4:=zdP (Nat.ne_of_gt (by lia)) (Nat.ne_of_gt (by lia))
 b5:=zdP (Nat.ne_of_lt (by lia)) (Nat.ne_of_gt (by lia))
 b6:=zdP (Nat.ne_of_gt (by lia)) (Nat.ne_of_gt (by lia))
theorem zhN {X : Cx} {elts : List Expr} {k1} {tpos : Pos} {pins : List (Addr × Obj)} {σ : L2.St} {H : Hp} {s : Shared} {R : It -> Hp -> Prop} {h' : Heap} {E : Value -> Shared -> Prop} {t u : Bool} {a b : Addr} (I : Inv X pins σ H s) (la : a < s.heap.objs.size) (lb : b < s.heap.objs.size)
   (hz : IsZip h' (s.heap.objs.size + 4) (s.heap.objs.size + 2) (s.heap.objs.size + 3) .none) (hi : IsPair h' (s.heap.objs.size + 2) (.ref s.heap.objs.size) (.ref (s.heap.objs.size + 1))) (ho : IsPair h' (s.heap.objs.size + 3) .none .none)
   (s1 : zdZ t h' s.heap.objs.size a 0) (s2 : zdZ u h' (s.heap.objs.size + 1) b 0) (kp : ∀ c o,s.heap.get? c = some o -> h'.get? c = some o) (q : R (Itz t u X.K a b) H) : wpAny (model X.prog X.w) X.A (pyIter (.ref (s.heap.objs.size + 4))) (PIE X pins σ (.Tuple elts k1 tpos) R) E { s with heap:=h' }:=by
 refine wpAny_pyIter_zip hz ?_
 refine ⟨s.heap.objs.size + 4,[s.heap.objs.size + 4,s.heap.objs.size + 2,s.heap.objs.size + 3,s.heap.objs.size,s.heap.objs.size + 1],_,_,H,rfl,I.kept (t':=s.toks) kp,zlS a b _ (s.heap.objs.size + 2) (s.heap.objs.size + 3) s.heap.objs.size (s.heap.objs.size + 1) (zqs la lb) (Nat.ne_of_lt la) (Nat.ne_of_lt (Nat.lt_succ_of_lt lb)),⟨hz,hi,⟨_,_,ho⟩,s1,s2⟩,fun c hc=>?_,q⟩
 . have hb' : s.heap.objs.size <= c:=by
     simp only [List.mem_cons,List.not_mem_nil,or_false] at hc
     rcases hc with rfl | rfl | rfl | rfl | rfl
     . exact Nat.le_add_right _ 4
     . exact Nat.le_add_right _ 2
     . exact Nat.le_add_right _ 3
     . exact Nat.le_refl _
     . exact Nat.le_add_right _ 1
   exact I.fpOk hb' (I.hok.fresh hb')
theorem SqK.same {t : Bool} {K : PySem.W.Frag} {H H' : Hp} {a : Addr} {xs : List V} (s : zad H H') (h : SqK t K H a xs) : SqK t K H' a xs:=by
 cases t
 . exact s.seq h
 . exact s.sqT h
def zqv (t u : Bool) (K : PySem.W.Frag) (g : TG) (tb : TS) (D : zb3) (σ : L2.St) (vs : List V) (H1 : Hp) : Prop:=∃ a b,vs = [.ref a,.ref b] /\ (∃ xs,SqK t K H1 a xs) /\ (∃ ys,SqK u K H1 b ys) /\
 ∃ W : Nat -> Nat -> L2.St -> Hp -> Prop,(∃ m,W 0 m σ H1) /\ ∀ i m σ H,W i m σ H ->
   ((Itz t u K a b).stop i H /\ D.nx σ H) \/ ((Itz t u K a b).go i H /\ ∃ M : L2.St -> Hp -> Prop,(∀ σ' H',M σ' H' -> ∃ m',m' < m /\ W (i + 1) m' σ' H') /\ ∀ x H',(Itz t u K a b).yld i H x H' -> g x σ H' fun σ2 H2=>tb { D with nx:=M,ct:=M,bk:=D.nx } σ2 H2)
def zkg (t u : Bool) (K : PySem.W.Frag) (g : TG) (tt : TT) (te : TE) (src : List (Option Nat)) (σ : L2.St) (vs : List V) (H1 : Hp) (Q : VK) : Prop:=∃ a b,vs = [.ref a,.ref b] /\ (∃ xs,SqK t K H1 a xs) /\ (∃ ys,SqK u K H1 b ys) /\
 ∀ D,H1 D = none -> zcL g tt te (Itz t u K a b) D (zas src σ) (upd H1 D (.lst [])) (fun H'=>Q (.ref D) H')
section
variable {t u : Bool} {K : PySem.W.Frag} {ta : TA} {g : TG} {tb : TS} {tt : TT} {te : TE} {D : zb3} {σ : L2.St} {H : Hp} {Q : VK} {a b : Addr} {xs ys : List V} {src : List (Option Nat)} {o0 o0' : Option V} {tl : L2.St}
theorem zkR (hx : SqK t K H a xs) (hy : SqK u K H b ys) (hxy : xs.length = ys.length) (Pv : Nat -> L2.St -> Hp -> Prop) (h0 : Pv 0 σ H) (hl : ∀ i σ H,i <= xs.length -> Pv i σ H -> SqK t K H a xs /\ SqK u K H b ys)
   (hs : ∀ i x y σ H c H',xs[i]? = some x -> ys[i]? = some y -> Pv i σ H -> H c = none -> zad H H' -> H' c = some (.tup [x,y]) -> g (.ref c) σ H' fun σ2 H2=>tb { D with nx:=Pv (i + 1),ct:=Pv (i + 1),bk:=D.nx } σ2 H2) (hd : ∀ σ H,Pv xs.length σ H -> D.nx σ H) : zqv t u K g tb D σ [.ref a,.ref b] H:=by
 refine ⟨a,b,rfl,⟨xs,hx⟩,⟨ys,hy⟩,fun i m σ H=>i + m = xs.length /\ Pv i σ H,⟨xs.length,by lia,h0⟩,?_⟩
 rintro i m σ H ⟨him,hp⟩
 obtain ⟨hq1,hq2⟩:=hl i σ H (by lia) hp
 by_cases hm : m = 0
 . have e : i = xs.length:=by lia
   subst e
   exact .inl ⟨⟨xs,ys,hq1,hq2,.inl rfl⟩,hd _ _ hp⟩
 . have hi : i < xs.length:=by lia
   have hj : i < ys.length:=by lia
   refine .inr ⟨⟨xs,xs[i],ys,ys[i],hq1,by simp [hi],hq2,by simp [hj]⟩,fun σ' H'=>Pv (i + 1) σ' H',fun σ' H' h=>⟨m - 1,by lia,by lia,h⟩,?_⟩
   rintro v H' ⟨c,x,y,rfl,hn,hx',hy',rfl⟩
   exact hs i x y σ H c _ (hx' xs hq1) (hy' ys hq2) hp hn (zad.upd hn) zal
def zbf (H : Hp) (tl : L2.St) (Rel : Nat -> V -> Hp -> Prop) (D : Addr) (i : Nat) (zs : List V) (σ' : L2.St) (H' : Hp) : Prop :=
 (∃ o1 o2,σ' = o1 :: o2 :: tl) /\ H D = none /\ zad H H' /\ H' D = some (.lst zs) /\ zs.length = i /\ ∀ j y,zs[j]? = some y -> Rel j y H'
theorem zeR {Rel : Nat -> V -> Hp -> Prop} {D : Addr} {i : Nat} {zs : List V} {σ' σ3 : L2.St} {H1 H5 : Hp} {y : V} (inv : zbf H tl Rel D i zs σ' H1) (hi : i <= 1000) (hk : ∀ i v H1 H2,zaI H1 H2 -> Rel i v H1 -> Rel i v H2) (hσ : ∃ o1 o2,σ3 = o1 :: o2 :: tl) (s : zad H1 H5) (r : Rel i y H5) : zis (zbf H tl Rel) D i σ3 y H5:=by
 obtain ⟨_,hn,s1,hD,hl,hr⟩:=inv
 have hD5:=s _ _ hD
 refine zcI hD5 (by lia) fun H6 E6 e6=>⟨hσ,hn,(s1.trans s).grow hn E6,e6,by simp [hl],fun j z hz=>?_⟩
 have k6 : zaI H5 H6:=E6.keep hD5
 rcases Nat.lt_or_ge j zs.length with hj | hj
 . rw [List.getElem?_append_left hj] at hz
   exact hk _ _ _ _ (s.keep.trans k6) (hr j z hz)
 . have hj' : j = zs.length:=by
     rcases Nat.lt_or_ge zs.length j with q | q
     . rw [List.getElem?_eq_none (by simp; lia)] at hz; cases hz
     . lia
   subst hj'
   rw [List.getElem?_append_right (Nat.le_refl _),Nat.sub_self] at hz
   cases hz
   rw [hl]
   exact hk _ _ _ _ k6 r
theorem zhy (hx : SqK t K H a xs) (hy : SqK u K H b ys) (hxy : xs.length = ys.length) (hsrc : zas src σ = o0 :: o0' :: tl) (Rel : Nat -> V -> Hp -> Prop) (hk : ∀ i v H1 H2,zaI H1 H2 -> Rel i v H1 -> Rel i v H2)
   (hs : ∀ D i x y zs o1 o2 H1 c,xs[i]? = some x -> ys[i]? = some y -> zbf H tl Rel D i zs (o1 :: o2 :: tl) H1 -> H1 c = some (.tup [x,y]) -> zcA (zbf H tl Rel) g tt te D i (.ref c) (o1 :: o2 :: tl) H1)
   (hd : ∀ D zs H',H D = none -> zad H H' -> H' D = some (.lst zs) -> zs.length = xs.length -> (∀ j y,zs[j]? = some y -> Rel j y H') -> Q (.ref D) H') : zkg t u K g tt te src σ [.ref a,.ref b] H Q:=by
 refine ⟨a,b,rfl,⟨xs,hx⟩,⟨ys,hy⟩,fun D hD=>⟨fun i m σ' H'=>i + m = xs.length /\ ∃ zs,zbf H tl Rel D i zs σ' H',⟨xs.length,by lia,[],⟨o0,o0',hsrc⟩,hD,zad.upd hD,zal,rfl,fun j y z=>by simp at z⟩,?_⟩⟩
 rintro i m σ' H' ⟨him,zs,inv⟩
 have hq1:=SqK.same inv.2.2.1 hx
 have hq2:=SqK.same inv.2.2.1 hy
 by_cases hm : m = 0
 . have e : i = xs.length:=by lia
   subst e
   obtain ⟨_,n,s,e,hl,r⟩:=inv
   exact .inl ⟨⟨xs,ys,hq1,hq2,.inl rfl⟩,hd D zs H' n s e hl r⟩
 . have hi : i < xs.length:=by lia
   have hj : i < ys.length:=by lia
   refine .inr ⟨⟨xs,xs[i],ys,ys[i],hq1,by simp [hi],hq2,by simp [hj]⟩,fun σ2 H2=>∃ zs,zbf H tl Rel D (i + 1) zs σ2 H2,fun σ2 H2 h=>⟨m - 1,by lia,by lia,h⟩,?_⟩
   rintro v H2 ⟨c,x,y,rfl,hn,hx',hy',rfl⟩
   obtain ⟨⟨o1,o2,rfl⟩,n,s,e,hl,r⟩:=inv
   have su:=zad.upd (o:=.tup [x,y]) hn
   exact hs D i x y zs o1 o2 _ c (hx' xs hq1) (hy' ys hq2) ⟨⟨o1,o2,rfl⟩,n,s.trans su,su _ _ e,hl,fun j y hy=>hk _ _ _ _ su.keep (r j y hy)⟩ zal
end
end L2
set_option Elab.async false
set_option linter.all false
set_option maxRecDepth 100000
namespace L2
open PySem PySem.Spec PyProof.Rows GM
end L2
set_option Elab.async false
set_option linter.all false
set_option maxRecDepth 100000
namespace L2
open PySem PySem.Spec PyProof.Rows GM
def zdT (K : PySem.W.Frag) : List V -> Hp -> VK -> Prop:=fun xs H Q=>∃ (p : Addr) (bs : List Bool),xs = [.ref p] /\ SqL K H p (bs.map V.bl) /\ Q (.bl (bs.all id)) H
theorem zdt : bootBuiltins "all" = some (.builtin "all"):=by decide +kernel
theorem zl8 {bs : List Bool} : ∀ {us : List Value},zak (bs.map V.bl) us -> us = bs.map Value.bool:=by
 induction bs with
 | nil=>intro us r; rw [List.map_nil] at r; cases r; rfl
 | cons b bs ih =>
   intro us r
   rw [List.map_cons] at r
   cases r with
   | cons r1 r2 =>
     cases r1
     rw [List.map_cons,ih r2]
theorem zjL (bs : List Bool) : ((List.range bs.length).all fun i=>(bs[i]?).getD true) = bs.all id:=by
 rw [Bool.eq_iff_iff,List.all_eq_true,List.all_eq_true]
 constructor
 . intro h b hb
   obtain ⟨i,hi,rfl⟩:=List.getElem_of_mem hb
   have:=h i (List.mem_range.mpr hi)
   rw [List.getElem?_eq_getElem hi] at this
   exact this
 . intro h i hi
   rw [List.mem_range] at hi
   rw [List.getElem?_eq_getElem hi]
   exact h _ (List.getElem_mem hi)
open PyProof.V PySem.Calls in
theorem zbx {X : Cx} (hc : X.calm = true) : zah X (.builtin "all") (zdT X.K):=by
 intro pins s σ H xs us Q I r h
 obtain ⟨p,bs,rfl,hq,q⟩:=h
 obtain ⟨u,rfl,rx⟩:=zcD r
 cases rx
 obtain ⟨its,r',pl,hz⟩:=I.list hq
 have hi : its = bs.map Value.bool:=zl8 r'
 have hl : s.heap.IsList p its.toArray:=pl.isList
 have hlt : p < s.heap.objs.size:=by obtain ⟨_,e,_⟩:=hl; exact Heap.lt_size e
 refine call_all_walk (wpAny_pyIter_list hl ?_)
 refine ⟨s.heap.objs.size,[s.heap.objs.size,p],[s.heap.objs.size],its.toArray.size,_,_,fun i=>(bs[i]?).getD true,rfl,Walks.list (A:=X.A.in1) (I.ok.hd hc) _ p (Nat.ne_of_lt hlt) its.toArray,
   ⟨⟨_,Heap.get?_push_size _ rfl,rfl,rfl⟩,hl.push _⟩,fun i v s' Q' E' hP hQ=>?_,fun h' tk hk=>?_⟩
 . have hP : its.toArray[i]? = some v:=hP
   rw [hi] at hP
   simp only [List.getElem?_toArray,List.getElem?_map,Option.map_eq_some_iff] at hP
   obtain ⟨b,e,rfl⟩:=hP
   simp only [e,Option.getD_some] at hQ
   exact wpAny_truthy_bool hQ
 . have e : ((List.range its.toArray.size).all fun i=>(bs[i]?).getD true) = bs.all id:=by
     rw [List.size_toArray,hi,List.length_map]; exact zjL bs
   rw [e]
   exact ⟨.bl (bs.all id),H,I.kept (t':=tk) (fun b x e=>hk b x (fun hm=>by rw [List.mem_singleton.mp hm] at e; exact Nat.lt_irrefl _ (Heap.lt_size e)) (Heap.get?_push_of_some _ e)),rfl,q⟩
theorem zcY {K : PySem.W.Frag} {H : Hp} {Q : VK} {p : Addr} {bs : List Bool} (h : SqL K H p (bs.map V.bl)) (q : Q (.bl (bs.all id)) H) : zdT K [.ref p] H Q:=⟨p,bs,rfl,h,q⟩
section
variable {t u : Bool} {K : PySem.W.Frag} {g : TG} {tt : TT} {te : TE} {σ : L2.St} {H : Hp} {Q : VK} {a b : Addr} {xs ys : List V} {src : List (Option Nat)} {o0 o0' : Option V} {tl : L2.St}
theorem zl4 (hx : SqK t K H a xs) (hy : SqK u K H b ys) (hxy : ys.length < xs.length) (hsrc : zas src σ = o0 :: o0' :: tl) (Rel : Nat -> V -> Hp -> Prop) (hk : ∀ i v H1 H2,zaI H1 H2 -> Rel i v H1 -> Rel i v H2)
   (hs : ∀ D i x y zs o1 o2 H1 c,xs[i]? = some x -> ys[i]? = some y -> zbf H tl Rel D i zs (o1 :: o2 :: tl) H1 -> H1 c = some (.tup [x,y]) -> zcA (zbf H tl Rel) g tt te D i (.ref c) (o1 :: o2 :: tl) H1)
   (hd : ∀ D zs H',H D = none -> zad H H' -> H' D = some (.lst zs) -> zs.length = ys.length -> (∀ j y,zs[j]? = some y -> Rel j y H') -> Q (.ref D) H') : zkg t u K g tt te src σ [.ref a,.ref b] H Q:=by
 refine ⟨a,b,rfl,⟨xs,hx⟩,⟨ys,hy⟩,fun D hD=>⟨fun i m σ' H'=>i + m = ys.length /\ ∃ zs,zbf H tl Rel D i zs σ' H',⟨ys.length,by lia,[],⟨o0,o0',hsrc⟩,hD,zad.upd hD,zal,rfl,fun j y z=>by simp at z⟩,?_⟩⟩
 rintro i m σ' H' ⟨him,zs,inv⟩
 have hq1:=SqK.same inv.2.2.1 hx
 have hq2:=SqK.same inv.2.2.1 hy
 by_cases hm : m = 0
 . have e : i = ys.length:=by lia
   subst e
   obtain ⟨_,n,s,e,hl,r⟩:=inv
   exact .inl ⟨⟨xs,ys,hq1,hq2,.inr ⟨hxy,rfl⟩⟩,hd D zs H' n s e hl r⟩
 . have hi : i < xs.length:=by lia
   have hj : i < ys.length:=by lia
   refine .inr ⟨⟨xs,xs[i],ys,ys[i],hq1,by simp [hi],hq2,by simp [hj]⟩,fun σ2 H2=>∃ zs,zbf H tl Rel D (i + 1) zs σ2 H2,fun σ2 H2 h=>⟨m - 1,by lia,by lia,h⟩,?_⟩
   rintro v H2 ⟨c,x,y,rfl,hn,hx',hy',rfl⟩
   obtain ⟨⟨o1,o2,rfl⟩,n,s,e,hl,r⟩:=inv
   have su:=zad.upd (o:=.tup [x,y]) hn
   exact hs D i x y zs o1 o2 _ c (hx' xs hq1) (hy' ys hq2) ⟨⟨o1,o2,rfl⟩,n,s.trans su,su _ _ e,hl,fun j y hy=>hk _ _ _ _ su.keep (r j y hy)⟩ zal
end
end L2
set_option Elab.async false
set_option linter.all false
set_option maxRecDepth 100000
namespace L2
open PySem PySem.Spec PyProof.Rows GM
def zjk (K : PySem.W.Frag) : List V -> Hp -> VK -> Prop:=fun xs H Q=>∃ x tp S T d b,xs = [x,.ref tp] /\ SqT K H tp [.ty S,.ty T] /\ Is K H x d /\ PySem.W.kitAny K (.type (kindOf d)) [.type S,.type T] = some b /\ Q (.bl b) H
theorem zjJ {X : Cx} : zah X (.builtin "isinstance") (zjk X.K):=by
 intro pins s σ H xs us Q I r h
 obtain ⟨x,tp,S,T,d,b,rfl,ht,hd,e,q⟩:=h
 obtain ⟨u,w',rfl,rx,rt⟩:=ziW r
 cases (show w' = Value.ref tp from rt)
 obtain ⟨tts,rv,⟨ot,ht1,ht2,n,ht3⟩,_⟩:=I.tuple ht
 obtain ⟨t1,t2,rfl,r1,r2⟩:=ziW rv
 cases (show t1 = Value.type S from r1)
 cases (show t2 = Value.type T from r2)
 obtain ⟨c,dd,da,sl⟩:=ot
 cases ht2
 cases ht3
 have fin : ∀ tk,EP X pins σ Q (.bool b) { s with toks:=tk }:=fun tk=>⟨.bl b,H,I.tok _,rfl,q⟩
 cases d with
 | none =>
   cases zdI.mp hd
   cases (show u = Value.none from rx)
   exact PySem.W.kia_tup PySem.W.kitx_none I.kIn True.intro ht1 e (fun z=>nomatch z) fin
 | bool y =>
   cases zdN.mp hd
   cases (show u = Value.bool y from rx)
   exact PySem.W.kia_tup PySem.W.kitx_bool I.kIn True.intro ht1 e (fun z=>nomatch z) fin
 | int i =>
   cases zaK.mp hd
   obtain ⟨t,q⟩:=(show ∃ t,u = Value.int i t from rx)
   cases q
   exact PySem.W.kia_tup PySem.W.kitx_int I.kIn True.intro ht1 e (fun z=>nomatch z) fin
 | str y =>
   cases zbS.mp hd
   obtain ⟨t,q⟩:=(show ∃ t,u = Value.str y t from rx)
   cases q
   exact PySem.W.kia_tup PySem.W.kitx_str I.kIn True.intro ht1 e (fun z=>nomatch z) fin
 | tuple ds =>
   obtain ⟨a,xs,e1,hq,_⟩:=zaC.mp hd
   subst e1
   cases (show u = Value.ref a from rx)
   obtain ⟨its,_,⟨o,h1,h2,_⟩,_⟩:=I.tuple hq
   exact PySem.W.kia_tup PySem.W.kitx_tuple I.kIn ⟨o,h1,h2⟩ ht1 e (fun z=>nomatch z) fin
 | list ds =>
   obtain ⟨a,xs,e1,hq,_⟩:=zav.mp hd
   subst e1
   cases (show u = Value.ref a from rx)
   obtain ⟨its,_,⟨o,n,h1,h2,_⟩,_⟩:=I.list hq
   exact PySem.W.kia_tup PySem.W.kitx_list I.kIn ⟨o,h1,h2⟩ ht1 e (fun z=>nomatch z) fin
 | dict kv =>
   obtain ⟨a,kvs,e1,hq⟩:=zhF.mp hd
   subst e1
   cases (show u = Value.ref a from rx)
   obtain ⟨_,_,vs,_,o,es,ep,h1,h2,_⟩:=(show zbe X.prog X.w H s.heap a (.dK kvs) from I.hok a _ hq)
   exact PySem.W.kia_tup PySem.W.kitx_dict I.kIn ⟨o,h1,h2.1⟩ ht1 e (fun z=>nomatch z) fin
theorem znu {K : PySem.W.Frag} (d : PyData) : PySem.W.kitAny K (.type (kindOf d)) [.type "list",.type "tuple"] = some (zmp d || zmX d):=by cases d <;> rfl
theorem zkz {K : PySem.W.Frag} {H : Hp} {Q : VK} {v : V} {tp : Addr} {d : PyData} (h : Is K H v d) (t : H tp = some (.tup [.ty "list",.ty "tuple"])) (q : Q (.bl (zmp d || zmX d)) H) : zjk K [v,.ref tp] H Q :=
 ⟨v,tp,"list","tuple",d,_,rfl,.of t,h,znu d,q⟩
section
variable {X : Cx} {tg : Expr}
def zqF (K : PySem.W.Frag) (tl : TE) : TI:=fun σ H R=>tl σ H fun x H1=>(∃ a,x = .ref a /\ (∃ xs,SqL K H1 a xs) /\ R (Itl K a) H1) \/ (∃ a,x = .ref a /\ (∃ xs,SqT K H1 a xs) /\ R (Itt K a) H1)
theorem zfG {l : Expr} {tl : TE} (hl : PE X l tl) : PI X tg l (zqF X.K tl):=by
 intro pins s σ H R I h
 refine thn (hl pins s σ H _ I h) fun v s1 ⟨x,H1,I1,r1,q1⟩=>?_
 rcases q1 with ⟨a,e,⟨xs,hq⟩,q⟩ | ⟨a,e,⟨xs,hq⟩,q⟩
 . subst e
   cases r1
   obtain ⟨its,rv,p,hz⟩:=I1.list hq
   refine wpAny_pyIter_list p.isList ?_
   refine ⟨s1.heap.objs.size,[s1.heap.objs.size],_,_,H1,rfl,I1.kept (t':=s1.toks) fun b o e=>Heap.get?_push_of_some _ e,zgM a _,⟨_,Heap.get?_push_size _ rfl,rfl,rfl⟩,fun b hb=>?_,q⟩
   have e : b = s1.heap.objs.size:=by simpa using hb
   subst e
   exact I1.fpOk (Nat.le_refl _) (I1.hok.fresh (Nat.le_refl _))
 . subst e
   cases r1
   obtain ⟨its,rv,p,hz⟩:=I1.tuple hq
   refine wpAny_pyIter_tuple (show s1.heap.IsTuple a its.toArray from p) ?_
   refine ⟨s1.heap.objs.size,[s1.heap.objs.size],_,_,H1,rfl,I1.kept (t':=s1.toks) fun b o e=>Heap.get?_push_of_some _ e,zfL a _,⟨_,Heap.get?_push_size _ rfl,rfl,rfl⟩,fun b hb=>?_,q⟩
   have e : b = s1.heap.objs.size:=by simpa using hb
   subst e
   exact I1.fpOk (Nat.le_refl _) (I1.hok.fresh (Nat.le_refl _))
end
section
variable {K : PySem.W.Frag} {g : TG} {tt : TT} {te ta tb' tc : TE} {tb : TS} {D : zb3} {src : List (Option Nat)} {σ : St} {H : Hp} {Q : VK} {r r' : R2}
theorem zlX (h : ta σ H fun x H1=>zgf K g tt te src σ x H1 Q \/ zgh K g tt te src σ x H1 Q) : zfh src (zqF K ta) g tt te σ H Q:=h
theorem zlL (h : ta σ H fun x H1=>tb' σ H1 fun y H2=>r x y H2 fun z H3=>∃ k,z = .bl k /\ (if k = true then tc σ H3 fun w' H4=>r' y w' H4 Q else Q (.bl false) H3)) : zjx r r' ta tb' tc σ H Q:=h
theorem zpw {b : Bool} {P : Bool -> Prop} (h : P b) : ∃ k,V.bl b = .bl k /\ P k:=⟨b,rfl,h⟩
end
theorem zbt {K : PySem.W.Frag} {H : Hp} {us : List V} {ds : List PyData} {i : Nat} {x : V} (t : IsAll K H us ds) (h : us[i]? = some x) : i < ds.length /\ Is K H x (ds.getD i .none):=by
 have hl:=t.length
 have hi : i < ds.length:=by
   rcases Nat.lt_or_ge i ds.length with z | z
   . exact z
   . rw [List.getElem?_eq_none (by lia)] at h; cases h
 obtain ⟨y,e,k⟩:=t.get (i:=i) (d:=ds.getD i .none) (by rw [List.getD_eq_getElem?_getD,List.getElem?_eq_getElem hi]; rfl)
 rw [e] at h
 cases h
 exact ⟨hi,k⟩
def zkq : List V -> Hp -> VK -> Prop:=fun xs H Q=>∃ i j,xs = [.int i,.int j] /\ Q (.int (if j < i then j else i)) H
theorem zg5 {X : Cx} (hc : X.calm = true) : zah X (.builtin "min") zkq:=zkL hc
theorem zll : bootBuiltins "min" = some (.builtin "min"):=by decide +kernel
theorem znf {i j : Int} {H : Hp} {Q : VK} (q : ∀ m : Int,m <= i -> m <= j -> (m = i \/ m = j) -> Q (.int m) H) : zkq [.int i,.int j] H Q:=⟨i,j,rfl,by
 split
 . exact q j (by lia) (by lia) (.inr rfl)
 . exact q i (by lia) (by lia) (.inl rfl)⟩
end L2
set_option Elab.async false
set_option linter.all false
set_option maxRecDepth 100000
namespace L2
open PySem PySem.Spec PyProof.Rows GM
section
variable {K : PySem.W.Frag} {ta : TA} {g : TG} {tb : TS} {tt c : TT} {te : TE} {D : zb3} {σ : St} {H : Hp} {Q : VK} {a : Addr} {xs : List V} {src : List (Option Nat)} {o0 o0' : Option V} {tl : St}
def zpY (K : PySem.W.Frag) (x : V) (H : Hp) (Q : Bool -> Hp -> Prop) : Prop:=∃ k,zpS K x H k /\ Q k H
def zp6 (K : PySem.W.Frag) (te : TE) : TT:=fun σ H Q=>te σ H fun x H'=>zpY K x H' Q
theorem zo8 {X : Cx} {e : Expr} {t : TE} (h : PE X e t) (he : ∀ whole,isTrue e X.env whole = (do let v <- whole; standAt e.pos; holding [v] (truthy v)):=by intro _; rfl) : PT X e (zp6 X.K t):=zmT h he
theorem zpT {QB : Bool -> Hp -> Prop} (h : te σ H fun x H'=>zpY K x H' QB) : zp6 K te σ H QB:=h
theorem znH {QB : Bool -> Hp -> Prop} {v : V} {ds : List PyData} (h : Is K H v (.list ds)) (q : QB (!ds.isEmpty) H) : zpY K v H QB:=by
 obtain ⟨p,us,rfl,hs,t⟩:=zav.mp h
 have hl:=t.length
 refine ⟨_,.inl ⟨us,hs,rfl⟩,?_⟩
 have e : us.isEmpty = ds.isEmpty:=by
   cases us <;> cases ds <;> simp_all
 rw [e]; exact q
end
section
variable {K : PySem.W.Frag} {H H' : Hp} {Q : VK} {v : V} {p : Addr} {l : List Nat} {w : Nat}
theorem IsAll.snoc {vs : List V} {ds : List PyData} {d : PyData} (h : IsAll K H vs ds) (k : Is K H v d) : IsAll K H (vs ++ [v]) (ds ++ [d]):=h.append (.cons k .nil)
end
theorem ze4 : ∀ ds : List PyData,(∀ d ∈ ds,PyData.eqv d d = true) -> PyData.eqvAll ds ds = true
 | [],_=>by simp [PyData.eqvAll]
 | d :: ds,h=>by rw [PyData.eqvAll,h d (List.mem_cons_self ..),ze4 ds fun e he=>h e (List.mem_cons_of_mem _ he)]; rfl
theorem zpy {ds : List PyData} (h : ∀ d ∈ ds,PyData.eqv d d = true) : PyData.eqv (.list ds) (.list ds) = true:=by rw [PyData.eqv]; exact ze4 ds h
theorem zqB {P : PyData -> Prop} {a b : PyData} (ha : P a) (hb : P b) : ∀ d ∈ [a,b],P d:=fun d hd=>by
 simp only [List.mem_cons,List.not_mem_nil,or_false] at hd
 rcases hd with rfl | rfl
 . exact ha
 . exact hb
def Sh (n : Nat) (d : PyData) : Prop:=d.canLay0 = true /\ d.depth <= n
theorem zjy {n : Nat} : ∀ ds : List PyData,(∀ d ∈ ds,Sh n d) -> PyData.canLayAll0 ds = true /\ PyData.depthAll ds <= n
 | [],_=>by simp [PyData.canLayAll0,PyData.depthAll]
 | d :: ds,h=>by
   have h1:=h d (List.mem_cons_self ..)
   have h2:=zjy ds fun e he=>h e (List.mem_cons_of_mem _ he)
   rw [PyData.canLayAll0,PyData.depthAll,h1.1,h2.1]
   exact ⟨rfl,by have:=h1.2; have:=h2.2; lia⟩
theorem zo3 {n : Nat} {ds : List PyData} (h : ∀ d ∈ ds,Sh n d) : Sh (n + 1) (.tuple ds):=by
 have:=zjy ds h
 unfold Sh
 rw [PyData.canLay0,PyData.depth]
 exact ⟨this.1,by have:=this.2; lia⟩
theorem zmn {n : Nat} {ds : List PyData} (h : ∀ d ∈ ds,Sh n d) : Sh (n + 1) (.list ds):=by
 have:=zjy ds h
 unfold Sh
 rw [PyData.canLay0,PyData.depth]
 exact ⟨this.1,by have:=this.2; lia⟩
theorem Sh.mono {m n : Nat} {d : PyData} (h : Sh m d) (e : m <= n) : Sh n d:=⟨h.1,Nat.le_trans h.2 e⟩
theorem Sh.shaped {n : Nat} {d : PyData} (h : Sh n d) (e : n <= 64) : PySem.SeqAt.shaped d = true:=by
 unfold PySem.SeqAt.shaped
 rw [h.1,Bool.true_and]
 exact decide_eq_true (Nat.le_trans h.2 e)
theorem zo0 (i : Int) : Sh 1 (.int i):=⟨by simp [PyData.canLay0],by simp [PyData.depth]⟩
theorem znh {K : PySem.W.Frag} {H : Hp} {Q : VK} {v w : V} {d : PyData} {n : Nat} (h : Is K H v d) (k : Is K H w d) (s : Sh n d) (e : n <= 64) (r : PyData.eqv d d = true) (q : Q (.bl false) H) : zeW K v w H Q:=zmS h k (s.shaped e) (s.shaped e) (by rw [r]; exact q)
theorem zgU {K : PySem.W.Frag} {H : Hp} : ∀ {ds : List PyData} {vs : List V},vs.length = ds.length -> (∀ i x,vs[i]? = some x -> Is K H x (ds.getD i .none)) -> IsAll K H vs ds
 | [],[],_,_=>.nil
 | [],_ :: _,h,_=>by simp at h
 | _ :: _,[],h,_=>by simp at h
 | d :: ds,v :: vs,h,e=>.cons (e 0 v rfl) (zgU (by simpa using h) fun i x hx=>e (i + 1) x hx)
end L2
set_option Elab.async false
set_option linter.all false
set_option maxRecDepth 100000
namespace L2
open PySem PySem.Spec PyProof.Rows GM
section
variable {K : PySem.W.Frag} {H H' : Hp} {Q : VK} {D : zb3} {σ : St} {td ty tv : TE} {a : Addr} {kvs : List (Key × V)} {k : Int} {v : V}
end
theorem zoM {α : Type} {ys : List α} {j : Nat} {y : α} (h : ys[j]? = some y) : j < ys.length:=by
 rcases Nat.lt_or_ge j ys.length with z | z
 . exact z
 . rw [List.getElem?_eq_none z] at h; cases h
theorem int_at {ts : List Int} {i : Nat} {x : V} (h : (ts.map V.int)[i]? = some x) : i < ts.length /\ x = .int (ts.getD i 0):=by
 have hi:=zoM h
 rw [List.length_map] at hi
 rw [List.getElem?_map,List.getElem?_eq_getElem hi] at h
 refine ⟨hi,?_⟩
 rw [List.getD_eq_getElem?_getD,List.getElem?_eq_getElem hi]
 exact (Option.some.inj h).symm
theorem zdJ {ts : List Int} {i : Nat} (h : i < ts.length) : ts.getD i 0 ∈ ts:=GM.getD_mem h
theorem zn4 {X : Cx} {K : PySem.W.Frag} {es : List Expr} {t : TA} {pos : Pos} (hK : X.K = K) (h : PA X es t) : PE X (.List es pos) (zlv K t):=by
 subst hK
 exact zbb h
end L2
set_option Elab.async false
set_option linter.all false
set_option maxRecDepth 100000
namespace L2
open PySem PySem.Spec PyProof.Rows GM
section
variable {K : PySem.W.Frag} {ta : TA} {g : TG} {tt : TT} {te : TE} {σ : St} {H : Hp} {Q : VK} {a : Addr} {xs : List V} {src : List (Option Nat)}
end
end L2
set_option Elab.async false
set_option linter.all false
set_option maxRecDepth 100000
namespace L2
open PySem PySem.Spec PyProof.Rows GM
section
variable {K : PySem.W.Frag} {H : Hp} {Q : VK} {v w : V} {ds : List PyData} {n : Nat} {l b : Addr} {xs zs : List V}
theorem zmW {i : Int} (h : H l = some (.lst xs)) (h0 : 0 <= i) (h1 : i < xs.length) (hz : xs.length <= 1000) (q : ∀ y H',xs[i.toNat]? = some y -> Exc l H H' -> H' l = some (.lst (xs.eraseIdx i.toNat)) -> Q y H') : zms (.ref l) [.int i] H Q:=by
 have hi : i.toNat < xs.length:=by lia
 exact ⟨l,xs,i,i.toNat,xs[i.toNat],rfl,rfl,h,by lia,by lia,PySem.StrLaws.seqIndex_nonneg h0 h1,List.getElem?_eq_getElem hi,q _ _ (List.getElem?_eq_getElem hi) (Exc.upd l H _) zal⟩
theorem zmg {k : Int} (h : H l = some (.lst xs)) (h0 : -1000 <= k) (h1 : k <= 1000) (z : xs.length * k.toNat <= 1000) (q : ∀ p H',H p = none -> zad H H' -> H' p = some (.lst (List.replicate k.toNat xs).flatten) -> Q (.ref p) H') : znR (.ref l) (.int k) H Q :=
 ⟨l,k,xs,rfl,rfl,h,by lia,by lia,by have:=zbC z; lia,fun p hp=>q p _ hp (zad.upd hp) zal⟩
theorem IsAll.erase : ∀ {ds : List PyData} {vs : List V} (k : Nat),IsAll K H vs ds -> IsAll K H (vs.eraseIdx k) (ds.eraseIdx k)
 | [],_,k,h=>by rw [zaW.mp h]; exact .nil
 | d :: ds,_,0,h=>by
   obtain ⟨x,r,rfl,_,t⟩:=zat.mp h
   exact t
 | d :: ds,_,k + 1,h=>by
   obtain ⟨x,r,rfl,q,t⟩:=zat.mp h
   exact .cons q (IsAll.erase k t)
end
theorem zeH {α β : Type} (f : α -> β) : ∀ (l : List α) (k : Nat),(l.map f).eraseIdx k = (l.eraseIdx k).map f
 | [],_=>rfl
 | _ :: _,0=>rfl
 | x :: l,k + 1=>by
   show f x :: (l.map f).eraseIdx k = f x :: (l.eraseIdx k).map f
   rw [zeH f l k]
theorem erase_perm {α : Type} : ∀ (l : List α) (k : Nat) (h : k < l.length),(l[k] :: l.eraseIdx k).Perm l
 | x :: l,0,_=>List.Perm.refl _
 | x :: l,k + 1,h=>(List.Perm.swap _ _ _).trans (List.Perm.cons x (erase_perm l k (by simpa using h)))
end L2
set_option Elab.async false
set_option linter.all false
set_option maxRecDepth 100000
namespace L2
open PySem PySem.Spec PyProof.Rows GM
section
open PyProof.V PySem.Calls PySem.W
variable {prog : Program} {w : World} {A : Around} {E : Value -> Shared -> Prop} {s : Shared}
end
abbrev zM1 (h : Heap) (a : Addr) : Heap:=h.push { cls:=.type "tuple_iterator",data:=.fields #[.ref a,.int 0 0] }
abbrev zM2 (h : Heap) (a b : Addr) : Heap:=(zM1 h a).push { cls:=.type "list_iterator",data:=.fields #[.ref b,.int 0 0] }
abbrev zM3 (h : Heap) (a b : Addr) : Heap:=(zM2 h a b).push { cls:=.type "tuple",data:=.seq #[.ref h.objs.size,.ref (zM1 h a).objs.size] }
abbrev zM4 (h : Heap) (a b : Addr) : Heap:=(zM3 h a b).push { cls:=.type "tuple",data:=.seq #[.none,.none] }
abbrev zM5 (h : Heap) (a b : Addr) : Heap:=(zM4 h a b).push { cls:=.type "zip",data:=.fields #[.none,.bool false,.bool false,.ref (zM2 h a b).objs.size,.ref (zM3 h a b).objs.size] }
theorem zjv (a b : Addr) (xs ys : Array Value) : Meets (Builtin.«zip.__new__» ⟨[.type "zip",.ref a,.ref b],[]⟩) (fun _ R s=>s.heap.IsTuple a xs /\ s.heap.IsList b ys /\ R (.ok (.ret (.ref (zM4 s.heap a b).objs.size))) { s with heap:=zM5 s.heap a b }) :=
 .of_wp fun prog w A R s h=>by
   obtain ⟨hp,g,d,tk,os⟩:=s
   obtain ⟨ha,hb,h⟩:=h
   have hsub:=sub_zip
   have hA : Heap.IsTuple (Shared.heap ⟨hp,g,d,tk,os⟩) a xs:=ha
   have hB : Heap.IsList (Shared.heap ⟨hp.push { cls:=.type "tuple_iterator",data:=.fields #[.ref a,.int 0 0] },g,d,tk,os⟩) b ys:=Heap.IsList.push hb _
   wp_walk using wpAny_pyIter_tuple hA,wpAny_pyIter_list hB
   exact ⟨_,rfl,h⟩
section
variable {prog : Program} {w : World} {A : Around} {E : Value -> Shared -> Prop} {s : Shared}
theorem zk0 {a b : Addr} {xs ys : Array Value} {Q : Value -> Shared -> Prop} (ha : s.heap.IsTuple a xs) (hb : s.heap.IsList b ys)
   (fin : ∀ h',IsZip h' (s.heap.objs.size + 4) (s.heap.objs.size + 2) (s.heap.objs.size + 3) .none -> IsPair h' (s.heap.objs.size + 2) (.ref s.heap.objs.size) (.ref (s.heap.objs.size + 1)) -> IsPair h' (s.heap.objs.size + 3) .none .none ->
     h'.IsTupleIter s.heap.objs.size a 0 -> h'.IsListIter (s.heap.objs.size + 1) b 0 -> (∀ c o,s.heap.get? c = some o -> h'.get? c = some o) -> Q (.ref (s.heap.objs.size + 4)) { s with heap:=h' }) : wpAny (model prog w) A (call (.type "zip") [.ref a,.ref b]) Q E s:=by
 refine callType_new F.called_zip (by decide) (F.typeCall_zip_2 _ _) (F.newCall_zip_2 _ _) (fun obj=>F.args_object_init_3 obj _ _) F.entry_zip_new (zjv a b xs ys) ⟨ha,hb,?_⟩
 have z1 : (zM1 s.heap a).objs.size = s.heap.objs.size + 1:=Heap.size_push ..
 have z2 : (zM2 s.heap a b).objs.size = s.heap.objs.size + 2:=by rw [Heap.size_push,z1]
 have z3 : (zM3 s.heap a b).objs.size = s.heap.objs.size + 3:=by rw [Heap.size_push,z2]
 have z4 : (zM4 s.heap a b).objs.size = s.heap.objs.size + 4:=by rw [Heap.size_push,z3]
 have g5 : (zM5 s.heap a b).get? (zM4 s.heap a b).objs.size = some _:=Heap.get?_push_size _ rfl
 have g4 : (zM5 s.heap a b).get? (zM3 s.heap a b).objs.size = some _:=Heap.get?_push_of_some _ (Heap.get?_push_size _ rfl)
 have g3 : (zM5 s.heap a b).get? (zM2 s.heap a b).objs.size = some _:=Heap.get?_push_of_some _ (Heap.get?_push_of_some _ (Heap.get?_push_size _ rfl))
 have g2 : (zM5 s.heap a b).get? (zM1 s.heap a).objs.size = some _:=Heap.get?_push_of_some _ (Heap.get?_push_of_some _ (Heap.get?_push_of_some _ (Heap.get?_push_size _ rfl)))
 have g1 : (zM5 s.heap a b).get? s.heap.objs.size = some _:=Heap.get?_push_of_some _ (Heap.get?_push_of_some _ (Heap.get?_push_of_some _ (Heap.get?_push_of_some _ (Heap.get?_push_size _ rfl))))
 show _ /\ _
 rw [z2,z3,z4] at g5; rw [z1,z2] at g3; rw [z3] at g4; rw [z1] at g2; rw [z4]
 exact ⟨⟨_,g5,rfl⟩,fin _ g5 g3 g4 ⟨_,g1,rfl,rfl⟩ ⟨_,g2,rfl,rfl⟩ fun c o x=>Heap.get?_push_of_some _ (Heap.get?_push_of_some _ (Heap.get?_push_of_some _ (Heap.get?_push_of_some _ (Heap.get?_push_of_some _ x))))⟩
end
section
variable {X : Cx} {x : Str} {G : Value} {b₀ : Stmt} {body suite : List Stmt} {np hpos pos : Pos} {tb : (St -> XK) -> TS} {th : TS}
end
end L2
set_option Elab.async false
set_option linter.all false
set_option maxRecDepth 100000
namespace L2
open PySem PySem.Spec PyProof.Rows GM
theorem zo1 : bootBuiltins "set" = some (.type "set"):=by decide +kernel
section
variable {K : PySem.W.Frag} {H : Hp} {Q : VK} {p : Addr} {ns : List Int}
end
end L2
namespace L2
open PySem PySem.Spec PyProof.Rows GM
def zl (l : List Nat) : List Int:=l.map fun (w : Nat)=>(w : Int)
end L2
namespace L2
open PySem PySem.Spec PyProof.Rows GM
end L2
set_option Elab.async false
set_option linter.all false
set_option maxRecDepth 100000
namespace L2
open PySem PySem.Spec PyProof.Rows GM
abbrev zN1 (h : Heap) (a : Addr) : Heap:=h.push { cls:=.type "list_iterator",data:=.fields #[.ref a,.int 0 0] }
abbrev zN2 (h : Heap) (a b : Addr) : Heap:=(zN1 h a).push { cls:=.type "tuple_iterator",data:=.fields #[.ref b,.int 0 0] }
abbrev zN3 (h : Heap) (a b : Addr) : Heap:=(zN2 h a b).push { cls:=.type "tuple",data:=.seq #[.ref h.objs.size,.ref (zN1 h a).objs.size] }
abbrev zN4 (h : Heap) (a b : Addr) : Heap:=(zN3 h a b).push { cls:=.type "tuple",data:=.seq #[.none,.none] }
abbrev zN5 (h : Heap) (a b : Addr) : Heap:=(zN4 h a b).push { cls:=.type "zip",data:=.fields #[.none,.bool false,.bool false,.ref (zN2 h a b).objs.size,.ref (zN3 h a b).objs.size] }
theorem zjn (a b : Addr) (xs ys : Array Value) : Meets (Builtin.«zip.__new__» ⟨[.type "zip",.ref a,.ref b],[]⟩) (fun _ R s=>s.heap.IsList a xs /\ s.heap.IsTuple b ys /\ R (.ok (.ret (.ref (zN4 s.heap a b).objs.size))) { s with heap:=zN5 s.heap a b }) :=
 .of_wp fun prog w A R s h=>by
   obtain ⟨hp,g,d,tk,os⟩:=s
   obtain ⟨ha,hb,h⟩:=h
   have hsub:=sub_zip
   have hA : Heap.IsList (Shared.heap ⟨hp,g,d,tk,os⟩) a xs:=ha
   have hB : Heap.IsTuple (Shared.heap ⟨hp.push { cls:=.type "list_iterator",data:=.fields #[.ref a,.int 0 0] },g,d,tk,os⟩) b ys:=Heap.IsTuple.push hb _
   wp_walk using wpAny_pyIter_list hA,wpAny_pyIter_tuple hB
   exact ⟨_,rfl,h⟩
section
variable {prog : Program} {w : World} {A : Around} {E : Value -> Shared -> Prop} {s : Shared}
theorem zlg {a b : Addr} {xs ys : Array Value} {Q : Value -> Shared -> Prop} (ha : s.heap.IsList a xs) (hb : s.heap.IsTuple b ys)
   (fin : ∀ h',IsZip h' (s.heap.objs.size + 4) (s.heap.objs.size + 2) (s.heap.objs.size + 3) .none -> IsPair h' (s.heap.objs.size + 2) (.ref s.heap.objs.size) (.ref (s.heap.objs.size + 1)) -> IsPair h' (s.heap.objs.size + 3) .none .none ->
     h'.IsListIter s.heap.objs.size a 0 -> h'.IsTupleIter (s.heap.objs.size + 1) b 0 -> (∀ c o,s.heap.get? c = some o -> h'.get? c = some o) -> Q (.ref (s.heap.objs.size + 4)) { s with heap:=h' }) : wpAny (model prog w) A (call (.type "zip") [.ref a,.ref b]) Q E s:=by
 refine callType_new F.called_zip (by decide) (F.typeCall_zip_2 _ _) (F.newCall_zip_2 _ _) (fun obj=>F.args_object_init_3 obj _ _) F.entry_zip_new (zjn a b xs ys) ⟨ha,hb,?_⟩
 have z1 : (zN1 s.heap a).objs.size = s.heap.objs.size + 1:=Heap.size_push ..
 have z2 : (zN2 s.heap a b).objs.size = s.heap.objs.size + 2:=by rw [Heap.size_push,z1]
 have z3 : (zN3 s.heap a b).objs.size = s.heap.objs.size + 3:=by rw [Heap.size_push,z2]
 have z4 : (zN4 s.heap a b).objs.size = s.heap.objs.size + 4:=by rw [Heap.size_push,z3]
 have g5 : (zN5 s.heap a b).get? (zN4 s.heap a b).objs.size = some _:=Heap.get?_push_size _ rfl
 have g4 : (zN5 s.heap a b).get? (zN3 s.heap a b).objs.size = some _:=Heap.get?_push_of_some _ (Heap.get?_push_size _ rfl)
 have g3 : (zN5 s.heap a b).get? (zN2 s.heap a b).objs.size = some _:=Heap.get?_push_of_some _ (Heap.get?_push_of_some _ (Heap.get?_push_size _ rfl))
 have g2 : (zN5 s.heap a b).get? (zN1 s.heap a).objs.size = some _:=Heap.get?_push_of_some _ (Heap.get?_push_of_some _ (Heap.get?_push_of_some _ (Heap.get?_push_size _ rfl)))
 have g1 : (zN5 s.heap a b).get? s.heap.objs.size = some _:=Heap.get?_push_of_some _ (Heap.get?_push_of_some _ (Heap.get?_push_of_some _ (Heap.get?_push_of_some _ (Heap.get?_push_size _ rfl))))
 show _ /\ _
 rw [z2,z3,z4] at g5; rw [z1,z2] at g3; rw [z3] at g4; rw [z1] at g2; rw [z4]
 exact ⟨⟨_,g5,rfl⟩,fin _ g5 g3 g4 ⟨_,g1,rfl,rfl⟩ ⟨_,g2,rfl,rfl⟩ fun c o x=>Heap.get?_push_of_some _ (Heap.get?_push_of_some _ (Heap.get?_push_of_some _ (Heap.get?_push_of_some _ (Heap.get?_push_of_some _ x))))⟩
end
end L2
set_option linter.all false
namespace TB
open PySem
def Ris (xs : Array Nat) : Prop:=∀ i j,i < j -> j < xs.size -> xs.getD i 0 < xs.getD j 0
theorem zl0 {xs : Array Nat} {i : Nat} (h : i < xs.size) (d e : Nat) : xs.getD i d = xs.getD i e:=by
 simp [Array.getD,h]
theorem zhT (xs : Array Nat) (j : Nat) (R : Ris xs) : ∀ (fuel lo hi : Nat),hi <= xs.size -> lo <= hi -> hi - lo <= fuel -> (∀ k,k < lo -> xs.getD k 0 < j) -> (∀ k,hi <= k -> k < xs.size -> j <= xs.getD k 0) ->
   (SetTable.below.go xs j fuel lo hi <= xs.size /\ (∀ k,k < SetTable.below.go xs j fuel lo hi -> xs.getD k 0 < j) /\ (∀ k,SetTable.below.go xs j fuel lo hi <= k -> k < xs.size -> j <= xs.getD k 0))
 | 0,lo,hi,h1,h2,h3,a,b=>by
   have : lo = hi:=by lia
   subst this
   exact ⟨h1,a,b⟩
 | fuel + 1,lo,hi,h1,h2,h3,a,b=>by
   unfold SetTable.below.go
   by_cases c : lo < hi
   . rw [if_pos c]
     have m1 : (lo + hi) / 2 < hi:=by lia
     have m2 : lo <= (lo + hi) / 2:=by lia
     dsimp only
     rw [zl0 (Nat.lt_of_lt_of_le m1 h1) j 0]
     by_cases d : xs.getD ((lo + hi) / 2) 0 < j
     . rw [if_pos d]
       refine zhT xs j R fuel _ hi h1 m1 (by lia) (fun k hk=>?_) b
       rcases Nat.lt_or_ge k ((lo + hi) / 2) with q | q
       . exact Nat.lt_trans (R k _ q (by lia)) d
       . have : k = (lo + hi) / 2:=by lia
         rw [this]; exact d
     . rw [if_neg d]
       refine zhT xs j R fuel lo _ (by lia) m2 (by lia) a (fun k hk hk'=>?_)
       rcases Nat.eq_or_lt_of_le hk with q | q
       . rw [<- q]; lia
       . have:=R _ k q hk'; lia
   . rw [if_neg c]
     have : lo = hi:=by lia
     subst this
     exact ⟨h1,a,b⟩
theorem zfP {xs : Array Nat} (R : Ris xs) (j : Nat) : SetTable.below xs j <= xs.size /\ (∀ k,k < SetTable.below xs j -> xs.getD k 0 < j) /\ (∀ k,SetTable.below xs j <= k -> k < xs.size -> j <= xs.getD k 0) :=
 zhT xs j R xs.size 0 xs.size (Nat.le_refl _) (Nat.zero_le _) (by lia) (fun k h=>absurd h (Nat.not_lt_zero k)) (fun k h h'=>absurd h' (by lia))
theorem zrf {xs : Array Nat} {i : Nat} (h : i < xs.size) : xs[i]? = some (xs.getD i 0):=by simp [Array.getD,h]
theorem zf9 {t : SetTable} (R : Ris t.place) (D : t.dummies = #[]) (j : Nat) :
   (∃ i,i < t.place.size /\ t.place.getD i 0 = j /\ t.slot j = .live i) \/ ((∀ i,i < t.place.size -> t.place.getD i 0 ≠ j) /\ t.slot j = .empty):=by
 obtain ⟨h1,h2,h3⟩:=zfP R j
 unfold SetTable.slot
 dsimp only
 have hd : SetTable.has t.dummies j = false:=by rw [D]; rfl
 rw [hd]
 rcases Nat.lt_or_ge (SetTable.below t.place j) t.place.size with q | q
 . rw [zrf q]
   by_cases e : t.place.getD (SetTable.below t.place j) 0 = j
   . exact .inl ⟨_,q,e,by simp [e]⟩
   . refine .inr ⟨fun i hi he=>?_,by generalize t.place.getD (SetTable.below t.place j) 0 = z at e; simp [e]⟩
     rcases Nat.lt_or_ge i (SetTable.below t.place j) with a | a
     . have:=h2 i a; lia
     . rcases Nat.eq_or_lt_of_le a with b | b
       . rw [<- b] at he; exact e he
       . have:=R _ i b hi
         have:=h3 _ (Nat.le_refl _) q
         lia
 . have : t.place[SetTable.below t.place j]? = none:=Array.getElem?_eq_none q
   rw [this]
   refine .inr ⟨fun i hi he=>?_,by simp⟩
   have:=h2 i (by lia); lia
def g (x : Nat) : Nat:=x * 5 + 1
def it (n x : Nat) : Nat:=match n with | 0=>x | n + 1=>g (it n x)
def s : Nat -> Nat | 0=>0 | n + 1=>5 * s n + 1
theorem zoN (n : Nat) : 5 ^ n = 4 * s n + 1:=by
 induction n with
 | zero=>rfl
 | succ n ih=>rw [Nat.pow_succ,ih]; show _ = 4 * (5 * s n + 1) + 1; lia
theorem zqa (n x : Nat) : it n x = 5 ^ n * x + s n:=by
 induction n with
 | zero=>show x = 5 ^ 0 * x + 0; simp
 | succ n ih =>
   show g (it n x) = 5 ^ (n + 1) * x + (5 * s n + 1)
   rw [ih,Nat.pow_succ]; unfold g
   rw [Nat.mul_assoc,Nat.mul_left_comm (5 ^ n) 5 x]; lia
theorem zoP (m n x : Nat) : it (m + n) x = it m (it n x):=by
 induction m with
 | zero=>rw [Nat.zero_add]; rfl
 | succ m ih=>rw [Nat.succ_add]; show g (it (m + n) x) = g (it m (it n x)); rw [ih]
theorem zqx (m n : Nat) : s (m + n) = 5 ^ m * s n + s m:=by
 induction m with
 | zero=>simp [s]
 | succ m ih =>
   rw [Nat.succ_add]
   show 5 * s (m + n) + 1 = 5 ^ (m + 1) * s n + (5 * s m + 1)
   rw [ih,Nat.pow_succ,Nat.mul_assoc,Nat.mul_left_comm (5 ^ m) 5]; lia
theorem zqq (k : Nat) : ∃ o,s (2 ^ k) = 2 ^ k * (2 * o + 1):=by
 induction k with
 | zero=>exact ⟨0,rfl⟩
 | succ k ih =>
   obtain ⟨o,ho⟩:=ih
   have e : s (2 ^ (k + 1)) = 2 ^ (k + 1) * ((2 * o + 1) * (2 * s (2 ^ k) + 1)):=by
     have : 2 ^ (k + 1) = 2 ^ k + 2 ^ k:=by rw [Nat.pow_succ]; lia
     rw [this,zqx,zoN]
     generalize hs : s (2 ^ k) = S at *
     have h2 : (2 ^ k + 2 ^ k) * ((2 * o + 1) * (2 * S + 1)) = 2 * (2 ^ k * (2 * o + 1)) * (2 * S + 1):=by
       rw [<- Nat.two_mul,<- Nat.mul_assoc,Nat.mul_assoc 2]
     rw [h2,<- ho]
     generalize S * S = z at *
     have : (4 * S + 1) * S = 4 * (S * S) + S:=by rw [Nat.add_mul,Nat.mul_assoc,Nat.one_mul]
     rw [this]
     have : 2 * S * (2 * S + 1) = 4 * (S * S) + 2 * S:=by
       rw [Nat.mul_add,Nat.mul_one,Nat.mul_mul_mul_comm]
     rw [this]; lia
   refine ⟨o * (2 * s (2 ^ k) + 1) + s (2 ^ k),?_⟩
   rw [e]
   congr 1
   rw [Nat.add_mul,Nat.one_mul,Nat.mul_assoc]
   lia
theorem zqR (M c a : Nat) : (4 * (M * c) + 1) * a + M * c = a + M * (c * (4 * a + 1)):=by
 rw [Nat.add_mul,Nat.one_mul,Nat.mul_add c,Nat.mul_one,Nat.mul_add M]
 have : 4 * (M * c) * a = M * (c * (4 * a)):=by rw [Nat.mul_comm 4,Nat.mul_assoc,Nat.mul_assoc]
 lia
theorem zqE (k : Nat) : ∀ x y : Nat,∃ n,n < 2 ^ k /\ it n x % 2 ^ k = y % 2 ^ k:=by
 induction k with
 | zero=>intro x y; exact ⟨0,by decide,by simp [Nat.mod_one]⟩
 | succ k ih =>
   intro x y
   obtain ⟨n,hn,e⟩:=ih x y
   have hp : 0 < 2 ^ k:=Nat.pow_pos (by decide)
   have h2 : 2 ^ (k + 1) = 2 ^ k * 2:=Nat.pow_succ ..
   obtain ⟨o,ho⟩:=zqq k
   generalize hM : 2 ^ k = M at *
   rw [h2]
   by_cases c : it n x / M % 2 = y / M % 2
   . refine ⟨n,by lia,?_⟩
     rw [Nat.mod_mul,Nat.mod_mul,e,c]
   . refine ⟨M + n,by lia,?_⟩
     rw [zoP,zqa,zoN,ho]
     generalize it n x = a at *
     rw [zqR,Nat.mod_mul,Nat.mod_mul,Nat.add_mul_mod_self_left,e,Nat.add_mul_div_left _ _ hp]
     have : (2 * o + 1) * (4 * a + 1) % 2 = 1:=by
       rw [Nat.mul_mod]
       have h1 : (2 * o + 1) % 2 = 1:=by lia
       have h2 : (4 * a + 1) % 2 = 1:=by lia
       rw [h1,h2]
     congr 2
     lia
open SetTable (Probe leap runEnd bits turns)
def adv (mask : Nat) (p : Probe) : Probe :=
 if p.more > 0 then { p with j:=p.j + 1,more:=p.more - 1 } else
 { p with j:=(leap mask p.i p.perturb).1,more:=runEnd mask (leap mask p.i p.perturb).1 - (leap mask p.i p.perturb).1,i:=(leap mask p.i p.perturb).1,perturb:=(leap mask p.i p.perturb).2 }
def way (mask : Nat) (p : Probe) : Nat -> Probe | 0=>p | n + 1=>adv mask (way mask p n)
def zc4 (mask i b : Nat) : Probe:={ j:=i,more:=runEnd mask i - i,i:=i,perturb:=b,dummy:=none }
def start (mask : Nat) (h : Int) : Probe:=zc4 mask (bits h % (mask + 1)) (bits h)
def lp (mask i b : Nat) : Nat -> Nat × Nat | 0=>(i,b) | n + 1=>leap mask (lp mask i b n).1 (lp mask i b n).2
theorem zft (mask : Nat) (p : Probe) (m : Nat) : ∀ n,way mask p (m + n) = way mask (way mask p m) n
 | 0=>rfl
 | n + 1=>by show adv mask (way mask p (m + n)) = adv mask (way mask (way mask p m) n); rw [zft mask p m n]
theorem zg2 (mask : Nat) (p : Probe) : ∀ n,(way mask p n).dummy = p.dummy
 | 0=>rfl
 | n + 1=>by
   show (adv mask (way mask p n)).dummy = p.dummy
   rw [<- zg2 mask p n]; unfold adv; split <;> rfl
theorem zer (mask i b : Nat) : ∀ n,n <= runEnd mask i - i -> way mask (zc4 mask i b) n = { j:=i + n,more:=runEnd mask i - i - n,i:=i,perturb:=b,dummy:=none }
 | 0,_=>rfl
 | n + 1,h=>by
   show adv mask (way mask (zc4 mask i b) n) = _
   rw [zer mask i b n (by lia)]
   unfold adv
   dsimp only
   rw [if_pos (by lia)]
   congr 1
theorem zgi (mask i b : Nat) : way mask (zc4 mask i b) (runEnd mask i - i + 1) = zc4 mask (leap mask i b).1 (leap mask i b).2:=by
 show adv mask (way mask (zc4 mask i b) (runEnd mask i - i)) = _
 rw [zer mask i b _ (Nat.le_refl _)]
 unfold adv
 dsimp only
 rw [if_neg (by lia)]
 rfl
theorem zpz (mask i : Nat) : runEnd mask i - i <= 9:=by unfold runEnd; split <;> lia
theorem zmE (mask i b : Nat) : ∀ m,∃ n,n <= 10 * m /\ way mask (zc4 mask i b) n = zc4 mask (lp mask i b m).1 (lp mask i b m).2
 | 0=>⟨0,Nat.le_refl _,rfl⟩
 | m + 1=>by
   obtain ⟨n,hn,e⟩:=zmE mask i b m
   have:=zpz mask (lp mask i b m).1
   refine ⟨n + (runEnd mask (lp mask i b m).1 - (lp mask i b m).1 + 1),by lia,?_⟩
   rw [zft,e,zgi]; rfl
theorem zmK (mask i b : Nat) : ∀ n,(lp mask i b n).2 = b / 32 ^ n
 | 0=>by simp [lp]
 | n + 1=>by
   show (lp mask i b n).2 / 32 = _
   rw [zmK mask i b n,Nat.pow_succ,Nat.div_div_eq_div_mul]
theorem zoA (mask i b c : Nat) (h : b / 32 ^ c = 0) : ∀ n,(lp mask i b (c + 1 + n)).1 = it n (lp mask i b (c + 1)).1 % (mask + 1)
 | 0=>by
   show (lp mask i b (c + 1)).1 = (lp mask i b (c + 1)).1 % (mask + 1)
   show _ % _ = _ % _ % _
   rw [Nat.mod_mod]
 | n + 1=>by
   show ((lp mask i b (c + 1 + n)).1 * 5 + 1 + (lp mask i b (c + 1 + n)).2 / 32) % (mask + 1) = g (it n _) % _
   have : (lp mask i b (c + 1 + n)).2 / 32 = 0:=by
     rw [zmK]
     have : b / 32 ^ (c + 1 + n) = 0:=by
       rw [Nat.add_assoc,Nat.pow_add,<- Nat.div_div_eq_div_mul,h,Nat.zero_div]
     rw [this]
   rw [this,zoA mask i b c h n]
   unfold g
   rw [Nat.add_zero,Nat.add_mod,Nat.mul_mod,Nat.mod_mod,<- Nat.mul_mod,<- Nat.add_mod]
theorem zjM (h : Int) : bits h < 2 ^ 64:=by unfold bits; lia
theorem zom {mask k : Nat} (hm : mask + 1 = 2 ^ k) {i b : Nat} (hb : b < 2 ^ 64) {j : Nat} (hj : j <= mask) : ∃ m,m <= mask + 14 /\ (lp mask i b m).1 = j:=by
 have h0 : b / 32 ^ 13 = 0:=Nat.div_eq_of_lt (Nat.lt_of_lt_of_le hb (by decide))
 obtain ⟨n,hn,e⟩:=zqE k (lp mask i b 14).1 j
 refine ⟨13 + 1 + n,by lia,?_⟩
 rw [zoA mask i b 13 h0,hm,e,Nat.mod_eq_of_lt (by lia)]
theorem zlf {mask k : Nat} (hm : mask + 1 = 2 ^ k) {i b : Nat} (hb : b < 2 ^ 64) {j : Nat} (hj : j <= mask) : ∃ n,n < 10 * turns mask /\ (way mask (zc4 mask i b) n).j = j:=by
 obtain ⟨m,hm',e⟩:=zom hm (i:=i) hb hj
 obtain ⟨n,hn,e'⟩:=zmE mask i b m
 refine ⟨n,by unfold turns; lia,?_⟩
 rw [e']; exact e
theorem zeO {mask i : Nat} (h : i <= mask) : i <= runEnd mask i /\ runEnd mask i <= mask:=by unfold runEnd; split <;> lia
theorem zlx {mask : Nat} {p : Probe} (h : p.j + p.more <= mask) : ∀ n,(way mask p n).j + (way mask p n).more <= mask
 | 0=>h
 | n + 1=>by
   have ih:=zlx h n
   show (adv mask (way mask p n)).j + (adv mask (way mask p n)).more <= mask
   unfold adv
   split
   . dsimp only; lia
   . dsimp only
     have : (leap mask (way mask p n).i (way mask p n).perturb).1 <= mask:=by
       unfold leap; dsimp only; exact Nat.le_of_lt_succ (Nat.mod_lt _ (Nat.succ_pos _))
     have:=zeO this
     lia
theorem zmH (mask : Nat) (h : Int) (n : Nat) : (way mask (start mask h) n).j <= mask:=by
 have h1 : bits h % (mask + 1) <= mask:=Nat.le_of_lt_succ (Nat.mod_lt _ (Nat.succ_pos _))
 have h2:=zeO h1
 have:=zlx (mask:=mask) (p:=start mask h) (by unfold start zc4; dsimp only; lia) n
 lia
def In (t : SetTable) (j : Nat) : Prop:=∃ i,i < t.place.size /\ t.place.getD i 0 = j
structure Tb (t : SetTable) (hs : List Int) : Prop where
 ris : Ris t.place
 size : t.place.size = hs.length
 dum : t.dummies = #[]
 two : ∃ k,3 <= k /\ t.mask + 1 = 2 ^ k
 le : ∀ i,i < t.place.size -> t.place.getD i 0 <= t.mask
 room : t.place.size <= t.mask
 path : ∀ i,i < t.place.size -> ∃ n,(way t.mask (start t.mask (hs.getD i 0)) n).j = t.place.getD i 0 /\ ∀ m,m < n -> In t (way t.mask (start t.mask (hs.getD i 0)) m).j
theorem zqj {P : Nat -> Prop} {n : Nat} (h : P n) : ∃ m,m <= n /\ P m /\ ∀ k,k < m -> ¬ P k:=by
 induction n using Nat.strongRecOn with
 | _ n ih =>
   by_cases c : ∃ k,k < n /\ P k
   . obtain ⟨k,hk,hp⟩:=c
     obtain ⟨m,h1,h2,h3⟩:=ih k hk hp
     exact ⟨m,by lia,h2,h3⟩
   . exact ⟨n,Nat.le_refl _,h,fun k hk hp=>c ⟨k,hk,hp⟩⟩
theorem zht {xs : Array Nat} (R : Ris xs) {i j : Nat} (hi : i < xs.size) (hj : j < xs.size) (e : xs.getD i 0 = xs.getD j 0) : i = j:=by
 rcases Nat.lt_trichotomy i j with q | q | q
 . have:=R i j q hj; lia
 . exact q
 . have:=R j i q hi; lia
theorem zmt {t : SetTable} (R : Ris t.place) : ∀ j,(∀ j',j' <= j -> In t j') -> ∃ i,i < t.place.size /\ t.place.getD i 0 = j /\ j <= i
 | 0,h=>by obtain ⟨i,hi,e⟩:=h 0 (Nat.le_refl _); exact ⟨i,hi,e,Nat.zero_le _⟩
 | j + 1,h=>by
   obtain ⟨i,hi,e,hle⟩:=zmt R j fun j' hj'=>h j' (by lia)
   obtain ⟨i',hi',e'⟩:=h (j + 1) (Nat.le_refl _)
   refine ⟨i',hi',e',?_⟩
   rcases Nat.lt_trichotomy i i' with q | q | q
   . lia
   . subst q; lia
   . have:=R i' i q hi; lia
theorem Tb.gap {t : SetTable} {hs : List Int} (b : Tb t hs) : ∃ j,j <= t.mask /\ ¬ In t j:=by
 refine Classical.byContradiction fun c=>?_
 obtain ⟨i,hi,e,hle⟩:=zmt b.ris t.place.size fun j' hj'=>Classical.byContradiction fun d=>c ⟨j',Nat.le_trans hj' b.room,d⟩
 lia
theorem Tb.free {t : SetTable} {hs : List Int} (b : Tb t hs) (h : Int) : ∃ n,n < 10 * turns t.mask /\ ¬ In t (way t.mask (start t.mask h) n).j /\ ∀ m,m < n -> In t (way t.mask (start t.mask h) m).j:=by
 obtain ⟨j,hj,hn⟩:=b.gap
 obtain ⟨k,_,hk⟩:=b.two
 obtain ⟨n,hn',e⟩:=zlf hk (i:=bits h % (t.mask + 1)) (zjM h) hj
 obtain ⟨m,h1,h2,h3⟩:=zqj (P:=fun n=>¬ In t (way t.mask (start t.mask h) n).j) (n:=n) (by show ¬ In t _; unfold start; rw [e]; exact hn)
 exact ⟨m,by lia,h2,fun k hk=>Classical.byContradiction (h3 k hk)⟩
theorem ziz {t : SetTable} (R : Ris t.place) (D : t.dummies = #[]) (hashAt : Nat -> Int) (h : Int) {p : Probe} (dm : p.dummy = none) {n0 : Nat} (hE : ¬ In t (way t.mask p n0).j) (hF : ∀ m,m < n0 -> In t (way t.mask p m).j) :
   ∀ fuel n,n <= n0 -> n0 - n < fuel ->
     (∃ m i,n <= m /\ m < n0 /\ i < t.place.size /\ t.place.getD i 0 = (way t.mask p m).j /\ hashAt i = h /\ (∀ k,n <= k -> k < m -> ∀ i',i' < t.place.size -> t.place.getD i' 0 = (way t.mask p k).j -> hashAt i' ≠ h) /\
       SetTable.probe.go t hashAt h fuel (way t.mask p n) = some (.candidate (way t.mask p m).j i (way t.mask p (m + 1)))) \/
     ((∀ k,n <= k -> k < n0 -> ∀ i',i' < t.place.size -> t.place.getD i' 0 = (way t.mask p k).j -> hashAt i' ≠ h) /\
       SetTable.probe.go t hashAt h fuel (way t.mask p n) = some (.empty (way t.mask p n0).j none))
 | 0,n,_,hf=>absurd hf (Nat.not_lt_zero _)
 | fuel + 1,n,hn,hf=>by
   unfold SetTable.probe.go
   rcases zf9 R D (way t.mask p n).j with ⟨i,hi,e,es⟩ | ⟨no,es⟩
   . rw [es]
     dsimp only
     have hlt : n < n0:=by
       rcases Nat.lt_or_ge n n0 with q | q
       . exact q
       . have : n = n0:=by lia
         subst this
         exact absurd ⟨i,hi,e⟩ hE
     by_cases c : hashAt i = h
     . rw [if_pos (by simpa using c)]
       exact .inl ⟨n,i,Nat.le_refl _,hlt,hi,e,c,fun k h1 h2=>absurd h1 (by lia),rfl⟩
     . rw [if_neg (by simpa using c)]
       have here : ∀ i',i' < t.place.size -> t.place.getD i' 0 = (way t.mask p n).j -> hashAt i' ≠ h:=fun i' hi' e'=>by
         rw [zht R hi' hi (e'.trans e.symm)]; exact c
       rcases ziz R D hashAt h dm hE hF fuel (n + 1) hlt (by lia) with ⟨m,i2,a1,a2,a3,a4,a5,a6,a7⟩ | ⟨a1,a2⟩
       . refine .inl ⟨m,i2,by lia,a2,a3,a4,a5,fun k h1 h2 i' hi' e'=>?_,a7⟩
         rcases Nat.eq_or_lt_of_le h1 with q | q
         . subst q; exact here i' hi' e'
         . exact a6 k q h2 i' hi' e'
       . refine .inr ⟨fun k h1 h2 i' hi' e'=>?_,a2⟩
         rcases Nat.eq_or_lt_of_le h1 with q | q
         . subst q; exact here i' hi' e'
         . exact a1 k q h2 i' hi' e'
   . rw [es]
     dsimp only
     have : n = n0:=by
       rcases Nat.lt_or_ge n n0 with q | q
       . obtain ⟨i,hi,e⟩:=hF n q
         exact absurd e (no i hi)
       . lia
     subst this
     refine .inr ⟨fun k h1 h2=>absurd h1 (by lia),?_⟩
     rw [zg2,dm]
def zcC {α : Type} (l : List α) (p : Nat) (x : α) : List α:=l.take p ++ x :: l.drop p
theorem zex {α : Type} {l : List α} {p : Nat} (x : α) (hp : p <= l.length) (i : Nat) : (zcC l p x)[i]? = if i < p then l[i]? else if i = p then some x else l[i - 1]?:=by
 unfold zcC
 have hl : (l.take p).length = p:=by rw [List.length_take]; lia
 by_cases a : i < p
 . rw [if_pos a,List.getElem?_append_left (by lia),List.getElem?_take_of_lt a]
 . rw [if_neg a,List.getElem?_append_right (by lia),hl]
   by_cases b : i = p
   . rw [if_pos b,b,Nat.sub_self]; rfl
   . rw [if_neg b]
     have : i - p = (i - 1 - p) + 1:=by lia
     rw [this,List.getElem?_cons_succ,List.getElem?_drop]
     congr 1; lia
theorem zc6 {α : Type} {l : List α} {p : Nat} (x : α) (hp : p <= l.length) : (zcC l p x).length = l.length + 1:=by
 unfold zcC; rw [List.length_append,List.length_take,List.length_cons,List.length_drop]; lia
theorem zbL {α : Type} (xs : Array α) (p : Nat) (x : α) : (SetTable.insertAt xs p x).toList = zcC xs.toList p x:=by
 unfold SetTable.insertAt zcC
 simp
 exact List.take_of_length_le (by simp)
theorem zb4 {xs : Array Nat} {p : Nat} (x : Nat) (hp : p <= xs.size) (i : Nat) : (SetTable.insertAt xs p x).getD i 0 = if i < p then xs.getD i 0 else if i = p then x else xs.getD (i - 1) 0:=by
 rw [Array.getD_eq_getD_getElem?,<- Array.getElem?_toList,zbL,zex x (by simpa using hp)]
 split
 . rw [Array.getD_eq_getD_getElem?,<- Array.getElem?_toList]
 . split
   . rfl
   . rw [Array.getD_eq_getD_getElem?,<- Array.getElem?_toList]
theorem zg6 {xs : Array Nat} {p : Nat} (x : Nat) (hp : p <= xs.size) : (SetTable.insertAt xs p x).size = xs.size + 1:=by
 rw [<- Array.length_toList,zbL,zc6 x (by simpa using hp),Array.length_toList]
theorem zkD {l : List Int} {p : Nat} (x : Int) (hp : p <= l.length) (i : Nat) : (zcC l p x).getD i 0 = if i < p then l.getD i 0 else if i = p then x else l.getD (i - 1) 0:=by
 rw [List.getD_eq_getElem?_getD,zex x hp]
 split
 . rw [List.getD_eq_getElem?_getD]
 . split
   . rfl
   . rw [List.getD_eq_getElem?_getD]
theorem Tb.put {t : SetTable} {hs : List Int} (b : Tb t hs) {h : Int} {n : Nat} (hE : ¬ In t (way t.mask (start t.mask h) n).j) (hF : ∀ m,m < n -> In t (way t.mask (start t.mask h) m).j) (hr : t.place.size + 1 <= t.mask) :
   (t.put (way t.mask (start t.mask h) n).j).2 <= hs.length /\ Tb (t.put (way t.mask (start t.mask h) n).j).1 (zcC hs (t.put (way t.mask (start t.mask h) n).j).2 h):=by
 generalize hj : (way t.mask (start t.mask h) n).j = j at *
 have hjm : j <= t.mask:=by rw [<- hj]; exact zmH t.mask h n
 obtain ⟨q1,q2,q3⟩:=zfP b.ris j
 have hd : SetTable.has t.dummies j = false:=by rw [b.dum]; rfl
 have e2 : (t.put j).2 = SetTable.below t.place j:=rfl
 have ep : (t.put j).1.place = SetTable.insertAt t.place (SetTable.below t.place j) j:=rfl
 have em : (t.put j).1.mask = t.mask:=rfl
 have edm : (t.put j).1.dummies = #[]:=by
   show (if SetTable.has t.dummies j = true then _ else t.dummies) = _
   rw [hd]; exact b.dum
 rw [e2]
 generalize SetTable.below t.place j = p at *
 have hp : p <= hs.length:=by rw [<- b.size]; exact q1
 have inn : ∀ x,In t x -> In (t.put j).1 x:=fun x ⟨i,hi,e⟩=>by
   unfold In
   rw [ep,zg6 j q1]
   rcases Nat.lt_or_ge i p with a | a
   . exact ⟨i,by lia,by rw [zb4 j q1,if_pos a]; exact e⟩
   . exact ⟨i + 1,by lia,by rw [zb4 j q1,if_neg (by lia),if_neg (by lia)]; exact e⟩
 have ns : (t.put j).1.place.size = t.place.size + 1:=by rw [ep,zg6 j q1]
 have gt : ∀ k,p <= k -> k < t.place.size -> j < t.place.getD k 0:=fun k h1 h2=>by
   have:=q3 k h1 h2
   have : t.place.getD k 0 ≠ j:=fun e=>hE ⟨k,h2,e⟩
   lia
 refine ⟨hp,⟨?_,?_,edm,em ▸ b.two,?_,?_,?_⟩⟩
 . intro i k hik hk
   rw [ns] at hk
   rw [ep,zb4 j q1,zb4 j q1]
   by_cases a : k < p
   . rw [if_pos (by lia),if_pos a]; exact b.ris i k hik (by lia)
   . rw [if_neg a]
     by_cases c : k = p
     . rw [if_pos c,if_pos (by lia)]; exact q2 i (by lia)
     . rw [if_neg c]
       by_cases d : i < p
       . rw [if_pos d]; exact Nat.lt_trans (q2 i d) (gt (k - 1) (by lia) (by lia))
       . rw [if_neg d]
         by_cases f : i = p
         . rw [if_pos f]; exact gt (k - 1) (by lia) (by lia)
         . rw [if_neg f]; exact b.ris (i - 1) (k - 1) (by lia) (by lia)
 . rw [ns,zc6 h hp,b.size]
 . intro i hi
   rw [ns] at hi
   rw [ep,zb4 j q1,em]
   split
   . exact b.le i (by lia)
   . split
     . exact hjm
     . exact b.le (i - 1) (by lia)
 . rw [ns,em]; exact hr
 . intro i hi
   rw [ns] at hi
   rw [ep,zb4 j q1,em,zkD h hp]
   split
   . obtain ⟨m,h1,h2⟩:=b.path i (by lia)
     exact ⟨m,h1,fun k hk=>inn _ (h2 k hk)⟩
   . split
     . exact ⟨n,hj,fun k hk=>inn _ (hF k hk)⟩
     . obtain ⟨m,h1,h2⟩:=b.path (i - 1) (by lia)
       exact ⟨m,h1,fun k hk=>inn _ (h2 k hk)⟩
structure Ow (mask : Nat) (ow : Array (Option Nat)) (hs : List Int) : Prop where
 size : ow.size = mask + 1
 cnt : ow.toList.countP Option.isSome = hs.length
 inj : ∀ j j' k,ow.getD j none = some k -> ow.getD j' none = some k -> j = j'
 lt : ∀ j k,ow.getD j none = some k -> k < hs.length
 has : ∀ k,k < hs.length -> ∃ j,ow.getD j none = some k
 path : ∀ k j,ow.getD j none = some k -> ∃ n,(way mask (start mask (hs.getD k 0)) n).j = j /\ ∀ m,m < n -> ow.getD (way mask (start mask (hs.getD k 0)) m).j none ≠ none
theorem zj4 (mask i b : Nat) : ∀ m,lp mask i b (m + 1) = lp mask (leap mask i b).1 (leap mask i b).2 m
 | 0=>rfl
 | m + 1=>by
   show leap mask (lp mask i b (m + 1)).1 (lp mask i b (m + 1)).2 = leap mask (lp mask (leap mask i b).1 (leap mask i b).2 m).1 _
   rw [zj4 mask i b m]
theorem zgc {ow : Array (Option Nat)} {j : Nat} (h : j < ow.size) (d e : Option Nat) : ow.getD j d = ow.getD j e:=by simp [Array.getD,h]
theorem zhb {mask : Nat} {ow : Array (Option Nat)} (hz : ow.size = mask + 1) : ∀ fuel i b,i <= mask -> (∃ m,m < fuel /\ ow.getD (lp mask i b m).1 none = none /\ (lp mask i b m).1 <= mask) ->
   ∃ j n,SetTable.layClean.free mask ow fuel i b = some j /\ (way mask (zc4 mask i b) n).j = j /\ j <= mask /\ ow.getD j none = none /\ ∀ m,m < n -> ow.getD (way mask (zc4 mask i b) m).j none ≠ none
 | 0,i,b,_,⟨m,h,_⟩=>absurd h (Nat.not_lt_zero _)
 | fuel + 1,i,b,hi,⟨m,hm,hn,hle⟩=>by
   unfold SetTable.layClean.free
   have hr:=zeO hi
   cases hf : (List.range (runEnd mask i + 1 - i)).find? fun k=>(ow.getD (i + k) (some 0)).isNone with
   | some k =>
     rw [List.find?_range_eq_some] at hf
     obtain ⟨h1,h2,h3⟩:=hf
     have h2 : k < runEnd mask i + 1 - i:=by simpa using h2
     refine ⟨i + k,k,rfl,?_,by lia,?_,fun m hm=>?_⟩
     . rw [zer mask i b k (by lia)]
     . rw [zgc (by lia) none (some 0)]; simpa using h1
     . rw [zer mask i b m (by lia)]
       have:=h3 m hm
       show ow.getD (i + m) none ≠ none
       rw [zgc (by lia) none (some 0)]
       intro e
       rw [e] at this
       exact absurd this (by decide)
   | none =>
     rw [List.find?_range_eq_none] at hf
     have all : ∀ k,k <= runEnd mask i - i -> ow.getD (i + k) none ≠ none:=fun k hk e=>by
       have:=hf k (by lia)
       rw [zgc (by lia) (some 0) none,e] at this
       exact absurd this (by decide)
     cases m with
     | zero=>exact absurd hn (all 0 (Nat.zero_le _))
     | succ m =>
       rw [zj4] at hn hle
       have hi' : (leap mask i b).1 <= mask:=by unfold leap; dsimp only; exact Nat.le_of_lt_succ (Nat.mod_lt _ (Nat.succ_pos _))
       obtain ⟨j,n,e1,e2,e3,e4,e5⟩:=zhb hz fuel (leap mask i b).1 (leap mask i b).2 hi' ⟨m,by lia,hn,hle⟩
       refine ⟨j,runEnd mask i - i + 1 + n,e1,by rw [zft,zgi]; exact e2,e3,e4,fun m' hm'=>?_⟩
       rcases Nat.lt_or_ge m' (runEnd mask i - i + 1) with q | q
       . rw [zer mask i b m' (by lia)]; exact all m' (by lia)
       . have : m' = runEnd mask i - i + 1 + (m' - (runEnd mask i - i + 1)):=by lia
         rw [this,zft,zgi]
         exact e5 _ (by lia)
theorem Ow.gap {mask : Nat} {ow : Array (Option Nat)} {hs : List Int} (o : Ow mask ow hs) (h : hs.length <= mask) : ∃ j,j <= mask /\ ow.getD j none = none:=by
 refine Classical.byContradiction fun c=>?_
 have : ow.toList.countP Option.isSome = ow.toList.length:=List.countP_eq_length.mpr fun a ha=>by
   obtain ⟨j,hj,e⟩:=List.getElem_of_mem ha
   rw [Array.length_toList,o.size] at hj
   cases a with
   | some _=>rfl
   | none =>
     refine absurd ⟨j,by lia,?_⟩ c
     rw [Array.getD_eq_getD_getElem?,<- Array.getElem?_toList,List.getElem?_eq_getElem (by rw [Array.length_toList,o.size]; exact hj),e]
     rfl
 have h2 : ow.toList.length = mask + 1:=by rw [Array.length_toList,o.size]
 have:=o.cnt
 lia
theorem zlK {ow : Array (Option Nat)} {j : Nat} (h : j < ow.size) (v : Option Nat) (x : Nat) : (ow.setIfInBounds j v).getD x none = if x = j then v else ow.getD x none:=by
 rw [Array.getD_eq_getD_getElem?,Array.getElem?_setIfInBounds]
 by_cases e : j = x
 . subst e; rw [if_pos rfl,if_pos rfl,if_pos h]; rfl
 . rw [if_neg e,if_neg (fun q=>e q.symm),Array.getD_eq_getD_getElem?]
theorem Ow.step {mask k : Nat} (hm : mask + 1 = 2 ^ k) {ow : Array (Option Nat)} {hs : List Int} (o : Ow mask ow hs) (hl : hs.length <= mask) (h : Int) :
   ∃ j,SetTable.layClean.free mask ow (turns mask) (bits h % (mask + 1)) (bits h) = some j /\ Ow mask (ow.setIfInBounds j (some hs.length)) (hs ++ [h]):=by
 obtain ⟨j0,hj0,e0⟩:=o.gap hl
 obtain ⟨m,hm',em⟩:=zom hm (i:=bits h % (mask + 1)) (zjM h) hj0
 obtain ⟨j,n,e1,e2,e3,e4,e5⟩:=zhb o.size (turns mask) (bits h % (mask + 1)) (bits h) (Nat.le_of_lt_succ (Nat.mod_lt _ (Nat.succ_pos _))) ⟨m,by unfold turns; lia,by rw [em]; exact e0,by rw [em]; exact hj0⟩
 have hjs : j < ow.size:=by rw [o.size]; lia
 have G:=zlK hjs (some hs.length)
 have hlen : (hs ++ [h]).length = hs.length + 1:=by simp
 have old : ∀ k,k < hs.length -> (hs ++ [h]).getD k 0 = hs.getD k 0:=fun k hk=>by
   rw [List.getD_eq_getElem?_getD,List.getD_eq_getElem?_getD,List.getElem?_append_left hk]
 refine ⟨j,e1,⟨by simpa using o.size,?_,?_,?_,?_,?_⟩⟩
 . rw [Array.toList_setIfInBounds,List.countP_set (by simpa using hjs),o.cnt,hlen]
   have : ow.toList[j]'(by simpa using hjs) = none:=by
     rw [Array.getD_eq_getD_getElem?,Array.getElem?_eq_getElem hjs] at e4
     simpa using e4
   simp [this]
 . intro x x' k h1 h2
   rw [G] at h1 h2
   split at h1
   . split at h2
     . rename_i a b; rw [a,b]
     . have:=o.lt _ _ h2; have:=Option.some.inj h1; lia
   . split at h2
     . have:=o.lt _ _ h1; have:=Option.some.inj h2; lia
     . exact o.inj _ _ _ h1 h2
 . intro x k h1
   rw [G] at h1
   rw [hlen]
   split at h1
   . have:=Option.some.inj h1; lia
   . have:=o.lt _ _ h1; lia
 . intro k hk
   rw [hlen] at hk
   rcases Nat.lt_or_ge k hs.length with q | q
   . obtain ⟨x,hx⟩:=o.has k q
     refine ⟨x,?_⟩
     rw [G,if_neg]
     . exact hx
     . intro e; rw [e,e4] at hx; cases hx
   . refine ⟨j,?_⟩
     rw [G,if_pos rfl]; congr 1; lia
 . intro k x h1
   rw [G] at h1
   have keep : ∀ y,ow.getD y none ≠ none -> (ow.setIfInBounds j (some hs.length)).getD y none ≠ none:=fun y hy=>by
     rw [G]; split
     . exact fun z=>nomatch z
     . exact hy
   split at h1
   . rename_i ex
     have ek : k = hs.length:=(Option.some.inj h1).symm
     have : (hs ++ [h]).getD k 0 = h:=by rw [ek,List.getD_eq_getElem?_getD,List.getElem?_append_right (Nat.le_refl _),Nat.sub_self]; rfl
     rw [this,ex]
     exact ⟨n,e2,fun m hm=>keep _ (e5 m hm)⟩
   . rw [old k (o.lt _ _ h1)]
     obtain ⟨n',a1,a2⟩:=o.path k x h1
     exact ⟨n',a1,fun m hm=>keep _ (a2 m hm)⟩
theorem Ow.nil (mask : Nat) : Ow mask (Array.replicate (mask + 1) none) []:=by
 have G : ∀ j,(Array.replicate (mask + 1) (none : Option Nat)).getD j none = none:=fun j=>by
   rw [Array.getD_eq_getD_getElem?,Array.getElem?_replicate]; split <;> rfl
 refine ⟨by simp,?_,fun j j' k h=>?_,fun j k h=>?_,fun k h=>absurd h (Nat.not_lt_zero _),fun k j h=>?_⟩
 . rw [Array.toList_replicate,List.countP_replicate]; rfl
 all_goals (rw [G] at h; cases h)
theorem ziK {mask k : Nat} (hm : mask + 1 = 2 ^ k) : ∀ (l : List Int) (ow : Array (Option Nat)) (hs : List Int),Ow mask ow hs -> hs.length + l.length <= mask + 1 ->
   ∃ ow',(l.foldl (init:=some (ow,hs.length)) fun (acc : Option (Array (Option Nat) × Nat)) h=>do
     let (owner,k) <- acc
     let j <- SetTable.layClean.free mask owner (turns mask) (bits h % (mask + 1)) (bits h)
     pure (owner.setIfInBounds j (some k),k + 1)) = some (ow',hs.length + l.length) /\ Ow mask ow' (hs ++ l)
 | [],ow,hs,o,_=>⟨ow,rfl,by rw [List.append_nil]; exact o⟩
 | h :: l,ow,hs,o,hl=>by
   rw [List.length_cons] at hl
   obtain ⟨j,e,o'⟩:=o.step hm (by lia) h
   have hlen : (hs ++ [h]).length = hs.length + 1:=by simp
   obtain ⟨ow',e',o''⟩:=ziK hm l _ _ o' (by lia)
   refine ⟨ow',?_,by rw [List.append_assoc] at o''; exact o''⟩
   rw [List.foldl_cons]
   have : (do
     let (owner,k) <- some (ow,hs.length)
     let j <- SetTable.layClean.free mask owner (turns mask) (bits h % (mask + 1)) (bits h)
     pure (owner.setIfInBounds j (some k),k + 1) : Option (Array (Option Nat) × Nat)) = some (ow.setIfInBounds j (some hs.length),hs.length + 1):=by
     show (SetTable.layClean.free mask ow (turns mask) (bits h % (mask + 1)) (bits h) >>= _) = _
     rw [e]; rfl
   rw [this,<- hlen,e',hlen,List.length_cons]
   congr 2; lia
theorem zp3 {mask k : Nat} (hm : mask + 1 = 2 ^ k) {hs : Array Int} (hl : hs.size <= mask + 1) : ∃ ow,SetTable.layClean mask hs = some ow /\ Ow mask ow hs.toList:=by
 obtain ⟨ow,e,o⟩:=ziK hm hs.toList _ [] (Ow.nil mask) (by simpa using hl)
 refine ⟨ow,?_,by simpa using o⟩
 unfold SetTable.layClean
 rw [<- Array.foldl_toList]
 have:=congrArg (Option.map (·.1)) e
 exact this
def live (mask : Nat) (ow : Array (Option Nat)) : List (Nat × Nat):=(List.range (mask + 1)).filterMap fun j=>(ow.getD j none).map (j,·)
theorem zds {mask : Nat} {ow : Array (Option Nat)} (hz : ow.size = mask + 1) {j k : Nat} : (j,k) ∈ live mask ow ↔ ow.getD j none = some k:=by
 unfold live
 rw [List.mem_filterMap]
 constructor
 . rintro ⟨x,_,e⟩
   cases h : ow.getD x none with
   | none=>rw [h] at e; cases e
   | some y=>rw [h] at e; cases e; exact h
 . intro h
   refine ⟨j,?_,by rw [h]; rfl⟩
   rw [List.mem_range]
   rcases Nat.lt_or_ge j (mask + 1) with q | q
   . exact q
   . rw [Array.getD_eq_getD_getElem?,Array.getElem?_eq_none (by lia)] at h; cases h
theorem zhh {mask : Nat} {ow : Array (Option Nat)} {hs : List Int} (o : Ow mask ow hs) : (live mask ow).Pairwise fun x y=>x.1 < y.1 /\ x.2 ≠ y.2:=by
 unfold live
 rw [List.pairwise_filterMap]
 refine List.Pairwise.imp_of_mem ?_ List.pairwise_lt_range
 intro a b _ _ hab x hx y hy
 cases h1 : ow.getD a none with
 | none=>rw [h1] at hx; cases hx
 | some u =>
   cases h2 : ow.getD b none with
   | none=>rw [h2] at hy; cases hy
   | some v =>
     rw [h1] at hx; rw [h2] at hy
     cases hx; cases hy
     refine ⟨hab,fun e=>?_⟩
     have : u = v:=e
     subst this
     have:=o.inj _ _ _ h1 h2
     lia
theorem zjA {mask : Nat} {ow : Array (Option Nat)} {hs : List Int} (o : Ow mask ow hs) : ((live mask ow).map (·.2)).Perm (List.range hs.length):=by
 refine (List.perm_ext_iff_of_nodup ?_ List.nodup_range).mpr fun k=>?_
 . show List.Pairwise _ _
   rw [List.pairwise_map]
   exact (zhh o).imp fun h=>h.2
 . rw [List.mem_range,List.mem_map]
   constructor
   . rintro ⟨⟨j,k'⟩,h,rfl⟩
     exact o.lt _ _ ((zds o.size).mp h)
   . intro h
     obtain ⟨j,hj⟩:=o.has k h
     exact ⟨(j,k),(zds o.size).mpr hj,rfl⟩
theorem znT {mask k : Nat} (k3 : 3 <= k) (hm : mask + 1 = 2 ^ k) (finger moves : Nat) (led plain : Bool) {hs : Array Int} (hl : hs.size <= mask) :
   ∃ (t : SetTable) (ord : Array Nat),SetTable.laid mask finger moves led plain hs = some (t,ord) /\ t.mask = mask /\ t.led = led /\ t.plain = plain /\ t.moves = moves /\ ord.toList.Perm (List.range hs.size) /\ Tb t (ord.toList.map fun k=>hs.toList.getD k 0):=by
 obtain ⟨ow,e,o⟩:=zp3 hm (hs:=hs) (by lia)
 have op:=zjA o
 rw [Array.length_toList] at op
 have ll : (live mask ow).length = hs.size:=by have:=op.length_eq; simpa using this
 refine ⟨{ mask,place:=((live mask ow).map (·.1)).toArray,dummies:=#[],finger,led,moves,plain },((live mask ow).map (·.2)).toArray,?_,rfl,rfl,rfl,rfl,by simpa using op,?_⟩
 . unfold SetTable.laid
   rw [e]; rfl
 . have pz : (((live mask ow).map (·.1)).toArray).size = (live mask ow).length:=by simp
   have pg : ∀ i (h : i < (live mask ow).length),(((live mask ow).map (·.1)).toArray).getD i 0 = ((live mask ow)[i]).1:=fun i h=>by
     rw [Array.getD_eq_getD_getElem?]; simp [h]
   have inn : ∀ x,ow.getD x none ≠ none -> In { mask,place:=((live mask ow).map (·.1)).toArray,dummies:=#[],finger,led,moves,plain } x:=fun x hx=>by
     cases hy : ow.getD x none with
     | none=>exact absurd hy hx
     | some y =>
       obtain ⟨i,hi,ei⟩:=List.getElem_of_mem ((zds o.size).mpr hy)
       exact ⟨i,by show i < (((live mask ow).map (·.1)).toArray).size; rw [pz]; exact hi,by show (((live mask ow).map (·.1)).toArray).getD i 0 = x; rw [pg i hi,ei]⟩
   refine ⟨?_,?_,rfl,⟨k,k3,hm⟩,?_,?_,?_⟩
   . intro i j hij hj
     have hj : j < (live mask ow).length:=by rw [<- pz]; exact hj
     show (((live mask ow).map (·.1)).toArray).getD i 0 < (((live mask ow).map (·.1)).toArray).getD j 0
     rw [pg i (by lia),pg j hj]
     exact (List.pairwise_iff_getElem.mp (zhh o) i j (by lia) hj hij).1
   . show (((live mask ow).map (·.1)).toArray).size = _
     rw [pz]; simp
   . intro i hi
     have hi : i < (live mask ow).length:=by rw [<- pz]; exact hi
     show (((live mask ow).map (·.1)).toArray).getD i 0 <= mask
     rw [pg i hi]
     have:=(zds o.size).mp (show (((live mask ow)[i]).1,((live mask ow)[i]).2) ∈ live mask ow from List.getElem_mem hi)
     rcases Nat.lt_or_ge ((live mask ow)[i]).1 (mask + 1) with q | q
     . lia
     . rw [Array.getD_eq_getD_getElem?,Array.getElem?_eq_none (by rw [o.size]; lia)] at this; cases this
   . show (((live mask ow).map (·.1)).toArray).size <= mask
     rw [pz,ll]; exact hl
   . intro i hi
     have hi : i < (live mask ow).length:=by rw [<- pz]; exact hi
     have hm':=(zds o.size).mp (show (((live mask ow)[i]).1,((live mask ow)[i]).2) ∈ live mask ow from List.getElem_mem hi)
     have eh : (((live mask ow).map (·.2)).toArray.toList.map fun k=>hs.toList.getD k 0).getD i 0 = hs.toList.getD ((live mask ow)[i]).2 0:=by
       rw [List.getD_eq_getElem?_getD]; simp [hi]
     obtain ⟨n,a1,a2⟩:=o.path _ _ hm'
     show ∃ n,(way mask (start mask (_)) n).j = (((live mask ow).map (·.1)).toArray).getD i 0 /\ _
     rw [pg i hi,eh]
     exact ⟨n,a1,fun m hm=>inn _ (a2 m hm)⟩
theorem zon (n : Nat) : ∀ (fuel size : Nat),∃ m,SetTable.sizeAbove.go n fuel size = size * 2 ^ m /\ (n < size * 2 ^ fuel -> n < SetTable.sizeAbove.go n fuel size) /\ (SetTable.sizeAbove.go n fuel size <= size \/ SetTable.sizeAbove.go n fuel size <= 2 * n)
 | 0,size=>⟨0,by simp [SetTable.sizeAbove.go],fun h=>by simpa [SetTable.sizeAbove.go] using h,.inl (by simp [SetTable.sizeAbove.go])⟩
 | fuel + 1,size=>by
   unfold SetTable.sizeAbove.go
   by_cases c : size <= n
   . rw [if_pos c]
     obtain ⟨m,h1,h2,h3⟩:=zon n fuel (size * 2)
     refine ⟨m + 1,?_,fun h=>h2 ?_,?_⟩
     . rw [h1,Nat.pow_succ,Nat.mul_comm (2 ^ m) 2,Nat.mul_assoc]
     . rw [Nat.pow_succ,Nat.mul_comm (2 ^ fuel) 2,<- Nat.mul_assoc] at h; exact h
     . rcases h3 with h3 | h3 <;> right <;> lia
   . rw [if_neg c]
     exact ⟨0,by simp,fun _=>by lia,.inl (Nat.le_refl _)⟩
theorem zqO {n : Nat} (h1 : 1 <= n) (h : n <= 4000) : ∃ k,3 <= k /\ SetTable.sizeAbove (4 * n) - 1 + 1 = 2 ^ k /\ 4 * n <= SetTable.sizeAbove (4 * n) - 1 /\ SetTable.sizeAbove (4 * n) <= 8 * n:=by
 obtain ⟨m,e1,e2,e3⟩:=zon (4 * n) 64 8
 have e0 : SetTable.sizeAbove (4 * n) = SetTable.sizeAbove.go (4 * n) 64 8:=rfl
 have lt := e2 (by have : (8 * 2 ^ 64 : Nat) = 147573952589676412928 := by decide
                   lia)
 rw [e0]
 refine ⟨m + 3,by lia,?_,by lia,by lia⟩
 rw [Nat.sub_add_cancel (by lia),e1,Nat.pow_add,Nat.mul_comm]
end TB
set_option Elab.async false
set_option linter.all false
set_option maxRecDepth 100000
namespace TB
open PySem
section
variable {prog : Program} {w : World} {K : Type} [DecidableEq K] {knd : KeyKind prog w K} {U : Addr -> List K -> Prop} {A : Around} {E : Value -> Shared -> Prop} {s : Shared}
def Ent (knd : KeyKind prog w K) (U : Addr -> List K -> Prop) (h : Heap) (e : Int × Value) (k : List K) : Prop:=∃ a,e.2 = .ref a /\ IsTupleKey knd h k a /\ e.1 = tupleKeyHash knd k /\ U a k
theorem zgp (n : Nat) {v : Value} (h : carriedByValue v = true) : ofAClassStatement n v = pure false:=by
 cases v with
 | ref a=>simp [carriedByValue] at h
 | _=>first | rfl | simp [ofAClassStatement] | (unfold ofAClassStatement; rfl)
theorem zfN {x : Addr} {k : List K} (hx : IsTupleKey knd s.heap k x) {Q : Bool -> Shared -> Prop} (q : Q false s) : wpAny (model prog w) A (ofAClassStatement 8 (.ref x)) Q E s:=by
 have hT:=hx.typeIs
 obtain ⟨o,items,n,ho,hc,hd,hi⟩:=hx
 unfold ofAClassStatement
 refine wpAny_bind (wpAny_typeOf hT ?_)
 dsimp only
 rw [if_pos (by decide)]
 refine wpAny_bind (wpAny_pure ?_)
 simp only [Bool.not_true,Bool.false_eq_true,if_false]
 refine wpAny_bind (wpAny_seqItems ho hd ?_)
 refine wpAny_bind ?_
 show wpAny _ _ (forIn items _ _) _ _ s
 rw [<- Array.forIn_toList]
 refine wpAny_forIn_list _ (fun za1 r s'=>r.1 = none /\ s' = s /\ ∀ v ∈ za1,carriedByValue v = true) _ ?_ ?_ _ _ ⟨rfl,rfl,hi.byValue⟩
 . rintro v za1 r s' ⟨hr,rfl,hall⟩
   rw [zgp _ (hall v List.mem_cons_self)]
   refine wpAny_bind (wpAny_pure ?_)
   simp only [Bool.false_eq_true,if_false]
   exact wpAny_pure ⟨rfl,rfl,fun u hu'=>hall u (List.mem_cons_of_mem _ hu')⟩
 . rintro ⟨r1,r2⟩ s' ⟨hr,rfl,_⟩
   simp only at hr
   subst hr
   exact wpAny_pure q
theorem zla {x : Addr} {k : List K} (hx : IsTupleKey knd s.heap k x) : ∀ (l : List Value),(∀ v ∈ l,∃ y k',v = .ref y /\ IsTupleKey knd s.heap k' y) -> ∀ {Q : Bool -> Shared -> Prop},Q false s -> wpAny (model prog w) A (searchCouldBeSeen (.ref x) l) Q E s:=by
 intro l hl Q q
 unfold searchCouldBeSeen
 refine wpAny_bind ?_
 refine wpAny_forIn_list _ (fun za1 r s'=>r.1 = none /\ s' = s /\ ∀ v ∈ za1,∃ y k',v = .ref y /\ IsTupleKey knd s.heap k' y) _ ?_ ?_ _ _ ⟨rfl,rfl,hl⟩
 . rintro v za1 r s' ⟨hr,rfl,hall⟩
   obtain ⟨y,k',rfl,hy⟩:=hall v List.mem_cons_self
   have rst : ∀ v ∈ za1,∃ y k',v = .ref y /\ IsTupleKey knd s'.heap k' y:=fun u hu'=>hall u (List.mem_cons_of_mem _ hu')
   dsimp only
   split
   . exact wpAny_pure ⟨rfl,rfl,rst⟩
   . refine wpAny_bind (wpAny_eqIsQuiet_tuple hx ?_)
     simp only [Bool.not_true,Bool.false_eq_true,if_false]
     refine wpAny_bind (wpAny_eqIsQuiet_tuple hy ?_)
     simp only [Bool.not_true,Bool.false_eq_true,if_false]
     refine wpAny_bind (zfN hx ?_)
     simp only [Bool.not_true,Bool.false_eq_true,if_false]
     refine wpAny_bind (zfN hy ?_)
     simp only [Bool.not_true,Bool.false_eq_true,if_false]
     exact wpAny_pure ⟨rfl,rfl,rst⟩
 . rintro ⟨r1,r2⟩ s' ⟨hr,rfl,_⟩
   simp only at hr
   subst hr
   exact wpAny_pure q
theorem znK {t : SetTable} (R : Ris t.place) (D : t.dummies = #[]) {i j : Nat} (hi : i < t.place.size) (e : t.place.getD i 0 = j) : t.slot j = .live i:=by
 rcases zf9 R D j with ⟨i',h1,h2,h3⟩ | ⟨no,_⟩
 . rw [h3,zht R h1 hi (h2.trans e.symm)]
 . exact absurd e (no i hi)
theorem Ent.inj {h : Heap} {e : Int × Value} {k k' : List K} (a : Ent knd U h e k) (b : Ent knd U h e k') : k = k':=by
 obtain ⟨x,h1,h2,_⟩:=a
 obtain ⟨y,h3,h4,_⟩:=b
 rw [h1] at h3
 cases h3
 exact h2.inj h4
theorem Tb.fits {t : SetTable} {hs : List Int} (b : Tb t hs) : t.fits hs.length = true:=by
 unfold SetTable.fits SetTable.fill
 rw [b.dum,b.size]
 have:=b.room
 rw [b.size] at this
 simpa using this
theorem Tb.notGave {t : SetTable} {hs : List Int} (b : Tb t hs) : t.gaveWay = false:=by
 obtain ⟨k',h3,e⟩:=b.two
 unfold SetTable.gaveWay
 have : 2 ^ k' = 2 * 2 ^ (k' - 1):=by rw [<- Nat.pow_succ']; congr 1; lia
 have : t.mask % 2 = 1:=by lia
 rw [this]; rfl
theorem zgL {a xa : Addr} {k : List K} {o : Obj} {es : Array (Int × Value)} {ep : Nat} {t : SetTable} (hu : A.units < cLine) (hx : IsTupleKey knd s.heap k xa)
   (ho : s.heap.get? a = some o) (hd : o.data = .set es ep t) (b : Tb t (es.toList.map (·.1))) (he : ∀ i (h : i < es.size),∃ k',Ent knd U s.heap es[i] k') (n0 : Nat) (hE : ¬ In t (way t.mask (start t.mask (tupleKeyHash knd k)) n0).j) (hF : ∀ m,m < n0 -> In t (way t.mask (start t.mask (tupleKeyHash knd k)) m).j) (hf0 : n0 < 10 * SetTable.turns t.mask)
   {Q : SetFound -> Shared -> Prop} (yes : (∃ i,∃ h : i < es.size,Ent knd U s.heap es[i] k) -> Q (.there none) s) (no : (∀ i (h : i < es.size),¬ Ent knd U s.heap es[i] k) -> Q (.free (way t.mask (start t.mask (tupleKeyHash knd k)) n0).j false) s) :
   ∀ (fuel n : Nat) (st : Option SetTable.Probe),n <= n0 -> n0 - n < fuel -> st.getD (t.probeStart (tupleKeyHash knd k)) = way t.mask (start t.mask (tupleKeyHash knd k)) n ->
     (∀ m,m < n -> ∀ i (h : i < es.size),t.place.getD i 0 = (way t.mask (start t.mask (tupleKeyHash knd k)) m).j -> ¬ Ent knd U s.heap es[i] k) ->
     wpAny (model prog w) A (setSearchFrom a (.ref xa) (tupleKeyHash knd k) true fuel st) Q E s
 | 0,n,st,_,hlt,_,_=>absurd hlt (Nat.not_lt_zero _)
 | fuel + 1,n,st,hn,hlt,hst,hno=>by
   have hsz : t.place.size = es.size:=by rw [b.size,List.length_map,Array.length_toList]
   have hfit : t.fits es.size = true:=by have:=b.fits; rwa [List.length_map,Array.length_toList] at this
   unfold setSearchFrom
   refine wpAny_bind (wpAny_setState_of ho hd hfit ?_)
   dsimp only
   rw [b.notGave,hst]
   simp only [Bool.false_eq_true,if_false]
   have hp:=ziz b.ris b.dum (fun i=>(es[i]?.map (·.1)).getD 0) (tupleKeyHash knd k) (p:=start t.mask (tupleKeyHash knd k)) rfl hE hF (10 * SetTable.turns t.mask) n hn (by lia)
   rcases hp with ⟨m,i,m1,m2,i1,i2,i3,i4,e⟩ | ⟨a1,e⟩
   . generalize hP : t.probe _ (tupleKeyHash knd k) (way t.mask (start t.mask (tupleKeyHash knd k)) n) = P
     have eP:=hP.symm.trans e
     rw [eP]
     clear eP hP P e
     dsimp only
     have ies : i < es.size:=by rw [<- hsz]; exact i1
     obtain ⟨k',a',e1,e2,e3,e4⟩:=he i ies
     have eg : es[i]? = some es[i]:=Array.getElem?_eq_getElem ies
     have hent : Ent knd U s.heap es[i] k':=⟨a',e1,e2,e3,e4⟩
     have next : k' ≠ k -> wpAny (model prog w) A (setSearchFrom a (.ref xa) (tupleKeyHash knd k) true fuel (some (way t.mask (start t.mask (tupleKeyHash knd k)) (m + 1)))) Q E s:=fun c=>by
       refine zgL hu hx ho hd b he n0 hE hF hf0 yes no fuel (m + 1) _ m2 (by lia) rfl fun m' hm' i' hi' ep' hent'=>?_
       rcases Nat.lt_or_ge m' n with q | q
       . exact hno m' q i' hi' ep' hent'
       . rcases Nat.eq_or_lt_of_le (Nat.le_of_lt_succ hm') with q' | q'
         . subst q'
           have : i' = i:=zht b.ris (by rw [hsz]; exact hi') i1 (ep'.trans i2.symm)
           subst this
           exact c (hent.inj hent')
         . refine i4 m' q q' i' (by rw [hsz]; exact hi') ep' ?_
           show (es[i']?.map (·.1)).getD 0 = _
           rw [Array.getElem?_eq_getElem hi']
           obtain ⟨_,_,_,e5,_⟩:=hent'
           exact e5
     have hsl : t.slot (way t.mask (start t.mask (tupleKeyHash knd k)) m).j = .live i:=znK b.ris b.dum i1 i2
     have hsm : t.sameMemory t.moves t.mask = some true:=by unfold SetTable.sameMemory; rw [if_pos (by simp)]
     have unseen : ∀ v ∈ (es.filter fun x=>x.1 == tupleKeyHash knd k).toList.map (fun x=>x.2),∃ y k',v = .ref y /\ IsTupleKey knd s.heap k' y:=fun v hv=>by
       obtain ⟨e0,h0,rfl⟩:=List.mem_map.mp hv
       rw [Array.toList_filter,List.mem_filter] at h0
       obtain ⟨j,hj,ej⟩:=List.getElem_of_mem h0.1
       obtain ⟨k2,y2,f1,f2,_⟩:=he j (by simpa using hj)
       refine ⟨y2,k2,?_,f2⟩
       rw [<- ej,<- f1,Array.getElem_toList]
     have eg' : es[i]? = some (es[i].1,.ref a'):=by rw [eg,<- e1]
     clear eg
     generalize es[i].1 = h' at *
     have tail : k' = k -> Q (.there none) s:=fun c=>yes ⟨i,ies,c ▸ hent⟩
     cases hl : t.led
     . simp only [Bool.not_false,if_true]
       refine wpAny_bind (zla hx _ unseen ?_)
       simp only [Bool.false_eq_true,if_false]
       rw [eg']
       dsimp only
       refine wpAny_bind (wpAny_holding (wpAny_eqBool_tuple hu e2 hx ?_))
       refine wpAny_bind (wpAny_setState_of ho hd hfit ?_)
       dsimp only
       by_cases c : k' = k
       . rw [decide_eq_true c]
         exact wpAny_pure (tail c)
       . rw [decide_eq_false c,hsm]
         simp only [Bool.and_false,Bool.false_eq_true,if_false,if_true]
         rw [hsl]
         dsimp only
         rw [eg']
         dsimp only
         refine wpAny_bind (wpAny_isSame_ref_self ?_)
         refine wpAny_bind (wpAny_pure ?_)
         simp only [if_true]
         exact next c
     . simp only [Bool.not_true,Bool.false_eq_true,if_false]
       rw [eg']
       dsimp only
       refine wpAny_bind (wpAny_holding (wpAny_eqBool_tuple hu e2 hx ?_))
       refine wpAny_bind (wpAny_setState_of ho hd hfit ?_)
       dsimp only
       by_cases c : k' = k
       . rw [decide_eq_true c]
         exact wpAny_pure (tail c)
       . rw [decide_eq_false c,hsm]
         simp only [Bool.and_false,Bool.false_eq_true,if_false,if_true]
         rw [hsl]
         dsimp only
         rw [eg']
         dsimp only
         refine wpAny_bind (wpAny_isSame_ref_self ?_)
         refine wpAny_bind (wpAny_pure ?_)
         simp only [if_true]
         exact next c
   . generalize hP : t.probe _ (tupleKeyHash knd k) (way t.mask (start t.mask (tupleKeyHash knd k)) n) = P
     have eP:=hP.symm.trans e
     rw [eP]
     dsimp only
     refine wpAny_pure (no fun i hi hent=>?_)
     have hi' : i < t.place.size:=by rw [hsz]; exact hi
     obtain ⟨m,p1,p2⟩:=b.path i hi'
     have hh : (es.toList.map (·.1)).getD i 0 = tupleKeyHash knd k:=by
       obtain ⟨_,_,_,e3,_⟩:=hent
       rw [List.getD_eq_getElem?_getD,List.getElem?_map,Array.getElem?_toList,Array.getElem?_eq_getElem hi]
       exact e3
     rw [hh] at p1 p2
     rcases Nat.lt_or_ge m n0 with q | q
     . rcases Nat.lt_or_ge m n with q' | q'
       . exact hno m q' i hi p1.symm hent
       . refine a1 m q' q i hi' p1.symm ?_
         show (es[i]?.map (·.1)).getD 0 = _
         rw [Array.getElem?_eq_getElem hi]
         obtain ⟨_,_,_,e3,_⟩:=hent
         exact e3
     . rcases Nat.eq_or_lt_of_le q with q' | q'
       . subst q'; exact hE ⟨i,hi',p1.symm⟩
       . exact hE (p2 n0 q')
theorem zkW {α : Type} (l : List α) (p : Nat) (x : α) : (zcC l p x).Perm (x :: l):=by
 unfold zcC
 refine List.perm_middle.trans (List.Perm.cons x ?_)
 rw [List.take_append_drop]
theorem zep {h g : Heap} {k : List K} {a : Addr} (x : IsTupleKey knd h k a) (e : ∀ o,h.get? a = some o -> g.get? a = some o) : IsTupleKey knd g k a:=by
 obtain ⟨o,its,n,h1,r⟩:=x
 exact ⟨o,its,n,e o h1,r⟩
theorem zgH {h g : Heap} {k : List K} {a d : Addr} {o : Obj} {es : Array (Int × Value)} {ep : Nat} {t : SetTable} (x : IsTupleKey knd h k a) (ho : h.get? d = some o) (hd : o.data = .set es ep t) (hs : Heap.SameBut d h g) : IsTupleKey knd g k a:=by
 refine zep x fun u eu=>(hs.2 a fun ad=>?_).trans eu
 obtain ⟨u',_,_,e1,_,e2,_⟩:=x
 rw [ad,ho] at e1
 cases e1
 rw [hd] at e2
 cases e2
def za0 (knd : KeyKind prog w K) (U : Addr -> List K -> Prop) (h : Heap) (es : List (Int × Value)) (ks : List (List K)) : Prop:=es.length = ks.length /\ ∀ (i : Nat) (e : Int × Value) (k : List K),es[i]? = some e -> ks[i]? = some k -> Ent knd U h e k
def TS (knd : KeyKind prog w K) (U : Addr -> List K -> Prop) (h : Heap) (a : Addr) (led : Bool) (ks : List (List K)) : Prop :=
 ∃ o es ep t,h.get? a = some o /\ o.ExactSet /\ o.data = .set es ep t /\ Tb t (es.toList.map (·.1)) /\ es.size * 5 < t.mask * 3 /\ (t.mask <= 7 \/ t.mask <= 8 * es.size) /\ t.led = led /\ t.plain = true /\ za0 knd U h es.toList ks /\ ks.Nodup
theorem zk6 (hv : ∀ k v,knd.is k v = true -> ∃ i t,v = .int i t) {x : Addr} {k : List K} (hx : IsTupleKey knd s.heap k x) {Q : Bool -> Shared -> Prop} (q : Q true s) : wpAny (model prog w) A (hashByValue 8 (.ref x)) Q E s:=by
 have hT:=hx.typeIs
 obtain ⟨o,items,n,ho,hc,hd,hi⟩:=hx
 have hints : ∀ {ks : List K} {vs : List Value},ItemsAre knd ks vs -> ∀ v ∈ vs,∃ i t,v = .int i t:=fun h=>by
   induction h with
   | nil=>intro v hv; simp at hv
   | cons h1 _ ih =>
     intro v hm
     rcases List.mem_cons.mp hm with rfl | hm
     . exact hv _ _ h1
     . exact ih v hm
 unfold hashByValue
 refine wpAny_bind (wpAny_specialOf hT F.slot_tuple_hash.lookup ?_)
 dsimp only
 refine wpAny_bind (wpAny_seqItems ho hd ?_)
 refine wpAny_bind ?_
 show wpAny _ _ (forIn items _ _) _ _ s
 rw [<- Array.forIn_toList]
 refine wpAny_forIn_list _ (fun za1 r s'=>r.1 = none /\ s' = s /\ ∀ v ∈ za1,∃ i t,v = .int i t) _ ?_ ?_ _ _ ⟨rfl,rfl,hints hi⟩
 . rintro v za1 r s' ⟨hr,rfl,hall⟩
   obtain ⟨i,t,rfl⟩:=hall v List.mem_cons_self
   show wpAny _ _ (pure true >>= _) _ _ _
   refine wpAny_bind (wpAny_pure ?_)
   simp only [Bool.not_true,Bool.false_eq_true,if_false]
   exact wpAny_pure ⟨rfl,rfl,fun u hu'=>hall u (List.mem_cons_of_mem _ hu')⟩
 . rintro ⟨r1,r2⟩ s' ⟨hr,rfl,_⟩
   simp only at hr
   subst hr
   exact wpAny_pure q
theorem zmr {α β : Type} (f : α -> β) (l : List α) (p : Nat) (x : α) : (zcC l p x).map f = zcC (l.map f) p (f x):=by
 unfold zcC; rw [List.map_append,List.map_cons,List.map_take,List.map_drop]
theorem zok {α : Type} (d : α) (es : Array α) : ∀ l : List Nat,(∀ i ∈ l,i < es.size) -> l.filterMap (fun i=>es[i]?) = l.map fun i=>es.toList.getD i d
 | [],_=>rfl
 | i :: l,h=>by
   have hi:=h i (List.mem_cons_self ..)
   rw [List.filterMap_cons,Array.getElem?_eq_getElem hi,List.map_cons,zok d es l fun j hj=>h j (List.mem_cons_of_mem _ hj)]
   dsimp only
   rw [List.getD_eq_getElem?_getD,Array.getElem?_toList,Array.getElem?_eq_getElem hi]
   rfl
theorem zgS {α : Type} (d : α) (l : List α) : (List.range l.length).map (fun i=>l.getD i d) = l:=by
 refine List.ext_getElem (by simp) fun i h1 h2=>?_
 rw [List.getElem_map,List.getElem_range,List.getD_eq_getElem?_getD,List.getElem?_eq_getElem h2]
 rfl
theorem za0.keeps {h h' : Heap} {es : List (Int × Value)} {ks : List (List K)} {d : Addr} {o : Obj} {es0 : Array (Int × Value)} {ep : Nat} {t : SetTable} (x : za0 knd U h es ks) (ho : h.get? d = some o) (hd : o.data = .set es0 ep t) (hs : Heap.SameBut d h h') : za0 knd U h' es ks :=
 ⟨x.1,fun i e k h1 h2=>by obtain ⟨a,e1,e2,e3⟩:=x.2 i e k h1 h2; exact ⟨a,e1,zgH e2 ho hd hs,e3⟩⟩
theorem za0.ins {h : Heap} {es : List (Int × Value)} {ks : List (List K)} (x : za0 knd U h es ks) {p : Nat} (hp : p <= ks.length) {e : Int × Value} {k : List K} (c : Ent knd U h e k) : za0 knd U h (zcC es p e) (zcC ks p k):=by
 have hp' : p <= es.length:=by rw [x.1]; exact hp
 refine ⟨by rw [zc6 e hp',zc6 k hp,x.1],fun i e' k' h1 h2=>?_⟩
 rw [zex e hp'] at h1
 rw [zex k hp] at h2
 split at h1
 . rename_i a; rw [if_pos a] at h2; exact x.2 i e' k' h1 h2
 . rename_i a; rw [if_neg a] at h2
   split at h1
   . rename_i b; rw [if_pos b] at h2
     cases h1; cases h2; exact c
   . rename_i b; rw [if_neg b] at h2; exact x.2 (i - 1) e' k' h1 h2
theorem za0.ord {h : Heap} {es : List (Int × Value)} {ks : List (List K)} (x : za0 knd U h es ks) {l : List Nat} (hl : ∀ i ∈ l,i < es.length) : za0 knd U h (l.map fun i=>es.getD i (0,.none)) (l.map fun i=>ks.getD i []):=by
 refine ⟨by simp,fun i e' k' h1 h2=>?_⟩
 rw [List.getElem?_map] at h1 h2
 cases hi : l[i]? with
 | none=>rw [hi] at h1; cases h1
 | some j =>
   rw [hi] at h1 h2
   cases h1; cases h2
   have hj : j < es.length:=hl j (List.mem_of_getElem? hi)
   have hj' : j < ks.length:=by rw [<- x.1]; exact hj
   refine x.2 j _ _ ?_ ?_
   . dsimp only; rw [List.getD_eq_getElem?_getD,List.getElem?_eq_getElem hj]; rfl
   . dsimp only; rw [List.getD_eq_getElem?_getD,List.getElem?_eq_getElem hj']; rfl
theorem zjY {h : Heap} {a : Addr} {o : Obj} {es : Array (Int × Value)} {ep : Nat} {t : SetTable} (ho : h.get? a = some o) (hd : o.data = .set es ep t) (es' : Array (Int × Value)) (t' : SetTable) :
   (h.update a (Obj.putSet es' t')).get? a = some { o with data:=.set es' (ep + 1) t' }:=by
 have:=Heap.get?_update_self (Obj.putSet es' t') ho (by rw [putSet_of es' t' hd]; rfl)
 rw [putSet_of es' t' hd] at this; exact this
theorem zmZ {a : Addr} {o : Obj} {es : Array (Int × Value)} {ep : Nat} {t : SetTable} {ks : List (List K)} (ho : s.heap.get? a = some o) (hex : o.ExactSet) (hd : o.data = .set es ep t) (b : Tb t (es.toList.map (·.1))) (hpl : t.plain = true)
   (hk : za0 knd U s.heap es.toList ks) (hnd : ks.Nodup) (h1 : 1 <= es.size) (hz : es.size <= 1000) {Q : Unit -> Shared -> Prop} (q : ∀ h' ks',Heap.SameBut a s.heap h' -> TS knd U h' a t.led ks' -> ks'.Perm ks -> Q () { s with heap:=h' }) :
   wpAny (model prog w) A (setRelay a (SetTable.grown es.size)) Q E s:=by
 have hfit : t.fits es.size = true:=by have:=b.fits; rwa [List.length_map,Array.length_toList] at this
 have hg : SetTable.grown es.size = 4 * es.size:=by unfold SetTable.grown; rw [if_neg (by lia),Nat.mul_comm]
 obtain ⟨k2,k3,s1,s2,s3⟩:=zqO (n:=es.size) h1 (by lia)
 unfold setRelay
 rw [hg]
 refine wpAny_bind (wpAny_setState_of ho hd hfit ?_)
 dsimp only
 rw [if_neg (by rw [sizeLine_eq]; lia)]
 obtain ⟨t2,ord,e2,m2,l2,p2,_,op,b2⟩:=znT k3 s1 t.finger (t.movedTo (SetTable.sizeAbove (4 * es.size) - 1)) t.led t.plain (hs:=es.map (·.1)) (by rw [Array.size_map]; lia)
 rw [Array.size_map] at op
 have olt : ∀ i ∈ ord.toList,i < es.size:=fun i hi=>List.mem_range.mp (op.mem_iff.mp hi)
 have e2' : t.relaid (es.map (·.1)) (4 * es.size) = some (t2,ord):=e2
 rw [e2']
 have fe : (ord.filterMap (fun i=>es[i]?)).toList = ord.toList.map fun i=>es.toList.getD i (0,.none):=by
   rw [Array.toList_filterMap]; exact zok _ es _ olt
 have fz : (ord.filterMap (fun i=>es[i]?)).size = es.size:=by
   rw [<- Array.length_toList,fe,List.length_map,op.length_eq,List.length_range]
 refine wpAny_bind ?_
 show wpAny _ _ (if ((ord.filterMap (fun i=>es[i]?)).size != es.size) = true then (unsupported "internal:set-table-lost-an-element" >>= fun _=>pure (ord.filterMap (fun i=>es[i]?),t2)) else pure (ord.filterMap (fun i=>es[i]?),t2)) _ _ _
 rw [if_neg (by rw [fz]; simp)]
 refine wpAny_pure ?_
 refine wpAny_storeSet_of ho hd ?_ (by rw [fz,sizeLine_eq]; lia)
 have hsb:=Heap.SameBut.update s.heap a (Obj.putSet (ord.filterMap (fun i=>es[i]?)) t2)
 have hkk : za0 knd U s.heap (ord.filterMap (fun i=>es[i]?)).toList (ord.toList.map fun i=>ks.getD i []):=by rw [fe]; exact hk.ord fun i hi=>by rw [Array.length_toList]; exact olt i hi
 have pm : (ord.toList.map fun i=>ks.getD i []).Perm ks:=by
   have:=op.map (fun i=>ks.getD i [])
   have hl : es.size = ks.length:=by rw [<- Array.length_toList]; exact hk.1
   rw [hl,zgS] at this
   exact this
 refine q _ (ord.toList.map fun i=>ks.getD i []) hsb ⟨_,_,_,t2,zjY ho hd _ t2,hex,rfl,?_,?_,?_,l2,p2.trans hpl,hkk.keeps ho hd hsb,pm.nodup_iff.mpr hnd⟩ pm
 . rw [fe,List.map_map]
   have : (ord.toList.map ((fun x : Int × Value=>x.1) ∘ fun i=>es.toList.getD i (0,.none))) = ord.toList.map fun k=>(es.map (·.1)).toList.getD k 0:=by
     refine List.map_congr_left fun i hi=>?_
     have:=olt i hi
     show (es.toList.getD i (0,.none)).1 = _
     rw [List.getD_eq_getElem?_getD,List.getD_eq_getElem?_getD,Array.toList_map,List.getElem?_map,Array.getElem?_toList,Array.getElem?_eq_getElem this]
     rfl
   rw [this]; exact b2
 . rw [fz,m2]; lia
 . right; rw [fz,m2]; lia
theorem zpj (hv : ∀ k v,knd.is k v = true -> ∃ i t,v = .int i t) {a xa : Addr} {k : List K} {led : Bool} {ks : List (List K)} (hu : A.units < cLine) (hS : TS knd U s.heap a led ks) (hx : IsTupleKey knd s.heap k xa) (hU : U xa k) (hz : ks.length + 1 <= 1000)
   {Q : Bool -> Shared -> Prop} (q : ∀ h' ks',Heap.SameBut a s.heap h' -> TS knd U h' a led ks' -> (k ∈ ks -> ks' = ks) -> (k ∉ ks -> ks'.Perm (k :: ks)) -> ∀ b,Q b { s with heap:=h' }) :
   wpAny (model prog w) A (setAddHashed a (.ref xa) (tupleKeyHash knd k)) Q E s:=by
 obtain ⟨o,es,ep,t,ho,hex,hd,b,hfew,hmask,hled,hpl,⟨hkl,hke⟩,hnd⟩:=hS
 rw [Array.length_toList] at hkl
 have hfit : t.fits es.size = true:=by have:=b.fits; rwa [List.length_map,Array.length_toList] at this
 have hsz : t.place.size = es.size:=by rw [b.size,List.length_map,Array.length_toList]
 have hent : ∀ i (h : i < es.size),Ent knd U s.heap es[i] (ks[i]'(by lia)):=fun i h=>hke i _ _ (by rw [Array.getElem?_toList,Array.getElem?_eq_getElem h]) (List.getElem?_eq_getElem _)
 unfold setAddHashed setAddHashedIn
 refine wpAny_holding (wpAny_bind (wpAny_setState_of ho hd hfit ?_))
 dsimp only
 rw [show byScan (.ref xa) es = false from rfl]
 simp only [Bool.false_eq_true,if_false]
 obtain ⟨n0,hf0,hE,hF⟩:=b.free (tupleKeyHash knd k)
 have hmm : t.mask <= 8000:=by lia
 refine wpAny_bind (zgL hu hx ho hd b (fun i h=>⟨_,hent i h⟩) n0 hE hF hf0 (fun hy=>?yes) (fun hn=>?no) 100000 0 none (Nat.zero_le _) (by unfold SetTable.turns at hf0; lia) rfl (fun m hm=>absurd hm (Nat.not_lt_zero _)))
 case yes =>
   dsimp only
   obtain ⟨i,hi,he⟩:=hy
   have hk : k ∈ ks:=by rw [he.inj (hent i hi)]; exact List.getElem_mem _
   exact wpAny_pure (q s.heap ks (Heap.SameBut.refl a s.heap) ⟨o,es,ep,t,ho,hex,hd,b,hfew,hmask,hled,hpl,⟨by rw [Array.length_toList]; exact hkl,hke⟩,hnd⟩ (fun _=>rfl) (fun h=>absurd hk h) _)
 case no =>
   dsimp only
   have hk : k ∉ ks:=fun hm=>by
     obtain ⟨i,hi,e⟩:=List.getElem_of_mem hm
     exact hn i (by lia) (e ▸ hent i (by lia))
   refine wpAny_bind (wpAny_setState_of ho hd hfit ?_)
   dsimp only
   obtain ⟨k8,k3,kk⟩:=b.two
   have m7 : 7 <= t.mask:=by
     have : 2 ^ 3 <= 2 ^ k8:=Nat.pow_le_pow_right (by decide) k3
     lia
   obtain ⟨hp,tb⟩:=b.put hE hF (by rw [hsz]; lia)
   rw [List.length_map,Array.length_toList,hkl] at hp
   have q1 : (t.put (way t.mask (start t.mask (tupleKeyHash knd k)) n0).j).1.plain = t.plain:=rfl
   have q2 : (t.put (way t.mask (start t.mask (tupleKeyHash knd k)) n0).j).1.led = t.led:=rfl
   have q3 : (t.put (way t.mask (start t.mask (tupleKeyHash knd k)) n0).j).1.mask = t.mask:=rfl
   generalize (t.put (way t.mask (start t.mask (tupleKeyHash knd k)) n0).j).2 = p at *
   generalize (t.put (way t.mask (start t.mask (tupleKeyHash knd k)) n0).j).1 = t1 at *
   rw [if_pos (q1.trans hpl)]
   refine wpAny_bind (zk6 hv hx ?_)
   simp only [if_true]
   have en : Ent knd U s.heap (tupleKeyHash knd k,.ref xa) k:=⟨xa,rfl,hx,rfl,hU⟩
   have hkk : za0 knd U s.heap (SetTable.insertAt es p (tupleKeyHash knd k,.ref xa)).toList (zcC ks p k):=by
     rw [zbL]; exact za0.ins ⟨by rw [Array.length_toList]; exact hkl,hke⟩ hp en
   have tb' : Tb t1 ((SetTable.insertAt es p (tupleKeyHash knd k,.ref xa)).toList.map (·.1)):=by
     rw [zbL,zmr]; exact tb
   have z1 : (SetTable.insertAt es p (tupleKeyHash knd k,.ref xa)).size = es.size + 1:=by
     rw [<- Array.length_toList,zbL,zc6 _ (by rw [Array.length_toList,hkl]; exact hp),Array.length_toList]
   have pm : (zcC ks p k).Perm (k :: ks):=zkW ks p k
   have nd : (zcC ks p k).Nodup:=pm.nodup_iff.mpr (List.nodup_cons.mpr ⟨hk,hnd⟩)
   refine wpAny_bind (wpAny_storeSet_of ho hd ?_ (by rw [z1,sizeLine_eq]; lia))
   have hsb:=Heap.SameBut.update s.heap a (Obj.putSet (SetTable.insertAt es p (tupleKeyHash knd k,.ref xa)) t1)
   have ho1:=zjY ho hd (SetTable.insertAt es p (tupleKeyHash knd k,.ref xa)) t1
   have pz : t1.fill = es.size + 1:=by
     unfold SetTable.fill
     rw [tb'.dum,tb'.size,List.length_map,Array.length_toList,z1]; rfl
   split
   . refine wpAny_bind ?_
     have:=zmZ (A:=A) (E:=E) (knd:=knd) (s:={ s with heap:=s.heap.update a (Obj.putSet (SetTable.insertAt es p (tupleKeyHash knd k,.ref xa)) t1) }) (ks:=zcC ks p k) ho1 hex rfl tb' (q1.trans hpl) (hkk.keeps ho hd hsb) nd (by rw [z1]; lia) (by rw [z1]; lia)
       (Q:=fun _ s'=>wpAny (model prog w) A (pure true) Q E s') fun h' ks' sb ts pm'=>wpAny_pure (q h' ks' (hsb.trans sb) (by rw [q2,hled] at ts; exact ts) (fun h=>absurd h hk) (fun _=>pm'.trans pm) _)
     rw [z1] at this
     exact this
   . rename_i c
     have c : ¬ t1.tooFull = true:=by simpa using c
     unfold SetTable.tooFull at c
     rw [pz] at c
     refine wpAny_pure (q _ (zcC ks p k) hsb ⟨_,_,_,t1,ho1,hex,rfl,tb',?_,?_,q2.trans hled,q1.trans hpl,hkk.keeps ho hd hsb,nd⟩ (fun h=>absurd h hk) (fun _=>pm) _)
     . rw [z1]
       have : ¬ t1.mask * 3 <= (es.size + 1) * 5:=by simpa using c
       lia
     . rw [z1,q3]; lia
end
section
variable {prog : Program} {w : World} {K : Type} [DecidableEq K] {knd : KeyKind prog w K} {U : Addr -> List K -> Prop}
theorem TS.same {h g : Heap} {S : Addr} {led : Bool} {ks : List (List K)} (x : TS knd U h S led ks) (e : ∀ o,h.get? S = some o -> g.get? S = some o) (f : ∀ k a,IsTupleKey knd h k a -> IsTupleKey knd g k a) : TS knd U g S led ks:=by
 obtain ⟨o,es,ep,t,c1,c2,c3,c4,c5,c6,c7,c8,⟨d1,d2⟩,c9⟩:=x
 refine ⟨o,es,ep,t,e o c1,c2,c3,c4,c5,c6,c7,c8,⟨d1,fun i y k y1 y2=>?_⟩,c9⟩
 obtain ⟨a,z1,z2,z3⟩:=d2 i y k y1 y2
 exact ⟨a,z1,f k a z2,z3⟩
theorem TS.new {h : Heap} {S : Addr} {led : Bool} (e : h.get? S = some { cls:=.type "set",dict:=none,data:=.set #[] 0 (.fresh 0 0 led) }) : TS knd U h S led [] :=
 ⟨_,#[],0,_,e,⟨rfl,rfl,rfl⟩,rfl,⟨fun i j _ hj=>absurd hj (Nat.not_lt_zero _),rfl,rfl,⟨3,Nat.le_refl _,rfl⟩,fun i hi=>absurd hi (Nat.not_lt_zero _),Nat.zero_le _,fun i hi=>absurd hi (Nat.not_lt_zero _)⟩,(by show 0 * 5 < 7 * 3; decide),.inl (Nat.le_refl _),rfl,rfl,⟨rfl,fun i y k y1=>by simp at y1⟩,List.nodup_nil⟩
variable {A : Around} {R : Result -> Shared -> Prop} {I : Addr} {fp wr : List Addr} {G : Array GenState -> Array GenState -> Prop} {n : Nat} {P : Nat -> Value -> Prop} {St : Nat -> Shared -> Prop}
theorem zqi (hv : ∀ k v,knd.is k v = true -> ∃ i t,v = .int i t) (W : WalksS prog w A.in1 I fp wr G n P St) {S : Addr} (hSf : S ∉ fp) (hu : A.units + 1 < cLine) {led : Bool} {key : Nat -> List K} {ad : Nat -> Addr}
   (hval : ∀ i v,P i v -> v = .ref (ad i)) (hI : ∀ i s a k,St i s -> IsTupleKey knd s.heap k a -> a ∉ wr) (hn : n <= 999) (hU : ∀ j,j < n -> U (ad j) (key j)) :
   ∀ (c i : Nat) (s : Shared) (ks : List (List K)),n - i = c -> i <= n -> St i s -> (∀ j,j < n -> IsTupleKey knd s.heap (key j) (ad j)) -> TS knd U s.heap S led ks -> (∀ x,x ∈ ks ↔ ∃ j,j < i /\ key j = x) -> ks.length <= i ->
     (∀ s' ks',Moved (S :: wr) G s s' -> (∀ k a,IsTupleKey knd s.heap k a -> IsTupleKey knd s'.heap k a) -> TS knd U s'.heap S led ks' -> (∀ x,x ∈ ks' ↔ ∃ j,j < n /\ key j = x) -> R (.ok (.ret .none)) s') ->
     codeAny (model prog w) A (.builtin "set.update.loop" ⟨[.ref S,.ref I],[]⟩) R s:=by
 have nw : S ∉ wr:=fun x=>hSf (W.sub _ x)
 intro c
 induction c with
 | zero =>
   intro i s ks ec ei st ht hs hx hl r
   obtain rfl : i = n:=by lia
   refine codeAny_builtin PyProof.Rows.F.entry_set_update_loop ?_
   rw [Around.under_plainId PyProof.Rows.F.plain_set_update_loop _]
   refine wpAny_bind (m:=pyNext (.ref I)) (W.done s _ _ st fun s' mv=>?_)
   have f : ∀ k a,IsTupleKey knd s.heap k a -> IsTupleKey knd s'.heap k a:=fun k a x=>zep x fun o eo=>mv.heap a o (hI i s a k st x) eo
   exact wpAny_pure (r s' ks (mv.mono fun _ q=>.tail _ q) f (hs.same (fun o eo=>mv.heap S o nw eo) f) hx)
 | succ c ih =>
   intro i s ks ec ei st ht hs hx hl r
   have lt : i < n:=by lia
   refine codeAny_builtin PyProof.Rows.F.entry_set_update_loop ?_
   rw [Around.under_plainId PyProof.Rows.F.plain_set_update_loop _]
   refine wpAny_bind (m:=pyNext (.ref I)) (W.item i s _ _ lt st fun v s' pv st' mv=>?_)
   obtain rfl:=hval i v pv
   have f : ∀ k a,IsTupleKey knd s.heap k a -> IsTupleKey knd s'.heap k a:=fun k a x=>zep x fun o eo=>mv.heap a o (hI i s a k st x) eo
   have hs':=hs.same (fun o eo=>mv.heap S o nw eo) f
   refine wpAny_bind (m:=holding [Value.ref (ad i)] (setAdd S (.ref (ad i)))) (wpAny_holding ?_)
   unfold setAdd
   refine wpAny_holding (wpAny_bind (wpAny_pyHash_tuple (by exact hu) (f _ _ (ht i lt)) ?_))
   refine zpj hv (s:={ s' with toks:=s'.toks + ((key i).length + 1) }) (by exact hu) hs' (f _ _ (ht i lt)) (hU i lt) (by lia) fun h2 ks2 sb ts2 y1 y2 b=>?_
   have so:=hs'
   obtain ⟨o9,_,_,_,g1,_,g2,_⟩:=so
   have f2 : ∀ k a,IsTupleKey knd s'.heap k a -> IsTupleKey knd h2 k a:=fun k a x=>zgH x g1 g2 sb
   have zqB : ∀ x,x ∈ ks2 ↔ ∃ j,j < i + 1 /\ key j = x:=fun x=>by
     have old : x ∈ ks2 ↔ x = key i \/ x ∈ ks:=by
       by_cases d : key i ∈ ks
       . rw [y1 d]; exact ⟨.inr,fun q=>q.elim (fun e=>e ▸ d) id⟩
       . rw [(y2 d).mem_iff,List.mem_cons]
     rw [old,hx]
     constructor
     . rintro (rfl | ⟨j,j1,j2⟩)
       . exact ⟨i,by lia,rfl⟩
       . exact ⟨j,by lia,j2⟩
     . rintro ⟨j,j1,j2⟩
       rcases Nat.eq_or_lt_of_le (Nat.le_of_lt_succ j1) with e | e
       . subst e; exact .inl j2.symm
       . exact .inr ⟨j,e,j2⟩
   have len2 : ks2.length <= i + 1:=by
     by_cases d : key i ∈ ks
     . rw [y1 d]; lia
     . rw [(y2 d).length_eq,List.length_cons]; lia
   refine wpAny_pure ⟨plainId_quiet PyProof.Rows.F.plain_set_update_loop _,ih (i + 1) _ ks2 (by lia) lt (W.frame _ s' _ _ st' (Nat.le_add_right _ _) fun z hz o e=>?_) (fun j hj=>f2 _ _ (f _ _ (ht j hj))) ts2 zqB len2 fun s3 ks3 mv3 f3 ts3 m3=>?_⟩
   . rw [sb.2 z (fun q=>hSf (q ▸ hz))]; exact e
   . refine r s3 ks3 (Moved.trans W.gtrans ((mv.mono fun _ q=>.tail _ q).then_heap (Nat.le_add_right _ _) fun z o hz e=>?_) mv3) (fun k a x=>f3 k a (f2 k a (f k a x))) ts3 m3
     rw [sb.2 z (fun q=>hz (q ▸ .head _))]; exact e
end
def za2 (led : Bool) : Obj:={ cls:=.type "set",dict:=none,data:=.set #[] 0 (.fresh 0 0 led) }
def zb9 (w : World) : Bool:=!(w.params.followText "set-order")
section
variable {prog : Program} {w : World} {K : Type} [DecidableEq K] {knd : KeyKind prog w K} {U : Addr -> List K -> Prop} {A : Around} {E : Value -> Shared -> Prop} {s : Shared}
theorem znW (x : Value) {Q : Value -> Shared -> Prop} (q : Q (.ref s.heap.objs.size) { s with heap:=s.heap.push (za2 (zb9 w)) }) :
   codeAny (model prog w) A (.call (.builtin "set.__new__") ⟨[.type "set",x],[]⟩) (wants Q E) s:=by
 refine codeAny_of_tree ?_
 refine wpAny_bind (m:=checkBuiltinCall "set.__new__" ⟨[.type "set",x],[]⟩) (wpAny_of_eq (F.newCall_set_1 x) (wpAny_pure ?_))
 refine ⟨plainId_quiet F.plain_set_new _,codeAny_builtin F.entry_set_new ?_⟩
 rw [Around.under_plainId F.plain_set_new _]
 unfold Builtin.«set.__new__» Builtin.Frozenset.newClass
 have sub:=sub_set_self
 obtain ⟨z1,z2,z3,z4,z5⟩:=s
 dsimp only
 wp_walk
 refine wpAny_askSetting (wpAny_pure ?_)
 dsimp only
 simp only [newObj]
 exact wpAny_bind (wpAny_alloc (wpAny_pure (wpAny_pure q)))
set_option maxHeartbeats 3200000 in
theorem call_setT (hv : ∀ k v,knd.is k v = true -> ∃ i t,v = .int i t) {l : Addr} {its : List Value} {key : Nat -> List K} {ad : Nat -> Addr} (hh : A.handled = none) (hu : A.units + 64 < cLine) (hl : s.heap.IsList l its.toArray)
   (hi : ∀ (i : Nat) v,its[i]? = some v -> v = .ref (ad i)) (hk : ∀ i,i < its.length -> IsTupleKey knd s.heap (key i) (ad i)) (hn : its.length <= 999) (hU : ∀ j,j < its.length -> U (ad j) (key j)) {Q : Value -> Shared -> Prop}
   (q : ∀ (g : Heap) (tk : Nat) (ks : List (List K)),TS knd U g s.heap.objs.size (zb9 w) ks -> (∀ x,x ∈ ks ↔ ∃ j,j < its.length /\ key j = x) -> (∀ b o,s.heap.get? b = some o -> g.get? b = some o) -> Q (.ref s.heap.objs.size) { s with heap:=g,toks:=tk }) :
   wpAny (model prog w) A (call (.type "set") [.ref l]) Q E s:=by
 obtain ⟨c1,c2,mro⟩:=F.called_set.mro
 have f1:=F.called_set.made
 have f2:=F.called_set.sub
 have f3:=F.called_set.notType
 have f4:=F.called_set.canCreate
 have f5:=F.typeCall_set_1 (.ref l)
 refine wpAny_call (codeAny_of_tree (show wpAny _ _ (callAny (.type "set") _) _ _ _ from ?_))
 refine wpAny_pure ⟨Code.quiet_builtin _ (by decide +kernel),codeAny_builtin F.entry_type_call ?_⟩
 rw [Around.under_plain (weight_type_call_type "set" [.ref l] []) rfl]
 repeat (any_goals (first | assumption | wp_step))
 have nd:=znW (prog:=prog) (w:=w) (A:=A.in1) (E:=E) (s:=s) (.ref l) (Q:=fun v s1=>v = .ref s.heap.objs.size /\ s1 = { s with heap:=s.heap.push (za2 (zb9 w)) }) ⟨rfl,rfl⟩
 refine codeAny_mono nd fun r s1 hr=>?_
 cases r with
 | error e=>exact hr
 | ok fl =>
   cases fl with
   | ret obj =>
     obtain ⟨rfl,rfl⟩:=hr
     have gS : (s.heap.push (za2 (zb9 w))).get? s.heap.objs.size = some (za2 (zb9 w)):=Heap.get?_push_size _ rfl
     have tS : Shared.TypeIs { s with heap:=s.heap.push (za2 (zb9 w)) } (.ref s.heap.objs.size) "set":=⟨_,gS,rfl⟩
     have g1:=F.called_set.init.lookup
     have g2:=F.called_set.init.bind (.ref s.heap.objs.size)
     repeat (any_goals (first | assumption | wp_step))
     refine codeAny_mono (codeAny_call_builtin (R:=wants (fun v s2=>v = .none /\ ∃ g tk ks,s2 = { s with heap:=g,toks:=tk } /\ TS knd U g s.heap.objs.size (zb9 w) ks /\ (∀ x,x ∈ ks ↔ ∃ j,j < its.length /\ key j = x) /\ ∀ b o,s.heap.get? b = some o -> g.get? b = some o) E)
       F.called_set.init.plain F.entry_set_init (check_set_init_1 tS ?_)) fun r2 s2 hr2=>?_
     . obtain ⟨ol,e1,e2,nl,e3⟩:=hl
       obtain ⟨y1,y2,y3,y4⟩:=ol
       dsimp only at e2 e3
       subst e2
       subst e3
       have gl : (s.heap.push (za2 (zb9 w))).get? l = some { cls:=.type "list",dict:=y2,data:=.seq its.toArray nl,slots:=y4 }:=Heap.get?_push_of_some _ e1
       have n1:=F.sub_list_set
       have n2:=F.sub_list_frozenset
       have n3 : (Value.type "list" == Value.type "dict") = false:=by decide
       have il : (s.heap.push (za2 (zb9 w))).IsList l its.toArray:=⟨_,gl,rfl,nl,rfl⟩
       unfold Builtin.«set.__init__» noKeywords Builtin.Frozenset.updateFrom
       generalize hPI : pyIter = PI
       wp_walk
       subst hPI
       refine wpAny_pyIter_list il ?_
       refine wpAny_bind (wpAny_runValue ?_)
       have ls : l < s.heap.objs.size:=Heap.lt_size e1
       have zs : (s.heap.push (za2 (zb9 w))).objs.size = s.heap.objs.size + 1:=Heap.size_push ..
       have ne : l ≠ (s.heap.push (za2 (zb9 w))).objs.size:=by rw [zs]; exact Nat.ne_of_lt (Nat.lt_succ_of_lt ls)
       have nf : s.heap.objs.size ∉ [(s.heap.push (za2 (zb9 w))).objs.size,l]:=by
         rw [zs]
         intro hm
         rcases List.mem_cons.mp hm with e | hm
         . exact absurd e (Nat.ne_of_lt (Nat.lt_succ_self _))
         . rcases List.mem_cons.mp hm with e | hm
           . exact absurd e (Nat.ne_of_gt ls)
           . cases hm
       have kp : ∀ b o,s.heap.get? b = some o -> ((s.heap.push (za2 (zb9 w))).push { cls:=.type "list_iterator",data:=.fields #[.ref l,.int 0 0] }).get? b = some o:=fun b o e=>Heap.get?_push_of_some _ (Heap.get?_push_of_some _ e)
       refine zqi hv ((Walks.list (by simp [hh]) _ l ne its.toArray).toS) (S:=s.heap.objs.size) nf (by show A.units + 1 + 1 + 1 < _; lia) (led:=zb9 w) (key:=key) (ad:=ad)
         (fun i v hp=>hi i v (by simpa using hp)) ?hI (by simpa using hn) (fun j hj=>hU j (by simpa using hj)) (its.toArray.size - 0) 0 _ [] rfl (Nat.zero_le _) ⟨⟨_,Heap.get?_push_size _ rfl,rfl,rfl⟩,il.push _⟩
         (fun j hj=>zep (hk j (by simpa using hj)) fun o eo=>kp _ o eo) (TS.new (Heap.get?_push_of_some _ gS)) (fun x=>⟨fun h=>absurd h List.not_mem_nil,fun ⟨j,j1,_⟩=>absurd j1 (Nat.not_lt_zero _)⟩) (Nat.le_refl _) ?fin
       case hI =>
         intro i s9 a9 k9 st9 x9 hm
         obtain ⟨⟨o8,u1,u2,_⟩,_⟩:=st9
         obtain ⟨o9,_,_,v1,v2,_⟩:=x9
         rcases List.mem_cons.mp hm with e | hm
         . subst e
           rw [u1] at v1
           cases v1
           rw [u2] at v2
           exact absurd (Value.type.inj v2) (by decide)
         . cases hm
       case fin =>
         intro s9 ks9 mv f9 ts9 m9
         obtain ⟨g,x1,x2,x3,x4⟩:=s9
         obtain rfl : x1 = s.gens:=mv.gens
         obtain rfl : x2 = s.drawn:=mv.drawn
         obtain rfl : x4 = s.os:=mv.os
         refine wpAny_pure (wpAny_pure ⟨rfl,g,x3,ks9,rfl,ts9,by simpa using m9,fun b o e=>?_⟩)
         have lb : b < s.heap.objs.size:=Heap.lt_size e
         refine mv.heap b o (fun hm=>?_) (kp b o e)
         rcases List.mem_cons.mp hm with e' | hm
         . exact absurd e' (Nat.ne_of_lt lb)
         . rcases List.mem_cons.mp hm with e' | hm
           . rw [zs] at e'; exact absurd e' (Nat.ne_of_lt (Nat.lt_succ_of_lt lb))
           . cases hm
     . cases r2 with
       | error e=>exact hr2
       | ok fl2 =>
         cases fl2 with
         | ret v =>
           obtain ⟨rfl,g,tk,ks,rfl,a1,a2,a3⟩:=hr2
           repeat (any_goals (first | assumption | wp_step))
           exact q g tk ks a1 a2 a3
         | _=>exact hr2.elim
   | _=>exact hr.elim
end
end TB
set_option Elab.async false
set_option linter.all false
set_option maxRecDepth 100000
namespace TB
open PySem PySem.W PyProof.Rows
inductive zc8 {α : Type} (n : Nat) (φ : α -> Prop) : KasT α -> Prop
 | ret {a : α} : φ a -> zc8 n φ (.ret a)
 | ask {i j : Nat} {k : Bool -> KasT α} : i < n -> j < n -> (∀ b,zc8 n φ (k b)) -> zc8 n φ (.ask i j k)
theorem zc8.bind {α β : Type} {n : Nat} {φ : α -> Prop} {ψ : β -> Prop} {t : KasT α} {f : α -> KasT β} (h : zc8 n φ t) (hf : ∀ a,φ a -> zc8 n ψ (f a)) : zc8 n ψ (t.bind f):=by
 induction h with
 | ret h=>exact hf _ h
 | ask h1 h2 _ ih=>exact .ask h1 h2 ih
def Pm (n : Nat) (p : Array Nat) : Prop:=p.toList.Perm (List.range n)
theorem Pm.get {n : Nat} {p : Array Nat} (h : Pm n p) (h1 : 1 <= n) (i : Nat) : p.getD i 0 < n:=by
 rw [Array.getD_eq_getD_getElem?,<- Array.getElem?_toList]
 cases e : p.toList[i]? with
 | none=>exact h1
 | some x=>exact List.mem_range.mp (h.mem_iff.mp (List.mem_of_getElem? e))
theorem Pm.rev {n : Nat} {p : Array Nat} (h : Pm n p) (i j : Nat) : Pm n (kas_rev p i j):=(Array.perm_iff_toList_perm.mp (mirror_perm p i j _)).trans h
theorem Pm.bub {n : Nat} {p : Array Nat} (h : Pm n p) (i j : Nat) : Pm n (bubble p i j):=(Array.perm_iff_toList_perm.mp (bubble_perm p i j)).trans h
section
variable {n : Nat} (h1 : 1 <= n)
include h1
theorem zf7 {p : Array Nat} (h : Pm n p) : ∀ f m,zc8 n (fun _=>True) (kas_asc p f m)
 | 0,_=>.ret trivial
 | f + 1,m=>.ask (h.get h1 _) (h.get h1 _) fun b=>by
   split
   . exact .ret trivial
   . exact zf7 h f (m + 1)
theorem zdA : ∀ f (p : Array Nat) m q,Pm n p -> zc8 n (fun r=>Pm n r.1) (kas_desc f p m q)
 | 0,_,_,_,h=>.ret h
 | f + 1,p,m,q,h=>.ask (h.get h1 _) (h.get h1 _) fun b=>by
   split
   . split
     . exact zdA f _ _ _ (h.rev _ _)
     . exact zdA f _ _ _ h
   . refine .ask (h.get h1 _) (h.get h1 _) fun c=>?_
     split
     . exact .ret h
     . exact zdA f _ _ _ h
theorem zgX {p : Array Nat} (h : Pm n p) (m r : Nat) : zc8 n (fun x=>Pm n x.2) (kas_tail3 m r p):=(zf7 h1 (h.rev 0 m) _ _).bind fun _ _=>.ret (h.rev 0 m)
theorem zgZ {p : Array Nat} (h : Pm n p) (m r : Nat) : zc8 n (fun x=>Pm n x.2) (kas_descPart m r p):=(zdA h1 _ _ _ _ h).bind fun x hx=>by
 split
 . exact zgX h1 (hx.rev _ _) _ _
 . exact zgX h1 hx _ _
theorem zjp {p : Array Nat} (h : Pm n p) (r : Nat) : zc8 n (fun x=>Pm n x.2) (kas_count r p):=(zf7 h1 h _ _).bind fun m _=>by
 split
 . exact .ret h
 . split
   . refine .ask (h.get h1 _) (h.get h1 _) fun b=>?_
     split
     . exact .ret h
     . exact zgZ h1 (h.rev _ _) _ _
   . exact zgZ h1 h _ _
theorem zec {p : Array Nat} (h : Pm n p) (k : Nat) : ∀ f l r,zc8 n (fun _=>True) (kas_place p k f l r)
 | 0,_,_=>.ret trivial
 | f + 1,l,r=>by
   unfold kas_place
   split
   . exact .ret trivial
   . refine .ask (h.get h1 _) (h.get h1 _) fun b=>?_
     split
     . exact zec h k f _ _
     . exact zec h k f _ _
theorem ziS : ∀ f (p : Array Nat) k,Pm n p -> zc8 n (Pm n) (kas_bin f p k)
 | 0,_,_,h=>.ret h
 | f + 1,p,k,h=>(zec h1 h k _ _ _).bind fun l _=>ziS f _ _ (h.bub _ _)
theorem zku : zc8 n (Pm n) (kas_sort n):=(zjp h1 (p:=(List.range n).toArray) (by unfold Pm; simp) n).bind fun x hx=>by
 split
 . exact ziS h1 _ _ _ hx
 . exact .ret hx
end
section
variable {prog : Program} {w : World} {A : Around} {E : Value -> Shared -> Prop} {s : Shared}
def Tw (h : Heap) (v : Value) : Prop:=∃ a o its n x t ys,v = .ref a /\ h.get? a = some o /\ o.cls = .type "tuple" /\ o.data = .seq its n /\ its.toList = .int x t :: ys /\ ∀ y ∈ ys,∃ i u,y = .int i u
theorem Tw.ints {h : Heap} {v : Value} (x : Tw h v) : ∃ a o its n,v = .ref a /\ h.get? a = some o /\ o.cls = .type "tuple" /\ o.data = .seq its n /\ (∃ i t,its[0]? = some (.int i t)) /\ ∀ y ∈ its.toList,∃ i u,y = .int i u:=by
 obtain ⟨a,o,its,n,i,t,ys,h1,h2,h3,h4,h5,h6⟩:=x
 refine ⟨a,o,its,n,h1,h2,h3,h4,⟨i,t,?_⟩,fun y hy=>?_⟩
 . rw [<- Array.getElem?_toList,h5]; rfl
 . rw [h5] at hy
   rcases List.mem_cons.mp hy with e | hy
   . exact ⟨i,t,e⟩
   . exact h6 y hy
theorem zj9 {h : Heap} : ∀ (vs : List Value),(∀ v ∈ vs,Tw h v) -> ∃ fs,KatTups h vs fs /\ fs.length = vs.length /\ ∀ f ∈ fs,∃ i t,f = .int i t
 | [],_=>⟨[],.nil,rfl,fun f hf=>by simp at hf⟩
 | v :: vs,hv=>by
   obtain ⟨fs,h1,h2,h3⟩:=zj9 vs fun u hu=>hv u (.tail _ hu)
   obtain ⟨a,o,its,n,rfl,e1,e2,e3,⟨i,t,e4⟩,_⟩:=(hv v (.head _)).ints
   refine ⟨.int i t :: fs,.cons e1 e2 e3 e4 h1,by simp [h2],fun f hf=>?_⟩
   rcases List.mem_cons.mp hf with e | hf
   . exact ⟨i,t,e⟩
   . exact h3 f hf
end
end TB
set_option Elab.async false
set_option linter.all false
set_option maxRecDepth 100000
namespace TB
open PySem PySem.W PyProof.Rows
structure SetFix (w : World) (h : Heap) (a : Addr) (es : Array (Int × Value)) (ep : Nat) (t : SetTable) : Prop where
 at' : ∃ o,h.get? a = some o /\ o.ExactSet /\ o.data = .set es ep t
 fits : t.fits es.size = true
 size : t.place.size = es.size
 ris : Ris t.place
 plain : t.plain = true
 led : t.led = zb9 w
 few : es.size <= 4000
theorem SetFix.same {w : World} {h g : Heap} {a : Addr} {es : Array (Int × Value)} {ep : Nat} {t : SetTable} (x : SetFix w h a es ep t) (e : ∀ o,h.get? a = some o -> g.get? a = some o) : SetFix w g a es ep t :=
 ⟨let ⟨o,h1,r⟩:=x.at'; ⟨o,e o h1,r⟩,x.fits,x.size,x.ris,x.plain,x.led,x.few⟩
section
variable {prog : Program} {w : World} {A : Around} {E : Value -> Shared -> Prop} {s : Shared} {a : Addr} {es : Array (Int × Value)} {ep : Nat} {t : SetTable}
end
section
variable {prog : Program} {w : World} {A : Around} {E : Value -> Shared -> Prop} {s : Shared} {a it : Addr} {es : Array (Int × Value)} {ep : Nat} {t : SetTable} {i : Nat}
end
end TB
set_option Elab.async false
set_option linter.all false
set_option maxRecDepth 100000
namespace TB
open PySem PySem.W PyProof.Rows
section
variable {prog : Program} {w : World} {A : Around} {E : Value -> Shared -> Prop} {s : Shared}
theorem zlR {a : Addr} {vs : List Value} {n : Nat} {P : PySem.Fin -> Shared -> Prop} (ho : s.heap.get? a = some (seqObj "list" vs.toArray n)) (h2 : vs.length < 2)
   (q : ∀ (g : Heap) (c : Nat),g.get? a = some (seqObj "list" vs.toArray c) -> (∀ b o,b ≠ a -> s.heap.get? b = some o -> g.get? b = some o) -> P (.done (.ret .none)) { s with heap:=g }) :
   wpAny (model prog w) A (Builtin.«list.sort» ⟨[.ref a],[]⟩) P E s:=by
 have sb:=Heap.SameBut.update s.heap a (Obj.mapSeq fun _=>(#[] : Array Value))
 obtain ⟨e1,ho1⟩ : ∃ e1,(s.heap.update a (Obj.mapSeq fun _=>(#[] : Array Value))).get? a = some (seqObj "list" #[] e1):=⟨_,get?_update_seq ho fun _=>#[]⟩
 have kp : ∀ b o,b ≠ a -> s.heap.get? b = some o -> (((s.heap.update a (Obj.mapSeq fun _=>(#[] : Array Value))).push (seqObj "tuple" vs.toArray 0)).push (seqObj "list" #[] 0)).get? b = some o:=fun b o hb e =>
   Heap.get?_push_of_some _ (Heap.get?_push_of_some _ ((sb.2 b hb).trans e))
 have ho3 : (((s.heap.update a (Obj.mapSeq fun _=>(#[] : Array Value))).push (seqObj "tuple" vs.toArray 0)).push (seqObj "list" #[] 0)).get? a = some (seqObj "list" #[] e1):=Heap.get?_push_of_some _ (Heap.get?_push_of_some _ ho1)
 have nz : vs.toArray.size < 2:=by rw [List.size_toArray]; lia
 rw [list_sort_plain]
 refine wpAny_bind (listItems_at ho rfl ?_)
 refine wpAny_bind (listUpdate_at ho rfl ?_ (by rw [List.size_toArray,sizeLine_eq]; lia) (Nat.zero_le _))
 refine wpAny_bind (seqEpoch_at ho1 rfl ?_)
 refine wpAny_bind (wpAny_newTuple ?_ (by show vs.length <= _; rw [sizeLine_eq]; lia))
 refine wpAny_bind (wpAny_newList ?_ (Nat.zero_le _))
 refine wpAny_holding ?_
 show wpAny (model prog w) A _ P E { s with heap:=((s.heap.update a (Obj.mapSeq fun _=>(#[] : Array Value))).push (seqObj "tuple" vs.toArray 0)).push (seqObj "list" #[] 0) }
 dsimp only
 rw [if_pos nz,if_pos nz]
 generalize ((s.heap.update a (Obj.mapSeq fun _=>(#[] : Array Value))).push (seqObj "tuple" vs.toArray 0)).push (seqObj "list" #[] 0) = g at *
 refine wpAny_bind (wpAny_pure ?_)
 rw [StateT.run_pure]
 refine wpAny_bind (wpAny_pure ?_)
 dsimp only
 have es : (arrOf (SortSt.mk' general' (vs.toArray.zip vs.toArray) #[] 7 none)).map (·.2) = vs.toArray:=by
   show (vs.toArray.zip vs.toArray).map (·.2) = vs.toArray
   apply Array.ext'
   simp [List.map_snd_zip]
 rw [es]
 refine wpAny_bind (seqEpoch_at (s:={ s with heap:=g }) ho3 rfl ?_)
 refine wpAny_bind (listUpdate_at (s:={ s with heap:=g }) ho3 rfl ?_ (Nat.zero_le _) (by rw [List.size_toArray,sizeLine_eq]; lia))
 simp only [bne_self_eq_false,Bool.false_eq_true,if_false]
 have sb2:=Heap.SameBut.update g a (Obj.mapSeq fun _=>vs.toArray)
 refine wpAny_pure (q _ _ (get?_update_seq ho3 fun _=>vs.toArray) fun b o hb e=>(sb2.2 b hb).trans (kp b o hb e))
end
end TB
namespace L2
open PySem PySem.Spec PyProof.Rows GM
def SetO (w : World) (a : Addr) (ws : List V) : HO:=.ext fun h=>∃ es ep t,TB.SetFix w h a es ep t /\ zak ws (es.toList.map (·.2))
def TpI (K : PySem.W.Frag) (H : Hp) (v : V) (k : List Int) : Prop:=∃ q,v = .ref q /\ SqT K H q (k.map V.int)
theorem items_int {P : Program} {w : World} : ∀ {us : List Value} {ns : List Int},IntsAre us ns -> ItemsAre (intKind P w) ns us
 | _,_,.nil=>.nil
 | _,_,.cons n t r=>.cons (by show Value.isInt n (Value.int n t) = true; simp [Value.isInt]) (items_int r)
theorem zkG {P : Program} {w : World} (k : Int) (v : Value) (h : (intKind P w).is k v = true) : ∃ i t,v = .int i t:=by
 have h : Value.isInt k v = true:=h
 cases v with
 | int i t=>exact ⟨i,t,rfl⟩
 | _=>exact absurd h (by simp [Value.isInt])
theorem Inv.key {X : Cx} {pins : List (Addr × Obj)} {σ : List (Option V)} {H : Hp} {s : Shared} (I : Inv X pins σ H s) {q : Addr} {k : List Int} (h : SqT X.K H q (k.map V.int)) : IsTupleKey (intKind X.prog X.w) s.heap k q:=by
 obtain ⟨its,r,⟨o,e,hc,n,hd⟩,_⟩:=I.tuple h
 exact ⟨o,its.toArray,n,e,hc,hd,items_int (zc0 r)⟩
def zmO (K : PySem.W.Frag) (w : World) : List V -> Hp -> VK -> Prop:=fun xs H Q=>∃ (p : Addr) (vs : List V) (key : Nat -> List Int),xs = [.ref p] /\ SqL K H p vs /\ vs.length <= 999 /\ (∀ j v,vs[j]? = some v -> TpI K H v (key j)) /\
 ∀ (l : Addr) (ws : List V) (ks : List (List Int)),H l = none -> ws.length = ks.length -> (∀ (i : Nat) (v : V) (k : List Int),ws[i]? = some v -> ks[i]? = some k -> TpI K H v k) -> ks.Nodup -> (∀ x,x ∈ ks ↔ ∃ j,j < vs.length /\ key j = x) ->
   Q (.ref l) (upd H l (SetO w l ws))
theorem zg1 : ∀ {ws : List V} {us : List Value},zak ws us -> ∀ {i : Nat} {q : Addr},ws[i]? = some (.ref q) -> us[i]? = some (.ref q)
 | _,_,.nil,i,q,h=>by simp at h
 | _,_,.cons r1 r2,0,q,h=>by
   simp only [List.getElem?_cons_zero,Option.some.injEq] at h ⊢
   subst h
   exact r1
 | _,_,.cons r1 r2,i + 1,q,h=>by
   simp only [List.getElem?_cons_succ] at h ⊢
   exact zg1 r2 h
def zkO : Value -> V
 | .ref a=>.ref a
 | _=>.non
theorem zcp : ∀ (us : List Value),(∀ u ∈ us,∃ a,u = .ref a) -> zak (us.map zkO) us
 | [],_=>.nil
 | u :: us,h=>by
   obtain ⟨a,rfl⟩:=h u (List.mem_cons_self ..)
   exact .cons rfl (zcp us fun u hu=>h u (List.mem_cons_of_mem _ hu))
theorem zhl (es : List (Int × Value)) (h : ∀ e ∈ es,∃ a,e.2 = .ref a) : zak (es.map fun e=>zkO e.2) (es.map (·.2)):=by
 have:=zcp (es.map (·.2)) fun u hu=>by
   obtain ⟨e,he,rfl⟩:=List.mem_map.mp hu
   exact h e he
 rwa [List.map_map] at this
theorem zid {α : Type} [DecidableEq α] : ∀ {ks l : List α},ks.Nodup -> (∀ x ∈ ks,x ∈ l) -> ks.length <= l.length
 | [],l,_,_=>Nat.zero_le _
 | k :: ks,l,h,hs=>by
   rw [List.nodup_cons] at h
   have hk:=hs k (List.mem_cons_self ..)
   have:=zid (l:=l.erase k) h.2 fun x hx=>(List.mem_erase_of_ne (fun e=>h.1 (by rw [<- e]; exact hx))).mpr (hs x (List.mem_cons_of_mem _ hx))
   rw [List.length_erase_of_mem hk] at this
   have:=List.length_pos_of_mem hk
   rw [List.length_cons]
   lia
theorem Paired.back {α β : Type} {R : α -> β -> Prop} : ∀ {xs : List α} {us : List β},Paired R xs us -> ∀ {i : Nat} {u : β},us[i]? = some u -> ∃ x,xs[i]? = some x /\ R x u
 | _,_,.nil,i,u,h=>by simp at h
 | _,_,.cons r1 r2,0,u,h=>by
   simp only [List.getElem?_cons_zero,Option.some.injEq] at h ⊢
   subst h
   exact ⟨_,rfl,r1⟩
 | _,_,.cons r1 r2,i + 1,u,h=>by
   simp only [List.getElem?_cons_succ] at h ⊢
   exact Paired.back r2 h
theorem zjw {X : Cx} (hu : X.A.units + 64 < cLine) (hc : X.calm = true) : zah X (.type "set") (zmO X.K X.w):=by
 intro pins s σ H xs us Q I r h
 obtain ⟨p,vs,key,rfl,hq,hn,hk,q⟩:=h
 obtain ⟨u,rfl,rx⟩:=zcD r
 cases rx
 obtain ⟨its,r',pl,hz⟩:=I.list hq
 have hlen:=r'.length
 have hx : ∀ j : Nat,∃ ad : Addr,∀ v,vs[j]? = some v -> v = .ref ad /\ SqT X.K H ad ((key j).map V.int):=fun j=>by
   cases e : vs[j]? with
   | none=>exact ⟨0,fun v h=>by cases h⟩
   | some v =>
     obtain ⟨ad,h1,h2⟩:=hk j v e
     exact ⟨ad,fun v' h=>by cases h; exact ⟨h1,h2⟩⟩
 obtain ⟨ad,had⟩ : ∃ ad : Nat -> Addr,∀ j v,vs[j]? = some v -> v = .ref (ad j) /\ SqT X.K H (ad j) ((key j).map V.int):=⟨fun j=>(hx j).choose,fun j=>(hx j).choose_spec⟩
 have hg : ∀ j,j < its.length -> ∃ v,vs[j]? = some v:=fun j hj=>⟨vs[j]'(by lia),List.getElem?_eq_getElem _⟩
 refine TB.call_setT (knd:=intKind X.prog X.w) (U:=fun a k=>SqT X.K H a (k.map V.int)) zkG (key:=key) (ad:=ad) (I.ok.hd hc) hu pl.isList (fun j v hv=>?_) (fun j hj=>?_) (by lia) (fun j hj=>?_) fun g tk ks hS hm kp=>?_
 . obtain ⟨v',hv'⟩:=hg j (by rcases Nat.lt_or_ge j its.length with h | h; exact h; rw [List.getElem?_eq_none h] at hv; cases hv)
   obtain ⟨rfl,_⟩:=had j v' hv'
   have:=zg1 r' hv'
   rw [hv] at this
   exact Option.some.inj this
 . obtain ⟨v',hv'⟩:=hg j hj
   exact I.key (had j v' hv').2
 . obtain ⟨v',hv'⟩:=hg j hj
   exact (had j v' hv').2
 . obtain ⟨o,es,ep,t,e1,e2,e3,e4,e5,e6,e7,e8,e9,e10⟩:=hS
   obtain ⟨f1,f2⟩:=e9
   have kl : ks.length <= 999:=Nat.le_trans (zid e10 (l:=(List.range its.length).map key) fun x hx=>by
     obtain ⟨j,h1,h2⟩:=(hm x).mp hx
     exact List.mem_map.mpr ⟨j,List.mem_range.mpr h1,h2⟩) (by rw [List.length_map,List.length_range]; lia)
   have hz' : es.size = ks.length:=by rw [<- f1,Array.length_toList]
   have hr : ∀ e ∈ es.toList,∃ a,e.2 = .ref a:=fun e he=>by
     obtain ⟨i,hi⟩:=List.mem_iff_getElem?.mp he
     obtain ⟨k,hk'⟩ : ∃ k,ks[i]? = some k:=⟨_,List.getElem?_eq_getElem (by rw [<- f1]; exact (List.getElem?_eq_some_iff.mp hi).1)⟩
     obtain ⟨a,h1,_⟩:=f2 i e k hi hk'
     exact ⟨a,h1⟩
   refine ⟨.ref s.heap.objs.size,_,I.laid (t':=tk) kp (Nat.le_refl _) (show zbe X.prog X.w _ _ _ (SetO X.w s.heap.objs.size (es.toList.map fun e=>zkO e.2)) from ⟨⟨es,ep,t,⟨⟨o,e1,e2,e3⟩,?_,?_,e4.ris,e8,e7,by lia⟩,?_⟩,⟨o,e1⟩,?_⟩),rfl,
     q _ _ ks (I.hok.fresh (Nat.le_refl _)) (by rw [List.length_map]; exact f1) (fun i v k hv hk'=>?_) e10 fun x=>by rw [hlen]; exact hm x⟩
   . have:=e4.fits
     rwa [List.length_map,Array.length_toList] at this
   . rw [e4.size,List.length_map,Array.length_toList]
   . exact zhl _ hr
   . rintro h1 h2 ⟨es',ep',t',a1,a2⟩ hh
     exact ⟨es',ep',t',a1.same hh,a2⟩
   . rw [List.getElem?_map] at hv
     cases e : es.toList[i]? with
     | none=>rw [e] at hv; cases hv
     | some x =>
       rw [e] at hv
       cases hv
       obtain ⟨a,h1,_,_,h2⟩:=f2 i x k e hk'
       exact ⟨a,by show zkO x.2 = _; rw [h1]; rfl,h2⟩
def zoo (w : World) : List V -> Hp -> VK -> Prop:=fun xs H Q=>∃ (p : Addr) (ws : List V),xs = [.ref p] /\ H p = some (SetO w p ws) /\ Q (.int (ws.length : Int)) H
theorem zld {X : Cx} : zah X (.builtin "len") (zoo X.w):=by
 intro pins s σ H xs us Q I r h
 obtain ⟨p,ws,rfl,hp,q⟩:=h
 obtain ⟨u,rfl,rx⟩:=zcD r
 cases rx
 obtain ⟨⟨es,ep,t,y,r'⟩,_,_⟩:=I.hok p _ hp
 obtain ⟨o,h1,h2,h3⟩:=y.at'
 have hl : ws.length = es.size:=by have:=r'.length; simpa using this
 have:=y.few
 exact PySem.call_len_set h1 h2 h3 y.fits (by lia) ⟨.int (ws.length : Int),H,I.tok _,⟨s.toks + 1,by rw [hl]⟩,q⟩
end L2
set_option Elab.async false
set_option linter.all false
set_option maxRecDepth 100000
namespace TB
open PySem PySem.W PyProof.Rows MeetsSeq
section
variable {prog : Program} {w : World} {A : Around} {s : Shared} {R : Result -> Shared -> Prop}
end
end TB
namespace L2
open PySem PySem.Spec PyProof.Rows GM
end L2
namespace L2
open PySem PySem.Spec PyProof.Rows GM
section
variable {K : PySem.W.Frag} {w : World} {H H' : Hp} {Q : VK} {v : V} {p l : Addr} {xs ys : List Rat} {us ws : List V}
end
end L2
set_option Elab.async false
set_option linter.all false
set_option maxRecDepth 100000
namespace L2
open PySem PySem.Spec PyProof.Rows GM
structure Rp (n m : Nat) (d : PyData) : Prop where
 sh : Sh n d
 si : d.showable = true
 is : d.intsShort 13 = true
 wt : d.weight <= m
theorem zdH {n : Nat} (h : n < 1000000) : n.log2 <= 20:=by
 by_cases h0 : n = 0
 . rw [h0]; decide
 . have := (Nat.log2_lt h0 (k := 20)).mpr (by have e : (2 : Nat) ^ 20 = 1048576 := by decide
                                              omega)
   omega
theorem zpQ {i : Int} (h : i.natAbs < 1000000) : Rp 1 21 (.int i) where
 sh:=zo0 i
 si:=by
   rw [PyData.showable,decide_eq_true_eq]
   have:=zdH h
   omega
 is:=by
   rw [PyData.intsShort,decide_eq_true_eq]
   exact PyData.shown_int_le (Nat.lt_of_lt_of_le h (by decide))
 wt:=by
   rw [PyData.weight]
   have:=zdH h
   split <;> omega
theorem Rp.mono {n m k l : Nat} {d : PyData} (h : Rp n m d) (a : n <= k) (b : m <= l) : Rp k l d:=⟨h.sh.mono a,h.si,h.is,Nat.le_trans h.wt b⟩
theorem zi6 {n m : Nat} : ∀ {ds : List PyData},(∀ d ∈ ds,Rp n m d) -> PyData.showableAll ds = true /\ PyData.intsShortAll 13 ds = true /\ PyData.weightAll ds <= (m + 1) * ds.length
 | [],_=>⟨rfl,rfl,by simp [PyData.weightAll]⟩
 | d :: ds,h=>by
   obtain ⟨h1,h2,h3⟩:=zi6 fun e he=>h e (List.mem_cons_of_mem _ he)
   have hd:=h d (List.mem_cons_self ..)
   refine ⟨by rw [PyData.showableAll,hd.si,h1]; rfl,by rw [PyData.intsShortAll,hd.is,h2]; rfl,?_⟩
   have:=hd.wt
   rw [PyData.weightAll,List.length_cons,Nat.mul_add,Nat.mul_one]
   omega
theorem zjg {n m k : Nat} {ds : List PyData} (h : ∀ d ∈ ds,Rp n m d) (z : ds.length <= k) : Rp (n + 1) ((m + 1) * k) (.tuple ds):=by
 obtain ⟨h1,h2,h3⟩:=zi6 h
 exact ⟨zo3 fun d hd=>(h d hd).sh,by rw [PyData.showable]; exact h1,by rw [PyData.intsShort]; exact h2,by rw [PyData.weight]; exact Nat.le_trans h3 (Nat.mul_le_mul_left _ z)⟩
theorem zjb {n m k : Nat} {ds : List PyData} (h : ∀ d ∈ ds,Rp n m d) (z : ds.length <= k) : Rp (n + 1) ((m + 1) * k) (.list ds):=by
 obtain ⟨h1,h2,h3⟩:=zi6 h
 exact ⟨zmn fun d hd=>(h d hd).sh,by rw [PyData.showable]; exact h1,by rw [PyData.intsShort]; exact h2,by rw [PyData.weight]; exact Nat.le_trans h3 (Nat.mul_le_mul_left _ z)⟩
def zo2 : PyData -> Bool
 | .tuple _=>true
 | .list _=>true
 | _=>false
def zjT (K : PySem.W.Frag) : List V -> Hp -> VK -> Prop:=fun xs H Q=>∃ v d,xs = [v] /\ Is K H v d /\ zo2 d = true /\ Rp 60 (2 ^ 20) d /\ Q (.str d.shown) H
theorem zkf : bootBuiltins "repr" = some (.builtin "repr"):=by decide +kernel
theorem znE {K : PySem.W.Frag} {H : Hp} {v : V} {d : PyData} (h : Is K H v d) (s : zo2 d = true) : ∃ a,v = .ref a:=by
 cases d with
 | tuple ds=>obtain ⟨a,_,e,_⟩:=zaC.mp h; exact ⟨a,e⟩
 | list ds=>obtain ⟨a,_,e,_⟩:=zav.mp h; exact ⟨a,e⟩
 | _=>cases s
theorem zfQ {X : Cx} (hg : X.A.guards = some []) (hu : X.A.units + 64 < cLine) : zah X (.builtin "repr") (zjT X.K):=by
 intro pins s σ H xs us Q I r h
 obtain ⟨v,d,rfl,hd,sq,rp,q⟩:=h
 obtain ⟨u,rfl,rx⟩:=zcD r
 obtain ⟨a,rfl⟩:=znE hd sq
 obtain ⟨as,h1⟩:=I.reads d _ u rp.sh.1 hd rx
 cases rx
 have hdp:=rp.sh.2
 refine repr_of_reads' h1 rp.si (PyData.noDict_hsm (PyData.hasDict_of_canLay d rp.sh.1)) hg (by omega) (fun b o e=>e) (fun h' u tk hk=>⟨.str d.shown,H,I.kept (t':=tk) hk,⟨_,rfl⟩,q⟩) ?_
 exact PyData.shown_fits (B:=13) (by decide) (by decide) (PyData.leavesShort_of_canLay0 13 d rp.sh.1 rp.is) rp.wt
section
variable {K : PySem.W.Frag} {H : Hp} {Q : VK} {v : V} {d : PyData} {x y : Str}
theorem zj8 {n m : Nat} (h : Is K H v d) (s : zo2 d = true) (r : Rp n m d) (hn : n <= 60) (hm : m <= 2 ^ 20) (q : Q (.str d.shown) H) : zjT K [v] H Q:=⟨v,d,rfl,h,s,r.mono hn hm,q⟩
theorem zpo (q : Q (.bl (!decide (V.str x = V.str y))) H) : rNe (.str x) (.str y) H Q:=⟨rfl,q⟩
theorem zjO (q : Q (.bl false) H) : rNe (.str x) (.str x) H Q:=zpo (by rw [decide_eq_true rfl]; exact q)
end
end L2
set_option Elab.async false
set_option linter.all false
set_option maxRecDepth 100000
namespace L2
open PySem PySem.Spec PyProof.Rows GM
section
variable {K : PySem.W.Frag} {H : Hp} {Q : VK} {v : V} {ds : List PyData} {k : Int}
end
end L2
set_option Elab.async false
set_option linter.all false
set_option maxRecDepth 100000
namespace TB
open PySem PySem.W PyProof.Rows
section
variable {prog : Program} {w : World} {A : Around} {E : Value -> Shared -> Prop} {s : Shared}
end
end TB
namespace L2
open PySem PySem.Spec PyProof.Rows GM
end L2
set_option Elab.async false
set_option linter.all false
set_option maxRecDepth 100000
namespace L2
open PySem PySem.Spec PyProof.Rows GM
def zlk (K : PySem.W.Frag) (ta : TA) : TI:=fun σ H R=>ta σ H fun vs H1=>∃ t u a b,vs = [.ref a,.ref b] /\ (∃ xs,SqK t K H1 a xs) /\ (∃ ys,SqK u K H1 b ys) /\ R (Itz t u K a b) H1
theorem zfA {X : Cx} {elts : List Expr} {k1} {tpos p pos : Pos} {l m : Expr} {ta : TA} (hg : Gl X "zip") (hm : X.mg "zip" = none) (ha : PA X [l,m] ta) (hs : starEach [l,m] X.env = [(false,eval l X.env),(false,eval m X.env)]:=by rfl) (hs2 : starEach [m] X.env = [(false,eval m X.env)]:=by rfl) :
   PI X (.Tuple elts k1 tpos) (.Call (.Name "zip" p) [l,m] [] pos) (zlk X.K ta):=by
 intro pins s σ H R I h
 refine Call_ (zfV I hg hm zpJ (PyProof.Rows.callWith_type1 (thn (ha pos pins s σ H _ I h) fun us s1 ⟨vs,H1,I1,r1,q1⟩=>?_) (by rw [hs,hs2]) (by rw [hs2]; rfl)))
 obtain ⟨t,u,a,b,rfl,⟨xs,hq1⟩,⟨ys,hq2⟩,q⟩:=q1
 obtain ⟨u',v,rfl,ru,rv⟩:=ziW r1
 cases ru
 cases rv
 obtain ⟨its,_,p1⟩:=I1.seqK hq1
 obtain ⟨jts,_,p2⟩:=I1.seqK hq2
 cases t with
 | true =>
   have la : a < s1.heap.objs.size:=by obtain ⟨o,e,_⟩:=(show s1.heap.IsTuple a its.toArray from p1); exact Heap.lt_size e
   cases u with
   | true =>
     have lb : b < s1.heap.objs.size:=by obtain ⟨o,e,_⟩:=(show s1.heap.IsTuple b jts.toArray from p2); exact Heap.lt_size e
     exact zk7 p1 p2 fun h' hz hi ho t1 t2 kp=>zhN (t:=true) (u:=true) I1 la lb hz hi ho t1 t2 kp q
   | false =>
     have lb : b < s1.heap.objs.size:=by obtain ⟨o,e,_⟩:=(show s1.heap.IsList b jts.toArray from p2); exact Heap.lt_size e
     exact zk0 p1 p2 fun h' hz hi ho t1 t2 kp=>zhN (t:=true) (u:=false) I1 la lb hz hi ho t1 t2 kp q
 | false =>
   have la : a < s1.heap.objs.size:=by obtain ⟨o,e,_⟩:=(show s1.heap.IsList a its.toArray from p1); exact Heap.lt_size e
   cases u with
   | true =>
     have lb : b < s1.heap.objs.size:=by obtain ⟨o,e,_⟩:=(show s1.heap.IsTuple b jts.toArray from p2); exact Heap.lt_size e
     exact zlg p1 p2 fun h' hz hi ho t1 t2 kp=>zhN (t:=false) (u:=true) I1 la lb hz hi ho t1 t2 kp q
   | false =>
     have lb : b < s1.heap.objs.size:=by obtain ⟨o,e,_⟩:=(show s1.heap.IsList b jts.toArray from p2); exact Heap.lt_size e
     exact call_zip_2 p1 p2 fun h' hz hi ho t1 t2 _ kp=>zhN (t:=false) (u:=false) I1 la lb hz hi ho t1 t2 kp q
section
variable {K : PySem.W.Frag} {g : TG} {tt : TT} {te : TE} {tb : TS} {ta : TA} {D : zb3} {src : List (Option Nat)} {σ : L2.St} {H : Hp} {Q : VK}
theorem zkB (h : ta σ H fun vs H1=>∃ t u,zkg t u K g tt te src σ vs H1 Q) : zfh src (zlk K ta) g tt te σ H Q:=by
 refine (show ta σ H _ from ?_)
 have e : (fun vs H1=>∃ t u,zkg t u K g tt te src σ vs H1 Q) = fun vs H1=>∃ t u a b,vs = [.ref a,.ref b] /\ (∃ xs,SqK t K H1 a xs) /\ (∃ ys,SqK u K H1 b ys) /\ ∀ D,H1 D = none -> zcL g tt te (Itz t u K a b) D (zas src σ) (upd H1 D (.lst [])) (fun H'=>Q (.ref D) H'):=rfl
 rw [e] at h
 exact h
theorem zmb (h : ta σ H fun vs H1=>∃ t u,zqv t u K g tb D σ vs H1) : znp (zlk K ta) g tb D σ H:=h
theorem zmL {v : V} {ds : List PyData} (h : Is K H v (.list ds) \/ Is K H v (.tuple ds)) : ∃ t a us,v = .ref a /\ SqK t K H a us /\ IsAll K H us ds:=by
 rcases h with h | h
 . obtain ⟨a,xs,e,hs,t⟩:=zav.mp h
   exact ⟨false,a,xs,e,hs,t⟩
 . obtain ⟨a,xs,e,hs,t⟩:=zaC.mp h
   exact ⟨true,a,xs,e,hs,t⟩
end
end L2
set_option Elab.async false
set_option linter.all false
set_option maxRecDepth 100000
namespace GM
def zoG (c : Int) (u : List Int) : Nat -> Int -> Int
 | 0,p=>p
 | k + 1,p=>if c <= p then p else zoG c u k (p + u.getD p.toNat 0)
def zeC (n : Nat) (t : List Int) : Prop:=∃ a b d : Nat,t = [(a : Int),(b : Int),(d : Int)] /\ a < n /\ b < n /\ a ≠ b /\ d <= 4
structure zbJ (rs : List Int) (us ts : List (List Int)) : Prop where
 n1 : 1 <= rs.length
 n8 : rs.length <= 8
 r : ∀ r ∈ rs,1 <= r /\ r <= 60
 ul : us.length = rs.length
 u : ∀ i,i < rs.length -> ((us.getD i []).length : Int) = rs.getD i 0 /\ ∀ x ∈ us.getD i [],0 <= x /\ x <= 60
 tl : ts.length <= 60
 t : ∀ t ∈ ts,zeC rs.length t
 nd : ts.Nodup
theorem zbJ.perm {rs : List Int} {us ts ts' : List (List Int)} (w : zbJ rs us ts) (p : ts'.Perm ts) : zbJ rs us ts' :=
 ⟨w.n1,w.n8,w.r,w.ul,w.u,by rw [p.length_eq]; exact w.tl,fun t ht=>w.t t (p.mem_iff.mp ht),p.nodup_iff.mpr w.nd⟩
theorem zbJ.ri {rs : List Int} {us ts : List (List Int)} (w : zbJ rs us ts) {i : Nat} (h : i < rs.length) : 1 <= rs.getD i 0 /\ rs.getD i 0 <= 60:=by
 rw [List.getD_eq_getElem?_getD,List.getElem?_eq_getElem h]
 exact w.r _ (List.getElem_mem h)
def zrj (g : List Nat) (w d : Nat) (t : List Int) : Bool:=decide ((t.getD 0 0).toNat ∈ g) && (decide (t.getD 1 0 = (w : Int)) && decide (t.getD 2 0 = (d : Int)))
def zrg (ts : List (List Int)) (g : List Nat) (w d : Nat) : Nat:=(ts.filter (zrj g w d)).length
section
variable (rs : List Int) (us ts : List (List Int)) (ps cs : List Int)
def phG (g : List Nat) (w : Nat) : Int:=zoG (rs.getD w 0) (us.getD w []) ((cs.getD w 0).toNat + zrg ts g w 0) (ps.getD w 0 + 1)
def fresh (g : List Nat) : List Nat:=(List.range rs.length).filter fun w=>!decide (w ∈ g) && decide (rs.getD w 0 <= phG rs us ts ps cs g w)
def zjj : Nat -> List Nat -> List (List Nat)
 | 0,_=>[]
 | f + 1,g=>if fresh rs us ts ps cs g = [] then [] else fresh rs us ts ps cs g :: zjj f (g ++ fresh rs us ts ps cs g)
def zm3 : Nat -> List Nat -> List Nat
 | 0,g=>g
 | f + 1,g=>if fresh rs us ts ps cs g = [] then g else zm3 f (g ++ fresh rs us ts ps cs g)
end
section
variable {rs : List Int} {us ts : List (List Int)} {ps cs : List Int}
structure zrd (n : Nat) (g : List Nat) : Prop where
 nd : g.Nodup
 lt : ∀ w ∈ g,w < n
end
section
variable (rs : List Int) (us ts : List (List Int)) (ps cs : List Int)
structure Run (f : Nat) (g : List Nat) (acc : List (List Nat)) : Prop where
 go : zrd rs.length g
 fl : rs.length < f + g.length
 ws : acc ++ zjj rs us ts ps cs f g = zjj rs us ts ps cs 9 []
 ge : zm3 rs us ts ps cs f g = zm3 rs us ts ps cs 9 []
end
section
variable {rs : List Int} {us ts : List (List Int)} {ps cs : List Int} {f : Nat} {g : List Nat} {acc : List (List Nat)}
end
section
variable (rs : List Int) (us ts : List (List Int)) (ps : List Int) (cm : List (List Int))
end
structure zru (rs : List Int) (ps : List Int) (cm : List (List Int)) : Prop where
 pl : ps.length = rs.length
 p : ∀ i,i < rs.length -> 0 <= ps.getD i 0 /\ ps.getD i 0 < rs.getD i 0
 cl : cm.length = 4
 c : ∀ d,d < 4 -> (cm.getD d []).length = rs.length /\ ∀ i,i < rs.length -> 0 <= (cm.getD d []).getD i 0 /\ (cm.getD d []).getD i 0 <= 240 - 60 * (d : Int)
section
variable {rs : List Int} {us ts : List (List Int)} {ps : List Int} {cm : List (List Int)}
end
end GM
namespace L2
open PySem PySem.Spec PyProof.Rows GM
def TTr (rows : List (List Int)) : PyData:=.tuple (rows.map TZ)
def zdQ (rs : List Int) (us ts : List (List Int)) : PyData:=.tuple [TZ rs,TTr us,TTr ts]
theorem zaX : ∀ rows : List (List Int),ImmAll (rows.map TZ) = true
 | []=>by simp [ImmAll]
 | x :: xs=>by rw [List.map_cons,ImmAll,zej,zaX xs]; rfl
theorem zhu (rows : List (List Int)) : Imm (TTr rows) = true:=by rw [TTr,Imm]; exact zaX rows
theorem zlw (rs : List Int) (us ts : List (List Int)) : Imm (zdQ rs us ts) = true:=by rw [zdQ,Imm,ImmAll,ImmAll,ImmAll,ImmAll,zej,zhu,zhu]; rfl
section
variable {K : PySem.W.Frag} {H H' : Hp} {Q : VK} {v : V} {rs ps : List Int} {us ts cm rows : List (List Int)} {m : Int} {ws : List (List Nat)}
theorem zhw (h : Is K H v (zdQ rs us ts)) (q : ∀ x,Is K H x (TZ rs) -> Q x H) : rIx K v (.int 0) H Q:=zi1 (j:=0) h rfl q
theorem zhJ (h : Is K H v (zdQ rs us ts)) (q : ∀ x,Is K H x (TTr us) -> Q x H) : rIx K v (.int 1) H Q:=zi1 (j:=1) h rfl q
theorem zhK (h : Is K H v (zdQ rs us ts)) (q : ∀ x,Is K H x (TTr ts) -> Q x H) : rIx K v (.int 2) H Q:=zi1 (j:=2) h rfl q
end
theorem zm4 {α : Type} {l : List α} {x : α} (d : α) (h : x ∈ l) : ∃ i,i < l.length /\ l.getD i d = x:=by
 obtain ⟨i,hi,e⟩:=List.getElem_of_mem h
 exact ⟨i,hi,by rw [List.getD_eq_getElem?_getD,List.getElem?_eq_getElem hi]; exact e⟩
end L2
namespace L2
open PySem PySem.Spec PyProof.Rows GM
end L2
set_option Elab.async false
set_option linter.all false
set_option maxRecDepth 100000
namespace TB
open PySem PySem.W PyProof.Rows
def zaU {α : Type} (o : Nat -> Nat -> Bool) : KasT α -> α
 | .ret a=>a
 | .ask i j k=>zaU o (k (o i j))
theorem zb5 {α β : Type} (o : Nat -> Nat -> Bool) (f : α -> KasT β) : ∀ t : KasT α,zaU o (t.bind f) = zaU o (f (zaU o t))
 | .ret _=>rfl
 | .ask i j k=>zb5 o f (k (o i j))
theorem zc8.wpO {α : Type} {n : Nat} {φ : α -> Prop} {t : KasT α} (h : zc8 n φ t) {o : Nat -> Nat -> Bool} {cmp : Nat -> Nat -> (Bool -> Shared -> Prop) -> Shared -> Prop} {s : Shared} (hc : ∀ i j C,i < n -> j < n -> C (o i j) s -> cmp i j C s) {Q : α -> Shared -> Prop} (q : Q (zaU o t) s) : t.kasWp cmp Q s:=by
 induction h with
 | ret h=>exact q
 | ask h1 h2 _ ih=>exact hc _ _ _ h1 h2 (ih _ q)
structure Tot (n : Nat) (o : Nat -> Nat -> Bool) : Prop where
 tot : ∀ i j,i < n -> j < n -> i ≠ j -> o i j = false -> o j i = true
 tr : ∀ i j k,i < n -> j < n -> k < n -> o i j = true -> o j k = true -> o i k = true
section
variable {n : Nat} {o : Nat -> Nat -> Bool} {p : Array Nat}
theorem Pm.size (h : Pm n p) : p.size = n:=by rw [<- Array.length_toList,h.length_eq,List.length_range]
theorem Pm.lt (h : Pm n p) {i : Nat} (hi : i < n) : p.getD i 0 < n:=h.get (by omega) i
theorem Pm.ne (h : Pm n p) {i j : Nat} (hi : i < n) (hj : j < n) (e : i ≠ j) : p.getD i 0 ≠ p.getD j 0:=by
 have hs:=h.size
 have nd : p.toList.Nodup:=h.nodup_iff.mpr List.nodup_range
 intro z
 rw [Array.getD_eq_getD_getElem?,Array.getD_eq_getD_getElem?,Array.getElem?_eq_getElem (by omega),Array.getElem?_eq_getElem (by omega)] at z
 have z : p.toList[i]'(by rw [Array.length_toList]; omega) = p.toList[j]'(by rw [Array.length_toList]; omega):=z
 exact e ((List.getElem_inj nd).mp z)
def zbs (o : Nat -> Nat -> Bool) (p : Array Nat) (m : Nat) : Prop:=∀ i j,i < j -> j < m -> o (p.getD i 0) (p.getD j 0) = true
theorem zh4 (T : Tot n o) (h : Pm n p) {m : Nat} (hm : m <= n) (a : ∀ i,i + 1 < m -> o (p.getD i 0) (p.getD (i + 1) 0) = true) : zbs o p m:=by
 intro i j hij hj
 induction j with
 | zero=>omega
 | succ j ih =>
   rcases Nat.lt_or_ge i j with z | z
   . exact T.tr _ _ _ (h.lt (by omega)) (h.lt (by omega)) (h.lt (by omega)) (ih z (by omega)) (a j hj)
   . have : i = j:=by omega
     subst this
     exact a i hj
theorem zhx (T : Tot n o) (h : Pm n p) : ∀ f m,1 <= m -> m + f <= n -> m <= zaU o (kas_asc p f m) /\ zaU o (kas_asc p f m) <= m + f /\ (∀ i,m <= i + 1 -> i + 1 < zaU o (kas_asc p f m) -> o (p.getD i 0) (p.getD (i + 1) 0) = true) /\ (zaU o (kas_asc p f m) < m + f -> o (p.getD (zaU o (kas_asc p f m)) 0) (p.getD (zaU o (kas_asc p f m) - 1) 0) = true)
 | 0,m,h1,hm=>⟨Nat.le_refl _,Nat.le_refl _,fun i a b=>by (have : i + 1 < m:=b); omega,fun a=>by (have : m < m + 0:=a); omega⟩
 | f + 1,m,h1,hm=>by
   have e : zaU o (kas_asc p (f + 1) m) = if o (p.getD m 0) (p.getD (m - 1) 0) = true then m else zaU o (kas_asc p f (m + 1)):=by
     show zaU o (if o (p.getD m 0) (p.getD (m - 1) 0) = true then .ret m else kas_asc p f (m + 1)) = _
     split <;> rfl
   rw [e]
   split
   . rename_i c
     exact ⟨Nat.le_refl _,by omega,fun i a b=>by omega,fun _=>c⟩
   . rename_i c
     obtain ⟨i1,i2,i3,i4⟩:=zhx T h f (m + 1) (by omega) (by omega)
     refine ⟨by omega,by omega,fun i a b=>?_,fun a=>i4 (by omega)⟩
     rcases Nat.lt_or_ge m (i + 1) with z | z
     . exact i3 i (by omega) b
     . have : m = i + 1:=by omega
       subst this
       have:=T.tot _ _ (h.lt (i:=i + 1) (by omega)) (h.lt (i:=i) (by omega)) (h.ne (by omega) (by omega) (by omega)) (by simpa using c)
       exact this
theorem zig (T : Tot n o) (h : Pm n p) : ∀ f m,1 <= m -> m + f <= n -> ∃ r,zaU o (kas_desc f p m 0) = (p,r,0) /\ m <= r /\ r <= m + f /\ ∀ i,m <= i + 1 -> i + 1 < r -> o (p.getD (i + 1) 0) (p.getD i 0) = true
 | 0,m,h1,hm=>⟨m,rfl,Nat.le_refl _,Nat.le_refl _,fun i a b=>by omega⟩
 | f + 1,m,h1,hm=>by
   by_cases c : o (p.getD m 0) (p.getD (m - 1) 0) = true
   . obtain ⟨r,e,a,b,d⟩:=zig T h f (m + 1) (by omega) (by omega)
     refine ⟨r,?_,by omega,by omega,fun i x y=>?_⟩
     . rw [<- e]
       show zaU o (if o (p.getD m 0) (p.getD (m - 1) 0) = true then (if 0 > 0 then _ else kas_desc f p (m + 1) 0) else _) = _
       rw [if_pos c,if_neg (by omega)]
     . rcases Nat.lt_or_ge m (i + 1) with z | z
       . exact d i (by omega) y
       . have : m = i + 1:=by omega
         subst this
         exact c
   . refine ⟨m,?_,Nat.le_refl _,by omega,fun i a b=>by omega⟩
     have d:=T.tot _ _ (h.lt (i:=m) (by omega)) (h.lt (i:=m - 1) (by omega)) (h.ne (by omega) (by omega) (by omega)) (by simpa using c)
     show zaU o (if o (p.getD m 0) (p.getD (m - 1) 0) = true then _ else .ask (p.getD (m - 1) 0) (p.getD m 0) fun d=>if d = true then .ret (p,m,0) else kas_desc f p (m + 1) (0 + 1)) = _
     rw [if_neg c]
     show zaU o (if o (p.getD (m - 1) 0) (p.getD m 0) = true then .ret (p,m,0) else kas_desc f p (m + 1) (0 + 1)) = _
     rw [if_pos d]
     rfl
theorem zjS (h : Pm n p) {m : Nat} (hm : m <= n) (k : Nat) : (kas_rev p 0 m).getD k 0 = if k < m then p.getD (m - 1 - k) 0 else p.getD k 0:=by
 unfold kas_rev
 rw [Array.getD_eq_getD_getElem?,getElem?_mirror_all (by rw [h.size]; exact hm)]
 split
 . rename_i z
   rw [if_pos z.2,Array.getD_eq_getD_getElem?]
   congr 2
   omega
 . rename_i z
   rw [if_neg (by omega),Array.getD_eq_getD_getElem?]
theorem zl9 (T : Tot n o) (h : Pm n p) {m : Nat} (h1 : 1 <= m) (hm : m <= n) (a : ∀ i,i + 1 < m -> o (p.getD (i + 1) 0) (p.getD i 0) = true) : ∃ r q,zaU o (kas_tail3 m n p) = (r,q) /\ 1 <= r /\ r <= n /\ zbs o q r /\ Pm n q:=by
 have hq:=h.rev 0 m
 obtain ⟨i1,i2,i3,_⟩:=zhx T hq (n - m) m h1 (by omega)
 refine ⟨_,_,by unfold kas_tail3; rw [zb5]; rfl,by omega,by omega,zh4 T hq (by omega) fun i hi=>?_,hq⟩
 rcases Nat.lt_or_ge (i + 1) m with z | z
 . rw [zjS h hm,zjS h hm,if_pos (by omega),if_pos z]
   have:=a (m - 1 - (i + 1)) (by omega)
   rw [show m - 1 - (i + 1) + 1 = m - 1 - i by omega] at this
   exact this
 . exact i3 i z hi
theorem zl5 (T : Tot n o) (h : Pm n p) (hn : 2 <= n) (a : o (p.getD 1 0) (p.getD 0 0) = true) : ∃ r q,zaU o (kas_descPart 1 n p) = (r,q) /\ 1 <= r /\ r <= n /\ zbs o q r /\ Pm n q:=by
 obtain ⟨m,e,m1,m2,d⟩:=zig T h (n - 2) 2 (by omega) (by omega)
 obtain ⟨r,q,e2,za1⟩:=zl9 T h (m:=m) (by omega) (by omega) fun i hi=>by
   rcases Nat.lt_or_ge i 1 with z | z
   . have : i = 0:=by omega
     subst this
     exact a
   . exact d i (by omega) hi
 refine ⟨r,q,?_,za1⟩
 unfold kas_descPart
 rw [zb5,show n - (1 + 1) = n - 2 from rfl,e]
 exact e2
theorem zlc (T : Tot n o) (h : Pm n p) (hn : 2 <= n) : ∃ r q,zaU o (kas_count n p) = (r,q) /\ 1 <= r /\ r <= n /\ zbs o q r /\ Pm n q:=by
 obtain ⟨i1,i2,i3,i4⟩:=zhx T h (n - 1) 1 (Nat.le_refl 1) (by omega)
 unfold kas_count
 rw [zb5]
 generalize zaU o (kas_asc p (n - 1) 1) = m at *
 have hs : zbs o p m:=zh4 T h (by omega) fun i hi=>i3 i (by omega) hi
 by_cases c : m = n
 . refine ⟨m,p,?_,by omega,by omega,hs,h⟩
   rw [if_pos (by simpa using c)]; rfl
 . rw [if_neg (by simpa using c)]
   by_cases c1 : m > 1
   . refine ⟨m,p,?_,by omega,by omega,hs,h⟩
     rw [if_pos c1]
     show zaU o (if o (p.getD 0 0) (p.getD (m - 1) 0) = true then .ret (m,p) else _) = _
     rw [if_pos (hs 0 (m - 1) (by omega) (by omega))]
     rfl
   . rw [if_neg c1]
     have : m = 1:=by omega
     subst this
     exact zl5 T h hn (i4 (by omega))
theorem zeU (T : Tot n o) (h : Pm n p) {k : Nat} (hk : k < n) (hs : zbs o p k) : ∀ f l r,l <= r -> r <= k -> r - l <= f -> (∀ i,i < l -> o (p.getD i 0) (p.getD k 0) = true) -> (∀ i,r <= i -> i < k -> o (p.getD k 0) (p.getD i 0) = true) ->
   zaU o (kas_place p k f l r) <= k /\ (∀ i,i < zaU o (kas_place p k f l r) -> o (p.getD i 0) (p.getD k 0) = true) /\ (∀ i,zaU o (kas_place p k f l r) <= i -> i < k -> o (p.getD k 0) (p.getD i 0) = true)
 | 0,l,r,lr,rk,hf,a,b=>⟨by show l <= k; omega,a,fun i hi=>b i (by have : l <= i:=hi; omega)⟩
 | f + 1,l,r,lr,rk,hf,a,b=>by
   unfold kas_place
   split
   . exact ⟨by show l <= k; omega,a,fun i hi=>b i (by have : l <= i:=hi; omega)⟩
   . rename_i z
     have hm : (l + r) / 2 < r /\ l <= (l + r) / 2:=by omega
     generalize (l + r) / 2 = m at *
     show zaU o (if o (p.getD k 0) (p.getD m 0) = true then kas_place p k f l m else kas_place p k f (m + 1) r) <= k /\ (∀ i,i < zaU o (if o (p.getD k 0) (p.getD m 0) = true then kas_place p k f l m else kas_place p k f (m + 1) r) -> _) /\ (∀ i,zaU o (if o (p.getD k 0) (p.getD m 0) = true then kas_place p k f l m else kas_place p k f (m + 1) r) <= i -> _)
     split
     . rename_i c
       refine zeU T h hk hs f l m (by omega) (by omega) (by omega) a fun i hi hik=>?_
       rcases Nat.lt_or_ge m i with y | y
       . exact T.tr _ _ _ (h.lt hk) (h.lt (by omega)) (h.lt (by omega)) c (hs m i y hik)
       . have : i = m:=by omega
         subst this
         exact c
     . rename_i c
       have d:=T.tot _ _ (h.lt (i:=k) hk) (h.lt (i:=m) (by omega)) (h.ne hk (by omega) (by omega)) (by simpa using c)
       refine zeU T h hk hs f (m + 1) r (by omega) rk (by omega) (fun i hi=>?_) b
       rcases Nat.lt_or_ge i m with y | y
       . exact T.tr _ _ _ (h.lt (by omega)) (h.lt (by omega)) (h.lt hk) (hs i m y (by omega)) d
       . have : i = m:=by omega
         subst this
         exact d
theorem zkh (h : Pm n p) {k l : Nat} (hk : k < n) (hl : l <= k) (i : Nat) : (bubble p k (k - l)).getD i 0 = if i = l then p.getD k 0 else if l < i /\ i <= k then p.getD (i - 1) 0 else p.getD i 0:=by
 rw [Array.getD_eq_getD_getElem?,getElem?_bubble (by rw [h.size]; exact hk) _ (by omega),show k - (k - l) = l by omega]
 split
 . rw [Array.getD_eq_getD_getElem?]
 . split
   . rw [Array.getD_eq_getD_getElem?]
   . rw [Array.getD_eq_getD_getElem?]
theorem zke (T : Tot n o) : ∀ f (p : Array Nat) k,Pm n p -> 1 <= k -> k + f = n -> zbs o p k -> zbs o (zaU o (kas_bin f p k)) n /\ Pm n (zaU o (kas_bin f p k))
 | 0,p,k,h,_,e,hs=>by
   have : k = n:=by omega
   subst this
   exact ⟨hs,h⟩
 | f + 1,p,k,h,h1,e,hs=>by
   have hk : k < n:=by omega
   obtain ⟨a,b,c⟩:=zeU T h hk hs k 0 k (by omega) (Nat.le_refl _) (by omega) (fun i hi=>by omega) (fun i hi hik=>by omega)
   show zbs o (zaU o ((kas_place p k k 0 k).bind fun l=>kas_bin f (bubble p k (k - l)) (k + 1))) n /\ Pm n (zaU o ((kas_place p k k 0 k).bind fun l=>kas_bin f (bubble p k (k - l)) (k + 1)))
   rw [zb5]
   generalize zaU o (kas_place p k k 0 k) = l at *
   refine zke T f _ (k + 1) (h.bub _ _) (by omega) (by omega) fun i j hij hj=>?_
   rw [zkh h hk a,zkh h hk a]
   by_cases i1 : i = l
   . rw [if_pos i1,if_neg (by omega),if_pos (by omega)]
     exact c (j - 1) (by omega) (by omega)
   . rw [if_neg i1]
     by_cases i2 : l < i /\ i <= k
     . rw [if_pos i2,if_neg (by omega),if_pos (by omega)]
       exact hs _ _ (by omega) (by omega)
     . rw [if_neg i2]
       have hil : i < l:=by omega
       by_cases j1 : j = l
       . rw [if_pos j1]
         exact b i hil
       . rw [if_neg j1]
         by_cases j2 : l < j /\ j <= k
         . rw [if_pos j2]
           exact hs _ _ (by omega) (by omega)
         . rw [if_neg j2]
           exact hs _ _ hij (by omega)
theorem zmj (T : Tot n o) (hn : 2 <= n) : zbs o (zaU o (kas_sort n)) n /\ Pm n (zaU o (kas_sort n)):=by
 obtain ⟨r,q,e,r1,r2,hs,hq⟩:=zlc (p:=(List.range n).toArray) T (by unfold Pm; simp) hn
 unfold kas_sort
 rw [zb5,e]
 show zbs o (zaU o (if r < n then kas_bin (n - max r 1) q (max r 1) else .ret q)) n /\ Pm n (zaU o (if r < n then kas_bin (n - max r 1) q (max r 1) else .ret q))
 rw [show max r 1 = r by omega]
 split
 . exact zke T _ q r hq r1 (by omega) hs
 . have : r = n:=by omega
   subst this
   exact ⟨hs,hq⟩
end
def lexB : List Int -> List Int -> Bool
 | [],[]=>false
 | [],_ :: _=>true
 | _ :: _,[]=>false
 | a :: as,b :: bs=>if a = b then lexB as bs else decide (a < b)
theorem ziO : ∀ {as bs : List Int},as ≠ bs -> lexB as bs = false -> lexB bs as = true
 | [],[],h,_=>absurd rfl h
 | [],_ :: _,_,e=>by cases e
 | _ :: _,[],_,_=>rfl
 | a :: as,b :: bs,h,e=>by
   unfold lexB at e ⊢
   by_cases z : a = b
   . subst z
     rw [if_pos rfl] at e ⊢
     exact ziO (fun y=>h (by rw [y])) e
   . rw [if_neg z] at e
     rw [if_neg (fun y=>z y.symm)]
     have:=of_decide_eq_false e
     exact decide_eq_true (by omega)
theorem lexB_tr : ∀ {as bs cs : List Int},lexB as bs = true -> lexB bs cs = true -> lexB as cs = true
 | [],[],_,e,_=>by cases e
 | _ :: _,[],_,e,_=>by cases e
 | [],_ :: _,[],_,e=>by cases e
 | [],_ :: _,_ :: _,_,_=>rfl
 | _ :: _,_ :: _,[],_,e=>by cases e
 | a :: as,b :: bs,c :: cs,e,f=>by
   unfold lexB at e f ⊢
   by_cases z : a = b
   . subst z
     rw [if_pos rfl] at e
     by_cases y : a = c
     . subst y
       rw [if_pos rfl] at f ⊢
       exact lexB_tr e f
     . rw [if_neg y] at f ⊢
       exact f
   . rw [if_neg z] at e
     have e:=of_decide_eq_true e
     by_cases y : b = c
     . subst y
       rw [if_neg z]
       exact decide_eq_true e
     . rw [if_neg y] at f
       have f:=of_decide_eq_true f
       rw [if_neg (by omega)]
       exact decide_eq_true (by omega)
theorem znQ {ks : List (List Int)} (nd : ks.Nodup) : Tot ks.length fun i j=>lexB (ks.getD i []) (ks.getD j []) where
 tot i j hi hj e h:=ziO (fun z=>e (by
   rw [List.getD_eq_getElem?_getD,List.getD_eq_getElem?_getD,List.getElem?_eq_getElem hi,List.getElem?_eq_getElem hj] at z
   exact (List.getElem_inj nd).mp z)) h
 tr _ _ _ _ _ _ h k:=lexB_tr h k
section
variable {prog : Program} {w : World} {A : Around} {E : Value -> Shared -> Prop} {s : Shared}
def TwK (h : Heap) (v : Value) (k : List Int) : Prop:=∃ a o its n,v = .ref a /\ h.get? a = some o /\ o.cls = .type "tuple" /\ o.data = .seq its n /\ IntsAre its.toList k /\ k ≠ []
theorem TwK.grow {h g : Heap} {v : Value} {k : List Int} (x : TwK h v k) (e : ∀ b o,o.cls = .type "tuple" -> h.get? b = some o -> g.get? b = some o) : TwK g v k:=by
 obtain ⟨a,o,its,n,h1,h2,h3,r⟩:=x
 exact ⟨a,o,its,n,h1,e a o h3 h2,h3,r⟩
theorem zeo {us : List Value} {ns : List Int} (h : IntsAre us ns) : ∀ y ∈ us,∃ i u,y = Value.int i u:=by
 induction h with
 | nil=>intro y hy; cases hy
 | cons n t _ ih =>
   intro y hy
   rcases List.mem_cons.mp hy with e | hy
   . exact ⟨n,t,e⟩
   . exact ih y hy
theorem TwK.tw {h : Heap} {v : Value} {k : List Int} (x : TwK h v k) : Tw h v:=by
 obtain ⟨a,o,its,n,h1,h2,h3,h4,h5,h6⟩:=x
 generalize e : its.toList = l at h5
 cases h5 with
 | nil=>exact absurd rfl h6
 | cons x t r=>exact ⟨a,o,its,n,x,t,_,h1,h2,h3,h4,e,zeo r⟩
theorem ziM {b fin : Bool} {Q : Bool -> Shared -> Prop} : ∀ {xs ys : List Value} {ks js : List Int},IntsAre xs ks -> IntsAre ys js -> fin = decide (ks.length < js.length) -> ∀ i,Q (lexB ks js) s -> KatLex prog w A b fin Q (xs.zip ys) i s
 | _,_,_,_,.nil,.nil,e,_,q=>by subst e; exact q
 | _,_,_,_,.nil,.cons _ _ _,e,_,q=>by
   subst e
   show Q (decide (0 < _ + 1)) s
   rw [decide_eq_true (by omega)]
   exact q
 | _,_,_,_,.cons _ _ _,.nil,e,_,q=>by
   subst e
   show Q (decide (_ + 1 < 0)) s
   rw [decide_eq_false (by omega)]
   exact q
 | _,_,_,_,.cons x t (ns:=ks) r,.cons y u (ns:=js) r',e,i,q=>by
   rw [List.zip_cons_cons]
   refine kat_cons (wpAny_eqBool_int ?_)
   refine kat_go (fun z=>kat_yes (ziM r r' (by rw [e,List.length_cons,List.length_cons]; exact decide_eq_decide.mpr (by omega)) (i + 1) ?_)) fun z=>kat_no ?_
   . have z : x = y:=by simpa using z
     subst z
     rw [lexB,if_pos rfl] at q
     exact q
   . have z : ¬ x = y:=by simpa using z
     rw [lexB,if_neg z] at q
     cases b && i == 0
     . exact kat_one _ _ (wpAny_lt_int q)
     . exact oneLt_int q
theorem zkJ {ks : List (List Int)} {a : Addr} {vs : List Value} {n : Nat} {P : PySem.Fin -> Shared -> Prop} (ho : s.heap.get? a = some (seqObj "list" vs.toArray n)) (h2 : 2 <= vs.length) (h64 : vs.length < 64) (hkl : ks.length = vs.length) (nd : ks.Nodup) (ht : ∀ i,i < vs.length -> TwK s.heap (vs.getD i Value.none) (ks.getD i []))
   (q : ∀ (g : Heap) (p : Array Nat) (c : Nat),Pm vs.length p -> zbs (fun i j=>lexB (ks.getD i []) (ks.getD j [])) p vs.length -> g.get? a = some (seqObj "list" (List.toArray (p.toList.map fun i=>vs.getD i Value.none)) c) -> (∀ b o,b ≠ a -> s.heap.get? b = some o -> g.get? b = some o) -> P (.done (.ret .none)) { s with heap:=g }) :
   wpAny (model prog w) A (Builtin.«list.sort» ⟨[.ref a],[]⟩) P E s:=by
 have al : a < s.heap.objs.size:=Heap.lt_size ho
 have sb:=Heap.SameBut.update s.heap a (Obj.mapSeq fun _=>(#[] : Array Value))
 obtain ⟨e1,ho1⟩ : ∃ e1,(s.heap.update a (Obj.mapSeq fun _=>(#[] : Array Value))).get? a = some (seqObj "list" #[] e1):=⟨_,get?_update_seq ho fun _=>#[]⟩
 have kp : ∀ b o,b ≠ a -> s.heap.get? b = some o -> (((s.heap.update a (Obj.mapSeq fun _=>(#[] : Array Value))).push (seqObj "tuple" vs.toArray 0)).push (seqObj "list" #[] 0)).get? b = some o:=fun b o hb e =>
   Heap.get?_push_of_some _ (Heap.get?_push_of_some _ ((sb.2 b hb).trans e))
 have ho3 : (((s.heap.update a (Obj.mapSeq fun _=>(#[] : Array Value))).push (seqObj "tuple" vs.toArray 0)).push (seqObj "list" #[] 0)).get? a = some (seqObj "list" #[] e1):=Heap.get?_push_of_some _ (Heap.get?_push_of_some _ ho1)
 have kt : ∀ b o,o.cls = .type "tuple" -> s.heap.get? b = some o -> (((s.heap.update a (Obj.mapSeq fun _=>(#[] : Array Value))).push (seqObj "tuple" vs.toArray 0)).push (seqObj "list" #[] 0)).get? b = some o:=fun b o hc e=>by
   refine kp b o (fun z=>?_) e
   subst z
   rw [ho] at e
   cases e
   exact absurd (Value.type.inj hc) (by decide)
 have ht3 : ∀ i,i < vs.length -> TwK (((s.heap.update a (Obj.mapSeq fun _=>(#[] : Array Value))).push (seqObj "tuple" vs.toArray 0)).push (seqObj "list" #[] 0)) (vs.getD i Value.none) (ks.getD i []):=fun i hi=>(ht i hi).grow kt
 have nz : ¬ vs.toArray.size < 2:=by rw [List.size_toArray]; omega
 rw [list_sort_plain]
 refine wpAny_bind (listItems_at ho rfl ?_)
 refine wpAny_bind (listUpdate_at ho rfl ?_ (by rw [List.size_toArray,sizeLine_eq]; omega) (Nat.zero_le _))
 refine wpAny_bind (seqEpoch_at ho1 rfl ?_)
 refine wpAny_bind (wpAny_newTuple ?_ (by show vs.length <= _; rw [sizeLine_eq]; omega))
 refine wpAny_bind (wpAny_newList ?_ (Nat.zero_le _))
 refine wpAny_holding ?_
 show wpAny (model prog w) A _ P E { s with heap:=((s.heap.update a (Obj.mapSeq fun _=>(#[] : Array Value))).push (seqObj "tuple" vs.toArray 0)).push (seqObj "list" #[] 0) }
 dsimp only
 rw [if_neg nz,if_neg nz]
 generalize ((s.heap.update a (Obj.mapSeq fun _=>(#[] : Array Value))).push (seqObj "tuple" vs.toArray 0)).push (seqObj "list" #[] 0) = g at *
 obtain ⟨fs,f1,f2,f3⟩:=zj9 vs fun v hv=>by
   obtain ⟨i,hi,rfl⟩:=List.getElem_of_mem hv
   have:=(ht3 i hi).tw
   rw [List.getD_eq_getElem?_getD,List.getElem?_eq_getElem hi] at this
   exact this
 refine wpAny_bind (kat_kind (s:={ s with heap:=g }) (T:=.type "int") f1 (by omega) (fun v hv=>?_) (by decide) ?_)
 . obtain ⟨i,t,rfl⟩:=f3 v hv
   exact .now
 . refine wpAny_bind (wpAny_mono (kat_run (s:={ s with heap:=g }) (Q:=fun st' s'=>∃ p : Array Nat,s' = { s with heap:=g } /\ (zbs (fun i j=>lexB (ks.getD i []) (ks.getD j [])) p vs.length /\ Pm vs.length p) /\ arrOf st' = p.map (kas_item (vs.toArray.zip vs.toArray)) /\ failedOf st' = none)
     rfl h2 h64 (fun p st' s' a1 a2 a3 a4=>⟨p,a4.1,a4.2,a2,a3⟩) (G:=fun p s'=>s' = { s with heap:=g } /\ (zbs (fun i j=>lexB (ks.getD i []) (ks.getD j [])) p vs.length /\ Pm vs.length p)) ?_) ?_ fun _ _ e=>e)
   . refine (zku (n:=vs.length) (by omega)).wpO (o:=fun i j=>lexB (ks.getD i []) (ks.getD j [])) (fun i j C hi hj hc=>?_) ⟨rfl,by rw [<- hkl]; exact zmj (znQ nd) (by omega)⟩
     obtain ⟨x,ox,xs,nx,x1,x2,_,x3,x4,_⟩:=ht3 i hi
     obtain ⟨y,oy,ys,ny,y1,y2,_,y3,y4,_⟩:=ht3 j hj
     unfold kas_ask
     rw [x1,y1]
     refine kat_lt (s:={ s with heap:=g }) x2 x3 y2 y3 (ziM x4 y4 ?_ 0 hc)
     rw [<- Array.length_toList,<- Array.length_toList,x4.length,y4.length]
   . rintro ⟨⟨⟩,st'⟩ s' ⟨p,rfl,⟨hso,hp⟩,har,hf⟩
     dsimp only
     have ps : p.size = vs.length:=by rw [<- Array.length_toList,hp.length_eq,List.length_range]
     rw [kat_snds rfl har]
     refine wpAny_bind (seqEpoch_at (s:={ s with heap:=g }) ho3 rfl ?_)
     refine wpAny_bind (listUpdate_at (s:={ s with heap:=g }) ho3 rfl ?_ (Nat.zero_le _) (by rw [List.size_toArray,List.length_map,Array.length_toList,ps,sizeLine_eq]; omega))
     rw [hf]
     simp only [bne_self_eq_false,Bool.false_eq_true,if_false]
     have sb2:=Heap.SameBut.update g a (Obj.mapSeq fun _=>List.toArray (p.toList.map fun i=>vs.getD i Value.none))
     refine wpAny_pure (q _ p _ hp hso (get?_update_seq ho3 fun _=>List.toArray (p.toList.map fun i=>vs.getD i Value.none)) fun b o hb e=>(sb2.2 b hb).trans (kp b o hb e))
theorem zjr {ks : List (List Int)} {a : Addr} {vs : List Value} {n : Nat} {P : PySem.Fin -> Shared -> Prop} (ho : s.heap.get? a = some (seqObj "list" vs.toArray n)) (h64 : vs.length < 64) (hkl : ks.length = vs.length) (nd : ks.Nodup) (ht : ∀ i,i < vs.length -> TwK s.heap (vs.getD i Value.none) (ks.getD i []))
   (q : ∀ (g : Heap) (ps : List Nat) (c : Nat),ps.Perm (List.range vs.length) -> (ps.map fun i=>ks.getD i []).Pairwise (fun x y=>lexB x y = true) -> g.get? a = some (seqObj "list" (List.toArray (ps.map fun i=>vs.getD i Value.none)) c) -> (∀ b o,b ≠ a -> s.heap.get? b = some o -> g.get? b = some o) -> P (.done (.ret .none)) { s with heap:=g }) :
   wpAny (model prog w) A (Builtin.«list.sort» ⟨[.ref a],[]⟩) P E s:=by
 rcases Nat.lt_or_ge vs.length 2 with h | h
 . refine zlR ho h fun g c h1 h2=>q g (List.range vs.length) c (.refl _) ?_ (by rw [zgS]; exact h1) h2
   match ks,hkl with
   | [],e=>rw [<- e]; exact .nil
   | [k],e=>rw [<- e]; exact List.pairwise_singleton _ _
   | _ :: _ :: _,e=>rw [List.length_cons,List.length_cons] at e; omega
 . refine zkJ ho h h64 hkl nd ht fun g p c h1 hs h2 h3=>q g p.toList c h1 ?_ h2 h3
   rw [List.pairwise_map,List.pairwise_iff_getElem]
   intro i j hi hj hij
   have sz:=h1.size
   have:=hs i j hij (by rw [Array.length_toList] at hj; omega)
   rw [Array.getD_eq_getD_getElem?,Array.getD_eq_getD_getElem?,Array.getElem?_eq_getElem (by rw [Array.length_toList] at hi; omega),Array.getElem?_eq_getElem (by rw [Array.length_toList] at hj; omega)] at this
   exact this
theorem zif {l : Addr} {o : Obj} {T : String} {n : Nat} {vs : List Value} {Q : List Value -> Shared -> Prop} (hT : T = "list" \/ T = "tuple") (ho : s.heap.get? l = some o) (hc : o.cls = .type T) (hd : o.data = .seq vs.toArray n)
   (h : Q vs { s with heap:=(s.heap.push (seqObj "list" #[] 0)).update s.heap.objs.size (Obj.mapSeq (· ++ vs.toArray)) }) (hsz : vs.length <= sizeLine) :
   wpAny (model prog w) A (collect (.ref l)) Q E s:=by
 unfold collect
 refine wpAny_bind (wpAny_runValue (codeAny_builtin PySem.F.entry_proto_collect ?_))
 rw [Around.under_plainId PySem.F.plain_proto_collect _]
 show wpAny _ A.in1 (newList [] >>= fun x=>again (.builtin "list.__iadd__" ⟨[x,.ref l],[]⟩)) _ _ s
 refine wpAny_bind (wpAny_newList (wpAny_pure ⟨plainId_quiet PySem.F.plain_list_iadd _,codeAny_builtin PySem.F.entry_list_iadd ?_⟩))
 rw [Around.under_plainId PySem.F.plain_list_iadd _]
 show wpAny _ A.in1 (Builtin.List.listExtendWith (.ref s.heap.objs.size) (.ref l) (.ref s.heap.objs.size)) _ _ { s with heap:=s.heap.push (seqObj "list" #[] 0) }
 unfold Builtin.List.listExtendWith
 have ho' : (s.heap.push (seqObj "list" #[] 0)).get? l = some o:=Heap.get?_push_of_some _ ho
 refine wpAny_bind (wpAny_typeOf (T:=T) ⟨o,ho',hc⟩ ?_)
 have hT2 : (Value.type T == Value.type "list" || Value.type T == Value.type "tuple") = true:=by rcases hT with rfl | rfl <;> rfl
 rw [if_pos (by rw [Bool.or_assoc,hT2,Bool.or_true])]
 refine wpAny_bind (listItems_at ho' hd ?_)
 refine wpAny_bind (listItems_at (xs:=#[]) (n:=0) (Heap.get?_push_size _ rfl) rfl ?_)
 rw [if_neg (by simp)]
 refine wpAny_bind (listUpdate_at (xs:=#[]) (n:=0) (Heap.get?_push_size _ rfl) rfl ?_ (Nat.zero_le _) (by show (#[] ++ vs.toArray).size <= sizeLine + 1; simp only [Array.size_append,List.size_toArray,List.length_nil]; omega))
 refine wpAny_pure ?_
 show wpAny (model prog w) A (load s.heap.objs.size >>= _) Q E { s with heap:=(s.heap.push (seqObj "list" #[] 0)).update s.heap.objs.size (Obj.mapSeq (· ++ vs.toArray)) }
 refine wpAny_bind (wpAny_load (get?_update_seq (Heap.get?_push_size _ rfl) _) ?_)
 show wpAny _ _ (pure ((#[] : Array Value) ++ vs.toArray).toList) Q E _
 rw [show ((#[] : Array Value) ++ vs.toArray).toList = vs by simp]
 exact wpAny_pure h
theorem sorted_listX {ks : List (List Int)} {a : Addr} {o : Obj} {T : String} {m : Nat} {vs : List Value} (hT : T = "list" \/ T = "tuple") (ho : s.heap.get? a = some o) (hc : o.cls = .type T) (hd : o.data = .seq vs.toArray m) (h64 : vs.length < 64) (hkl : ks.length = vs.length) (nd : ks.Nodup) (ht : ∀ i,i < vs.length -> TwK s.heap (vs.getD i Value.none) (ks.getD i [])) {Q : Value -> Shared -> Prop}
   (q : ∀ (l : Addr) (g : Heap) (ps : List Nat) (c : Nat),ps.Perm (List.range vs.length) -> (ps.map fun i=>ks.getD i []).Pairwise (fun x y=>lexB x y = true) -> s.heap.objs.size <= l -> g.get? l = some (seqObj "list" (List.toArray (ps.map fun i=>vs.getD i Value.none)) c) -> (∀ b o,s.heap.get? b = some o -> g.get? b = some o) -> Q (.ref l) { s with heap:=g }) :
   wpAny (model prog w) A (call (.builtin "sorted") [.ref a]) Q E s:=by
 refine Calls.call_function_entry kind_sorted plain_sorted entry_sorted (args_sorted1 _) ?_
 unfold Builtin.«sorted»
 refine wpAny_bind (m:=checkCount "sorted" 1 1 _) (wpAny_pure ?_)
 refine wpAny_bind (zif hT ho hc hd ?_ (by rw [sizeLine_eq]; omega))
 have kp : ∀ b o,s.heap.get? b = some o -> ((s.heap.push (seqObj "list" #[] 0)).update s.heap.objs.size (Obj.mapSeq (· ++ vs.toArray))).get? b = some o:=fun b o e =>
   ((Heap.SameBut.update (s.heap.push (seqObj "list" #[] 0)) s.heap.objs.size (Obj.mapSeq (· ++ vs.toArray))).2 b (Nat.ne_of_lt (Heap.lt_size e))).trans (Heap.get?_push_of_some _ e)
 have sz : ((s.heap.push (seqObj "list" #[] 0)).update s.heap.objs.size (Obj.mapSeq (· ++ vs.toArray))).objs.size = s.heap.objs.size + 1:=by
   rw [Heap.size_update,Heap.size_push]
 show wpAny (model prog w) A.in1 _ _ E { s with heap:=(s.heap.push (seqObj "list" #[] 0)).update s.heap.objs.size (Obj.mapSeq (· ++ vs.toArray)) }
 generalize (s.heap.push (seqObj "list" #[] 0)).update s.heap.objs.size (Obj.mapSeq (· ++ vs.toArray)) = h' at *
 have tw : ∀ i,i < vs.length -> TwK (h'.push (seqObj "list" vs.toArray 0)) (vs.getD i Value.none) (ks.getD i []):=fun i hi=>(ht i hi).grow fun b o _ ho=>Heap.get?_push_of_some _ (kp b o ho)
 refine wpAny_bind (wpAny_newList ?_ (by rw [sizeLine_eq]; omega))
 have hoL : (h'.push (seqObj "list" vs.toArray 0)).get? h'.objs.size = some (seqObj "list" vs.toArray 0):=Heap.get?_push_size _ rfl
 refine wpAny_bind (wpAny_holding (wpAny_call_entry slot_list_sort ⟨_,hoL,rfl⟩ entry_list_sort (zjr (s:={ s with heap:=h'.push (seqObj "list" vs.toArray 0) }) hoL h64 hkl nd tw fun g ps c h1 hs h2 h3=>⟨_,rfl,?_⟩) (args_list_sort _)))
 exact wpAny_pure ⟨_,rfl,q _ g ps c h1 hs (by show s.heap.objs.size <= h'.objs.size; omega) h2 fun b o e=>h3 b o (Nat.ne_of_lt (Heap.lt_size (kp b o e))) (Heap.get?_push_of_some _ (kp b o e))⟩
end
end TB
namespace L2
open PySem PySem.Spec PyProof.Rows GM
def zhW (K : PySem.W.Frag) : List V -> Hp -> VK -> Prop:=fun xs H Q=>∃ (p : Addr) (ws : List V) (ks : List (List Int)),xs = [.ref p] /\ (SqL K H p ws \/ SqT K H p ws) /\ ws.length < 64 /\ ks.Nodup /\ (∀ k ∈ ks,k ≠ []) /\ IsAll K H ws (ks.map TZ) /\ ∀ (l : Addr) (ps : List Nat),H l = none -> ps.Perm (List.range ws.length) -> (ps.map fun i=>ks.getD i []).Pairwise (fun x y=>TB.lexB x y = true) -> Q (.ref l) (upd H l (.lst (ps.map fun i=>ws.getD i .non)))
theorem Inv.twK {X : Cx} {pins : List (Addr × Obj)} {σ : List (Option V)} {H : Hp} {s : Shared} (I : Inv X pins σ H s) {q : Addr} {k : List Int} (h : SqT X.K H q (k.map V.int)) (hk : k ≠ []) : TB.TwK s.heap (.ref q) k:=by
 obtain ⟨its,r,⟨o,e,hc,n,hd⟩,_⟩:=I.tuple h
 exact ⟨q,o,its.toArray,n,rfl,e,hc,hd,by simpa using zc0 r,hk⟩
theorem zfU {X : Cx} : zah X (.builtin "sorted") (zhW X.K):=by
 intro pins s σ H xs us Q I r h
 obtain ⟨p,ws,ks,rfl,hp,h64,nd,hk,t,q⟩:=h
 obtain ⟨u,rfl,rx⟩:=zcD r
 cases rx
 have hkl : ks.length = ws.length:=by rw [t.length,List.length_map]
 obtain ⟨its,r',o,T,m,hT,ho,hc,hd⟩ : ∃ (its : List Value),zak ws its /\ ∃ (o : Obj) (T : String) (m : Nat),(T = "list" \/ T = "tuple") /\ s.heap.get? p = some o /\ o.cls = .type T /\ o.data = .seq its.toArray m:=by
   rcases hp with hp | hp
   . obtain ⟨its,r',pl,_⟩:=I.list hp
     obtain ⟨o,ho,hc,n,hd⟩:=pl.isList
     exact ⟨its,r',o,"list",n,.inl rfl,ho,hc,hd⟩
   . obtain ⟨its,r',⟨o,ho,hc,n,hd⟩,_⟩:=I.tuple hp
     exact ⟨its,r',o,"tuple",n,.inr rfl,ho,hc,hd⟩
 have hl:=r'.length
 have at_ : ∀ i,i < its.length -> ∃ a,its.getD i Value.none = .ref a /\ ws.getD i .non = .ref a /\ SqT X.K H a ((ks.getD i []).map V.int) /\ ks.getD i [] ≠ []:=fun i hi=>by
   obtain ⟨x,hx,hxr⟩:=Paired.back r' (List.getElem?_eq_getElem hi)
   obtain ⟨hj,ix⟩:=zbt t hx
   rw [List.length_map] at hj
   have ek : ks.getD i [] = ks[i]:=by rw [List.getD_eq_getElem?_getD,List.getElem?_eq_getElem hj]; rfl
   rw [List.getD_eq_getElem?_getD,List.getElem?_map,List.getElem?_eq_getElem hj] at ix
   obtain ⟨a,rfl,hs⟩:=zck.mp (show Is X.K H x (TZ ks[i]) from ix)
   refine ⟨a,?_,?_,by rw [ek]; exact hs,by rw [ek]; exact hk _ (List.getElem_mem hj)⟩
   . rw [List.getD_eq_getElem?_getD,List.getElem?_eq_getElem hi]
     exact hxr
   . rw [List.getD_eq_getElem?_getD,hx]; rfl
 refine TB.sorted_listX hT ho hc hd (by omega) (by omega) nd (fun i hi=>?_) fun l g ps c pm so hle hg kp=>?_
 . obtain ⟨a,e1,_,hs,h0⟩:=at_ i hi
   rw [e1]
   exact I.twK hs h0
 . have hm : ∀ i ∈ ps,i < its.length:=fun i hi=>List.mem_range.mp (pm.mem_iff.mp hi)
   have hu : ∀ u ∈ ps.map (fun i=>its.getD i Value.none),∃ a,u = .ref a:=fun u hu=>by
     obtain ⟨i,hi,rfl⟩:=List.mem_map.mp hu
     obtain ⟨a,e1,_⟩:=at_ i (hm i hi)
     exact ⟨a,e1⟩
   have ew : (ps.map fun i=>its.getD i Value.none).map zkO = ps.map fun i=>ws.getD i .non:=by
     rw [List.map_map]
     refine List.map_congr_left fun i hi=>?_
     obtain ⟨a,e1,e2,_⟩:=at_ i (hm i hi)
     show zkO (its.getD i Value.none) = ws.getD i .non
     rw [e1,e2]; rfl
   have hpl : ps.length = its.length:=by rw [pm.length_eq,List.length_range]
   refine ⟨.ref l,_,I.laid (t':=s.toks) kp hle (show zbe X.prog X.w _ _ _ (.lst (ps.map fun i=>ws.getD i .non)) from ⟨?_,_,c,?_,hg⟩),rfl,q l ps (I.hok.fresh hle) (by rw [hl]; exact pm) so⟩
   . rw [List.length_map,hpl]
     exact Nat.le_of_lt (zbC (by omega))
   . rw [<- ew]
     exact zcp _ hu
def zaR (ks : List (List Int)) : Prop:=ks.Pairwise fun x y=>TB.lexB x y = true
theorem zit : ∀ x : List Int,TB.lexB x x = false
 | []=>rfl
 | a :: as=>by rw [TB.lexB,if_pos rfl]; exact zit as
theorem zaR.uniq : ∀ {xs ys : List (List Int)},zaR xs -> zaR ys -> xs.Perm ys -> xs = ys
 | [],ys,_,_,p=>by rw [List.nil_perm.mp p]
 | x :: xs,[],_,_,p=>absurd p.length_eq (by simp)
 | x :: xs,y :: ys,hx,hy,p=>by
   obtain ⟨x1,x2⟩:=List.pairwise_cons.mp hx
   obtain ⟨y1,y2⟩:=List.pairwise_cons.mp hy
   have e : x = y:=by
     rcases List.mem_cons.mp (p.mem_iff.mp (List.mem_cons_self ..) : x ∈ y :: ys) with z | z
     . exact z
     . rcases List.mem_cons.mp (p.mem_iff.mpr (List.mem_cons_self ..) : y ∈ x :: xs) with w | w
       . exact w.symm
       . have:=TB.lexB_tr (x1 y w) (y1 x z)
         rw [zit] at this
         cases this
   subst e
   rw [zaR.uniq x2 y2 (List.perm_cons x |>.mp p)]
theorem zkN {α : Type} {ks : List α} {d : α} {ps : List Nat} {n : Nat} (h : ps.Perm (List.range n)) (hn : ks.length = n) : (ps.map fun i=>ks.getD i d).Perm ks:=by
 have:=h.map fun i=>ks.getD i d
 rw [show (List.range n).map (fun i=>ks.getD i d) = ks from List.ext_getElem (by rw [List.length_map,List.length_range,hn]) fun i h1 h2=>by
   rw [List.getElem_map,List.getElem_range,List.getD_eq_getElem?_getD,List.getElem?_eq_getElem h2]; rfl] at this
 exact this
theorem zh9 {K : PySem.W.Frag} {H : Hp} {Q : VK} {v : V} {ks : List (List Int)} (h : Is K H v (.list (ks.map TZ)) \/ Is K H v (.tuple (ks.map TZ))) (z : ks.length < 64) (nd : ks.Nodup) (hk : ∀ k ∈ ks,k ≠ []) (q : ∀ (l : Addr) (H' : Hp) (us : List V) (js : List (List Int)),H l = none -> zad H H' -> H' l = some (.lst us) -> js.Perm ks -> zaR js -> IsAll K H' us (js.map TZ) -> Q (.ref l) H') : zhW K [v] H Q:=by
 have h : ∃ p ws,v = .ref p /\ (SqL K H p ws \/ SqT K H p ws) /\ IsAll K H ws (ks.map TZ):=by
   rcases h with h | h
   . obtain ⟨p,ws,rfl,hs,t⟩:=zav.mp h
     exact ⟨p,ws,rfl,.inl hs,t⟩
   . obtain ⟨p,ws,rfl,hs,t⟩:=zaC.mp h
     exact ⟨p,ws,rfl,.inr hs,t⟩
 obtain ⟨p,ws,rfl,hs,t⟩:=h
 have hl:=t.length
 rw [List.length_map] at hl
 refine ⟨p,ws,ks,rfl,hs,by omega,nd,hk,t,fun l ps hn pm so=>?_⟩
 refine q l _ _ (ps.map fun i=>ks.getD i []) hn (zad.upd hn) zal (zkN pm hl.symm) so (IsAll.same (zad.upd hn) _ _ ?_)
 rw [List.map_map]
 have hm : ∀ i ∈ ps,i < ks.length:=fun i hi=>by have:=List.mem_range.mp (pm.mem_iff.mp hi); omega
 clear pm so
 induction ps with
 | nil=>exact .nil
 | cons i ps ih =>
   refine .cons ?_ (ih fun j hj=>hm j (List.mem_cons_of_mem _ hj))
   have hi:=hm i (List.mem_cons_self ..)
   obtain ⟨_,ix⟩:=zbt t (show ws[i]? = some (ws.getD i .non) by rw [List.getD_eq_getElem?_getD,List.getElem?_eq_getElem (by omega)]; rfl)
   rw [List.getD_eq_getElem?_getD (l:=List.map _ _),List.getElem?_map,List.getElem?_eq_getElem hi] at ix
   show Is K H _ (TZ (ks.getD i []))
   rw [List.getD_eq_getElem?_getD (l:=ks),List.getElem?_eq_getElem hi]
   exact ix
end L2
set_option Elab.async false
set_option linter.all false
set_option maxRecDepth 100000
namespace L2
open PySem PySem.Spec PyProof.Rows GM
theorem zkc : ∀ {ts : List Str} {us : List Value},zak (ts.map V.str) us -> ∃ l : List (Str × Tok),us = strValues l /\ l.map (·.1) = ts
 | [],us,h=>by
   cases h
   exact ⟨[],rfl,rfl⟩
 | t :: ts,us,h=>by
   cases h with
   | cons r rr =>
     obtain ⟨tk,rfl⟩:=r
     obtain ⟨l,e1,e2⟩:=zkc rr
     exact ⟨(t,tk) :: l,by rw [e1]; rfl,by rw [List.map_cons,e2]⟩
section
variable {K : PySem.W.Frag} {H H' : Hp} {Q : VK} {D : zb3} {σ : St} {g : TG} {tb : TS} {ta td ty : TE} {tA : TA} {v : V} {d : PyData} {a : Addr} {kvs : List (Key × V)} {x : Str} {i : Int} {xs : List V}
theorem zgg {R : Prop} (q : R) : tyV K "str" (.str x) H /\ R:=⟨rfl,q⟩
end
end L2
set_option Elab.async false
set_option linter.all false
set_option maxRecDepth 100000
namespace L2
open PySem PySem.Spec PyProof.Rows GM
def zin (ds : List Nat) : Nat:=ds.foldl (fun acc d=>acc * 10 + d) 0
def za8 (n : Nat) : List Nat:=if h : n < 10 then [n] else za8 (n / 10) ++ [n % 10]
termination_by n
decreasing_by omega
theorem zcf {n : Nat} (h : n < 10) : za8 n = [n]:=by rw [za8,dif_pos h]
theorem zdw {n : Nat} (h : 10 <= n) : za8 n = za8 (n / 10) ++ [n % 10]:=by rw [za8,dif_neg (by omega)]
theorem zdY : ∀ d,d < 10 -> (Nat.digitChar d).toNat = 48 + d:=by decide
theorem zgz (n : Nat) : (Nat.toDigits 10 n).map Char.toNat = (za8 n).map (48 + ·):=by
 induction n using Nat.strongRecOn with
 | ind n ih =>
   by_cases h : n < 10
   . rw [Nat.toDigits_of_lt_base h,zcf h,List.map_cons,List.map_nil,zdY n h]
     rfl
   . rw [Nat.toDigits_of_base_le (by decide) (by omega),zdw (by omega),List.map_append,List.map_append,ih (n / 10) (by omega),List.map_cons,List.map_nil,zdY _ (by omega)]
     rfl
theorem zfy (n : Nat) : za8 n ≠ []:=by
 by_cases h : n < 10
 . rw [zcf h]; simp
 . rw [zdw (by omega)]; simp
theorem zdB (n : Nat) : ∀ d ∈ za8 n,d < 10:=by
 induction n using Nat.strongRecOn with
 | ind n ih =>
   intro d hd
   by_cases h : n < 10
   . rw [zcf h,List.mem_singleton] at hd; omega
   . rw [zdw (by omega),List.mem_append,List.mem_singleton] at hd
     rcases hd with z | z
     . exact ih _ (by omega) d z
     . omega
theorem zfX (n : Nat) : zin (za8 n) = n:=by
 induction n using Nat.strongRecOn with
 | ind n ih =>
   by_cases h : n < 10
   . rw [zcf h]; simp [zin]
   . rw [zdw (by omega)]
     unfold zin
     rw [List.foldl_append]
     have:=ih (n / 10) (by omega)
     unfold zin at this
     rw [this]
     show n / 10 * 10 + n % 10 = n
     omega
theorem zmm {l m : List Nat} (h : l ≠ []) : (l ++ m).head? = l.head?:=by
 cases l with
 | nil=>exact absurd rfl h
 | cons a l=>rfl
theorem zhq {α β : Type} {f : α -> β} (hf : ∀ a b,f a = f b -> a = b) : ∀ {l m : List α},l.map f = m.map f -> l = m
 | [],[],_=>rfl
 | [],_ :: _,h=>by simp at h
 | _ :: _,[],h=>by simp at h
 | a :: l,b :: m,h=>by
   rw [List.map_cons,List.map_cons] at h
   rw [hf _ _ (List.cons.inj h).1,zhq hf (List.cons.inj h).2]
theorem zgK (n : Nat) : (za8 n).head? = some 0 -> n = 0:=by
 induction n using Nat.strongRecOn with
 | ind n ih =>
   intro hz
   by_cases h : n < 10
   . rw [zcf h] at hz
     simpa using hz
   . rw [zdw (by omega),zmm (zfy _)] at hz
     have:=ih (n / 10) (by omega) hz
     omega
theorem zkM (n : Nat) (h : (za8 n).head? = some 0) : (za8 n).length = 1:=by
 rw [zgK n h,zcf (by decide)]; rfl
theorem zls {n k : Nat} (hk : 1 <= k) (h : n < 10 ^ k) : (za8 n).length <= k:=by
 induction k generalizing n with
 | zero=>omega
 | succ k ih =>
   by_cases z : n < 10
   . rw [zcf z]; simp
   . rw [zdw (by omega),List.length_append,List.length_singleton]
     have hk1 : 1 <= k:=by
       rcases Nat.eq_zero_or_pos k with e | e
       . subst e; simp at h; omega
       . exact e
     have:=ih hk1 (n:=n / 10) (by rw [Nat.pow_succ] at h; omega)
     omega
def zbP (n : Nat) : Str:=⟨((za8 n).map (48 + ·)).toArray⟩
theorem znm (n : Nat) : Str.ofString (toString (n : Int)) = zbP n:=by
 have e : toString (n : Int) = toString n:=rfl
 rw [e,Str.ofString_eq_toList,Nat.toString_eq_ofList_toDigits]
 unfold zbP
 rw [String.toList_ofList,zgz]
theorem zl3 {m n : Nat} (h : zbP m = zbP n) : m = n:=by
 have e : (za8 m).map (48 + ·) = (za8 n).map (48 + ·):=by
   have:=congrArg (fun s : Str=>s.cps.toList) h
   simpa [zbP] using this
 have : za8 m = za8 n:=zhq (fun a b z=>by simpa using z) e
 rw [<- zfX m,<- zfX n,this]
def zcE (c : Nat) : List (List Nat) -> List Nat
 | []=>[]
 | [x]=>x
 | x :: y :: r=>x ++ c :: zcE c (y :: r)
theorem zfS (c : Nat) : ∀ ts : List Str,(Str.join ⟨#[c]⟩ ts).cps.toList = zcE c (ts.map fun t=>t.cps.toList)
 | []=>rfl
 | [x]=>rfl
 | x :: y :: r=>by
   have ih:=zfS c (y :: r)
   show (x ++ ⟨#[c]⟩ ++ Str.join ⟨#[c]⟩ (y :: r)).cps.toList = _
   show (x.cps ++ #[c] ++ (Str.join ⟨#[c]⟩ (y :: r)).cps).toList = _
   rw [Array.toList_append,Array.toList_append,ih]
   simp [zcE]
theorem zhV {c : Nat} : ∀ {a b x y : List Nat},c ∉ a -> c ∉ b -> a ++ c :: x = b ++ c :: y -> a = b /\ x = y
 | [],[],x,y,_,_,h=>⟨rfl,by simpa using h⟩
 | [],b :: bs,x,y,_,hb,h=>by
   have : c = b:=by simpa using (List.cons.inj h).1
   exact absurd (by rw [this]; simp) hb
 | a :: as,[],x,y,ha,_,h=>by
   have : a = c:=by simpa using (List.cons.inj h).1
   exact absurd (by rw [this]; simp) ha
 | a :: as,b :: bs,x,y,ha,hb,h=>by
   have h1:=(List.cons.inj h).1
   have h2 : as ++ c :: x = bs ++ c :: y:=(List.cons.inj h).2
   have:=zhV (fun z=>ha (List.mem_cons_of_mem _ z)) (fun z=>hb (List.mem_cons_of_mem _ z)) h2
   exact ⟨by rw [h1,this.1],this.2⟩
theorem zgV {c : Nat} : ∀ {xs ys : List (List Nat)},xs ≠ [] -> ys ≠ [] -> (∀ x ∈ xs,c ∉ x) -> (∀ y ∈ ys,c ∉ y) -> zcE c xs = zcE c ys -> xs = ys
 | [],_,h,_,_,_,_=>absurd rfl h
 | _,[],_,h,_,_,_=>absurd rfl h
 | [x],[y],_,_,_,_,h=>by rw [show x = y from h]
 | [x],y :: z :: r,_,_,hx,_,h=>by
   have h : x = y ++ c :: zcE c (z :: r):=h
   exact absurd (by rw [h]; simp) (hx x (by simp))
 | x :: z :: r,[y],_,_,_,hy,h=>by
   have h : x ++ c :: zcE c (z :: r) = y:=h
   exact absurd (by rw [<- h]; simp) (hy y (by simp))
 | x :: z :: r,y :: w :: s,_,_,hx,hy,h=>by
   have h : x ++ c :: zcE c (z :: r) = y ++ c :: zcE c (w :: s):=h
   obtain ⟨h1,h2⟩:=zhV (hx x (by simp)) (hy y (by simp)) h
   rw [h1,zgV (by simp) (by simp) (fun v hv=>hx v (List.mem_cons_of_mem _ hv)) (fun v hv=>hy v (List.mem_cons_of_mem _ hv)) h2]
theorem zlT (x y : Str) : Txt.split x y ≠ []:=by
 unfold Txt.split
 split
 . simp
 . split
   . simp
   . rw [PySem.StrLaws.partsBetween_eq]
     obtain ⟨p,r,e⟩:=PySem.StrLaws.partsFrom_ne x y.length 0 (Builtin.Str.occurrences x y 0 x.length (x.length + 1))
     rw [e]; simp
theorem zgn {c : Nat} {ts : List Str} (ne : ts ≠ []) (h : ∀ t ∈ ts,c ∉ t.cps.toList) : Txt.split (Str.join ⟨#[c]⟩ ts) ⟨#[c]⟩ = ts:=by
 have e1:=PySem.StrLaws.join_split (Str.join ⟨#[c]⟩ ts) ⟨#[c]⟩
 have e2:=congrArg (fun s : Str=>s.cps.toList) e1
 simp only [zfS] at e2
 have e3:=zgV (by simpa using zlT _ _) (by simpa using ne) (fun x hx=>by
   obtain ⟨t,ht,rfl⟩:=List.mem_map.mp hx
   exact PySem.StrLaws.split_free _ c t ht) (fun x hx=>by
   obtain ⟨t,ht,rfl⟩:=List.mem_map.mp hx
   exact h t ht) e2
 exact zhq (fun a b z=>Str.ext' (Array.toList_inj.mp z)) e3
set_option maxHeartbeats 2000000
theorem zhP : typeLookup (.type "str") "__int__" = pure none:=by rw [typeLookup_type,builtinLookup_eq_fast]; kernel_rfl
theorem zfE : typeLookup (.type "str") "__index__" = pure none:=by rw [typeLookup_type,builtinLookup_eq_fast]; kernel_rfl
theorem zfR : typeLookup (.type "str") "__trunc__" = pure none:=by rw [typeLookup_type,builtinLookup_eq_fast]; kernel_rfl
theorem zdR {α : Type} {p : α -> Bool} : ∀ {l : List α},(∀ c ∈ l,p c = true) -> l.takeWhile p = l
 | [],_=>rfl
 | c :: l,h=>by rw [List.takeWhile_cons,if_pos (h c (List.mem_cons_self ..)),zdR fun d hd=>h d (List.mem_cons_of_mem _ hd)]
theorem zly {f : Array Nat × Bool -> Nat -> Option (Array Nat × Bool)} (hf : ∀ a b d,d < 10 -> f (a,b) (48 + d) = some (a.push d,true)) : ∀ (ds : List Nat) (a : Array Nat) (b : Bool),(∀ d ∈ ds,d < 10) -> List.foldlM f (a,b) (ds.map (48 + ·)) = some (a ++ ds.toArray,b || !ds.isEmpty)
 | [],a,b,_=>by simp
 | d :: ds,a,b,h=>by
   rw [List.map_cons,List.foldlM_cons,hf a b d (h d (List.mem_cons_self ..))]
   show List.foldlM f (a.push d,true) (ds.map (48 + ·)) = _
   rw [zly hf ds _ _ fun e he=>h e (List.mem_cons_of_mem _ he)]
   simp
theorem zo7 {p : Nat -> Bool} (hp : ∀ d,d < 10 -> p (48 + d) = false) (ds : List Nat) (h : ∀ d ∈ ds,d < 10) (pre : List Nat) (ne : ds ≠ []) : ((pre ++ ds.map (48 + ·)).reverse.dropWhile p).reverse = pre ++ ds.map (48 + ·):=by
 obtain ⟨l,d,rfl⟩ : ∃ l d,ds = l ++ [d]:=⟨ds.dropLast,ds.getLast ne,(List.dropLast_concat_getLast ne).symm⟩
 rw [List.map_append,List.map_cons,List.map_nil,<- List.append_assoc,List.reverse_append,List.reverse_singleton,List.singleton_append,List.dropWhile_cons,hp d (h d (by simp))]
 simp
theorem zmM : ∀ d,d < 10 -> (48 + d == 32 || decide (9 <= 48 + d) && decide (48 + d <= 13)) = false:=by decide
theorem zgB (x : Str) (u : Tok) (ds : List Nat) (ne : ds ≠ []) (hd : ∀ d ∈ ds,d < 10) (hlead : ds.head? = some 0 -> ds.length = 1) (hx : x.cps.toList = ds.map (48 + ·)) (hl : ds.length <= 640) :
   Meets (Builtin.«int.__new__» ⟨[.type "int",.str x u],[]⟩) (Made.int (zin ds)).spec :=
 Meets.of_wp fun prog w A R s hs=>by
   have hasc : x.cps.all (· < 128) = true:=by
     rw [<- Array.all_toList,hx,List.all_eq_true]
     intro c hc
     obtain ⟨d,h1,rfl⟩:=List.mem_map.mp hc
     have:=hd d h1
     exact decide_eq_true (by omega)
   have h0 : ∀ c ∈ ds.map (48 + ·),(c != 0) = true:=fun c hc=>by
     obtain ⟨d,h1,rfl⟩:=List.mem_map.mp hc
     simp
   obtain ⟨hp,g,d,tk,os⟩:=s
   have f1:=F.conv_sub_int
   have f2:=F.madeHere_int
   have f3:=zhP
   have f4:=zfE
   have f5:=zfR
   iterate 48 (any_goals (first | assumption | wp_step))
   show wpAny _ _ (pure (some (if (x.cps.all fun x=>decide (x < 128)) = true then x.cps.toList else Unicode.numberText x.cps.toList))) _ _ _
   rw [if_pos hasc,hx]
   refine wpAny_pure ?_
   dsimp only
   k_delta "intFromText"
   have hseen : (ds.map (48 + ·)).takeWhile (fun c=>c != 0) = ds.map (48 + ·):=zdR h0
   dsimp only
   rw [hseen,if_pos (by rw [List.length_map]; exact hl)]
   refine wpAny_bind (wpAny_pure ?_)
   show wpAny _ _ _ _ _ _
   k_delta "readNumeral"
   k_delta "isBlank"
   k_delta "prefixBase?"
   k_delta "numeralDigits?"
   k_delta "digitValue?"
   have hdw : List.dropWhile (fun c=>c == 32 || decide (9 <= c) && decide (c <= 13)) (ds.map (48 + ·)) = ds.map (48 + ·):=by
     cases ds with
     | nil=>rfl
     | cons d ds=>rw [List.map_cons,List.dropWhile_cons,zmM d (hd d (List.mem_cons_self ..))]; rfl
   rw [hdw]
   have hbr:=zo7 (p:=fun c=>c == 32 || decide (9 <= c) && decide (c <= 13)) zmM ds hd [] ne
   rw [List.nil_append] at hbr
   cases ds with
   | nil=>exact absurd rfl ne
   | cons d0 za1 =>
     have hd0:=hd d0 (List.mem_cons_self ..)
     have hsz : ¬ ((#[] ++ (d0 :: za1).toArray).size > 6000):=by simp; simp at hl; omega
     have fin : wpAny (model prog w) A.in1 (mkInt ((zin (d0 :: za1) : Nat) : Int)) (fun a s'=>wpAny (model prog w) A.in1 (ret a) (fun fin s'=>∃ v,fin = Fin.done (Flow.ret v) /\ R (Except.ok (Flow.ret v)) s') (fun e s'=>R (Except.error e) s') s') (fun e s'=>R (Except.error e) s') { heap:=hp,gens:=g,drawn:=d,toks:=tk,os:=os }:=by
       repeat (any_goals (first | assumption | wp_step))
       exact ⟨_,rfl,hs⟩
     have hval : Array.foldl (fun acc d=>acc * 10 + d) 0 (#[] ++ (d0 :: za1).toArray) = zin (d0 :: za1):=by simp [zin]
     have hbr2 : ((List.dropWhile (fun c=>c == 32 || decide (9 <= c) && decide (c <= 13)) ((48 + d0) :: za1.map (48 + ·)).reverse).reverse) = (d0 :: za1).map (48 + ·):=hbr
     clear h0 hx hasc hseen hdw hs f1 f2 f3 f4 f5 hbr
     rw [List.map_cons]
     by_cases hz : d0 = 0
     . have hr : za1 = []:=by
         have:=hlead (by rw [hz]; rfl)
         cases za1 with
         | nil=>rfl
         | cons _ _=>simp at this
       subst hr hz
       dsimp only [Nat.reduceAdd] at hbr2 ⊢
       simp only [beq_iff_eq,Nat.reduceEqDiff,Bool.or_self,Bool.false_eq_true,if_false,ite_false,List.map_nil] at hbr2 ⊢
       rw [hbr2,zly ?hf [0] #[] false hd]
       case hf =>
         intro a b d h
         rcases (show d = 0 \/ d = 1 \/ d = 2 \/ d = 3 \/ d = 4 \/ d = 5 \/ d = 6 \/ d = 7 \/ d = 8 \/ d = 9 by omega) with rfl | rfl | rfl | rfl | rfl | rfl | rfl | rfl | rfl | rfl <;> rfl
       simp only [Option.bind_eq_bind,Option.bind_some,List.isEmpty_cons,Bool.not_false,Bool.or_true,if_true,if_pos,bne_self_eq_false,Bool.and_false,Bool.false_and,Bool.false_eq_true,if_false,decide_eq_false hsz,Bool.and_false]
       rw [hval]
       exact fin
     . rcases (show d0 = 1 \/ d0 = 2 \/ d0 = 3 \/ d0 = 4 \/ d0 = 5 \/ d0 = 6 \/ d0 = 7 \/ d0 = 8 \/ d0 = 9 by omega) with rfl | rfl | rfl | rfl | rfl | rfl | rfl | rfl | rfl
       all_goals
         dsimp only [Nat.reduceAdd] at hbr2 ⊢
         simp only [beq_iff_eq,Nat.reduceEqDiff,Bool.or_self,Bool.false_eq_true,if_false,ite_false]
         rw [hbr2,zly ?hf _ #[] false hd]
         case hf =>
           intro a b d h
           rcases (show d = 0 \/ d = 1 \/ d = 2 \/ d = 3 \/ d = 4 \/ d = 5 \/ d = 6 \/ d = 7 \/ d = 8 \/ d = 9 by omega) with rfl | rfl | rfl | rfl | rfl | rfl | rfl | rfl | rfl | rfl <;> rfl
         simp only [Option.bind_eq_bind,Option.bind_some,List.isEmpty_cons,Bool.not_false,Bool.or_true,if_true,if_pos,bne_self_eq_false,Bool.and_false,Bool.false_and,Bool.false_eq_true,if_false,decide_eq_false hsz,Bool.and_false]
         rw [hval]
         exact fin
set_option maxHeartbeats 200000
theorem zmc {prog : Program} {w : World} {A : Around} {E : Value -> Shared -> Prop} {s : Shared} {x y : Str} {t u : Tok} {Q : Value -> Shared -> Prop} (hy : (y.length == 0) = false)
   (hq : ∀ (l : List (Str × Tok)) (h' : Heap) (k c : Nat),l.map (·.1) = Txt.split x y -> (∀ b o,s.heap.get? b = some o -> h'.get? b = some o) -> h'.get? s.heap.objs.size = some { cls:=.type "list",dict:=none,data:=.seq (strValues l).toArray c,slots:=#[] } -> Q (.ref s.heap.objs.size) { s with heap:=h',toks:=k })
   (hsz : x.length <= sizeLine) (hsz2 : (Txt.split x y).length <= sizeLine) :
   wpAny (model prog w) A (call (.builtin "str.split") [.str x t,.str y u]) Q E s:=by
 cases h1 : (decide (x.length < y.length) || decide (Builtin.Str.strKind x < Builtin.Str.strKind y))
 . cases hf : (Builtin.Str.occurrences x y 0 x.length (x.length + 1)).isEmpty
   . refine call_meets F.slot_str_split (typeIs_str _ _ _) F.entry_str_split (F.args_str_split_2 _ _) (meets_str_split_sep x y t u h1 hy hf hsz (by unfold Txt.split at hsz2; rw [if_neg (ne_true_of_eq_false h1),if_neg (ne_true_of_eq_false hf)] at hsz2; exact hsz2)) ?_
     show wants Q E _ { s with toks:=_,heap:=s.heap.push { cls:=.type "list",data:=.seq (strsFrom s.toks (Builtin.Str.partsBetween x (Builtin.Str.occurrences x y 0 x.length (x.length + 1)) y.length)).toArray } }
     rw [strsFrom_eq]
     exact hq (numbered s.toks _) _ _ _ ((numbered_texts _ _).trans ((if_neg (ne_true_of_eq_false h1)).trans (if_neg (ne_true_of_eq_false hf))).symm) (fun b o e=>Heap.get?_push_of_some _ e) (Heap.get?_push_size _ rfl)
   . exact call_meets F.slot_str_split (typeIs_str _ _ _) F.entry_str_split (F.args_str_split_2 _ _) (meets_str_split_not_found x y t u h1 hy hf)
       (hq [(x,t)] _ s.toks _ ((if_neg (ne_true_of_eq_false h1)).trans (if_pos hf)).symm (fun b o e=>Heap.get?_push_of_some _ e) (Heap.get?_push_size _ rfl))
 . exact call_meets F.slot_str_split (typeIs_str _ _ _) F.entry_str_split (F.args_str_split_2 _ _) (meets_str_split_cannot_occur x y t u h1)
     (hq [(x,t)] _ s.toks _ (if_pos h1).symm (fun b o e=>Heap.get?_push_of_some _ e) (Heap.get?_push_size _ rfl))
theorem zg3 : ∀ l : List (Str × Tok),zak ((l.map (·.1)).map V.str) (strValues l)
 | []=>.nil
 | (x,t) :: l=>.cons ⟨t,rfl⟩ (zg3 l)
def zfY : V -> List V -> Hp -> VK -> Prop:=fun x vs H Q=>∃ (s y : Str),x = .str s /\ vs = [.str y] /\ (y.length == 0) = false /\ s.length <= sizeLine /\ (Txt.split s y).length <= sizeLine /\ ∀ l,H l = none -> Q (.ref l) (upd H l (.lst ((Txt.split s y).map V.str)))
theorem ziA {X : Cx} : MtM X "str.split" zfY:=by
 intro pins s σ H x vs v us Q I rx rv h
 obtain ⟨z,y,rfl,rfl,hy,h1,h2,q⟩:=h
 obtain ⟨t,rfl⟩:=rx
 obtain ⟨u,rfl,ru⟩:=rv.one
 obtain ⟨t2,rfl⟩:=ru
 refine zmc hy (fun l h' k c hl kp e=>?_) h1 h2
 refine ⟨.ref s.heap.objs.size,_,I.laid (t':=k) kp (Nat.le_refl _) (show zbe X.prog X.w _ h' _ (.lst ((Txt.split z y).map V.str)) from ⟨by rw [List.length_map]; exact h2,strValues l,c,?_,e⟩),rfl,q _ (I.hok.fresh (Nat.le_refl _))⟩
 rw [<- hl]
 exact zg3 l
def zmP : List V -> Hp -> VK -> Prop:=fun xs H Q=>∃ n : Nat,xs = [.str (zbP n)] /\ (za8 n).length <= 640 /\ Q (.int (n : Int)) H
theorem zkX {X : Cx} : zah X (.type "int") zmP:=by
 intro pins s σ H xs us Q I r h
 obtain ⟨n,rfl,hl,q⟩:=h
 obtain ⟨u,rfl,rx⟩:=zcD r
 obtain ⟨t,rfl⟩:=rx
 have g:=zgB (zbP n) t (za8 n) (zfy n) (zdB n) (zkM n) (by simp [zbP]) hl
 rw [zfX] at g
 exact call_int_1 g (show (Made.int (n : Int)).post _ s from ⟨rfl,⟨.int (n : Int),H,I.tok _,⟨_,rfl⟩,q⟩⟩)
def Its (x : Str) : It where
 go:=fun i _=>i < x.length
 yld:=fun i H v H'=>H' = H /\ ∃ c,x.cps[i]? = some c /\ v = .str ⟨#[c]⟩
 stop:=fun i _=>x.length <= i
theorem zmx {P : Program} {w : World} {K : PySem.W.Frag} {tg : Expr} (x : Str) (t : Tok) (it : Addr) : zhz P w K tg (Its x) [it] it (fun i h=>h.IsStrIter it "str_ascii_iterator" x t i) where
 mem:=by simp
 obj:=fun i h st b hb=>by
   have e : b = it:=by simpa using hb
   subst e
   obtain ⟨o,e,c,d⟩:=st
   exact ⟨o,e,fun v z=>by rw [d] at z; cases z⟩
 keep:=fun i h h' st k=>by
   obtain ⟨o,e,c,d⟩:=st
   exact ⟨o,k it (by simp) o e,c,d⟩
 item:=by
   intro X hP hw hK hc i pins s σ H E I hf st hg
   subst hP hw hK
   have hg : i < x.cps.size:=hg
   obtain ⟨f0,f1,f2,f3,f4,f5⟩:=hf it (by simp)
   refine wpAny_pyNext_ascii_item st (c:=x.cps[i]) (by simp [hg]) fun h' st' sb=>?_
   have I1 : Inv X pins σ H { s with heap:=h',toks:=s.toks + 1 }:=I.turned (t':=s.toks + 1) (fun b o hb e=>(sb.2 b hb).trans e) f0 f1 f3 f4 f5
   obtain ⟨o,e,c,d⟩:=id st'
   exact ⟨_,rfl,zki (s:={ s with heap:=h',toks:=s.toks + 1 }) e c d (by decide) ⟨.str ⟨#[x.cps[i]]⟩,H,I1,⟨_,rfl⟩,⟨rfl,_,by simp [hg],rfl⟩,st',fun b hb=>(hf b hb).1⟩⟩
 done:=by
   intro X hP hw hK hc i pins s σ H E I hf st hg
   subst hP hw hK
   have hg : x.cps.size <= i:=hg
   obtain ⟨f0,f1,f2,f3,f4,f5⟩:=hf it (by simp)
   exact wpAny_pyNext_ascii_end (I.ok.hd hc) st (by simp; omega) fun h' eb=>⟨rfl,I.turned (t':=s.toks) (fun b o hb e=>eb b o hb e) f0 f1 f3 f4 f5⟩
 self:=fun _ _ _ _ _ st h=>wpAny_pyIter_striter_ascii st h
end L2
set_option Elab.async false
set_option linter.all false
set_option maxRecDepth 100000
namespace L2
open PySem PySem.Spec PyProof.Rows GM
def zqe (ta : TE) : TI:=fun σ H R=>ta σ H fun v H1=>∃ x : Str,v = .str x /\ x.cps.all (· < 128) = true /\ R (Its x) H1
theorem zoW {X : Cx} {tg l : Expr} {ta : TE} (hl : PE X l ta) : PI X tg l (zqe ta):=by
 intro pins s σ H R I h
 refine thn (hl pins s σ H _ I h) fun v s1 ⟨y,H1,I1,r1,q1⟩=>?_
 obtain ⟨x,rfl,ha,q⟩:=q1
 obtain ⟨t,rfl⟩:=r1
 refine wpAny_pyIter_ascii ha ?_
 refine ⟨s1.heap.objs.size,[s1.heap.objs.size],_,_,H1,rfl,I1.kept (t':=s1.toks) fun b o e=>Heap.get?_push_of_some _ e,zmx x t _,⟨_,Heap.get?_push_size _ rfl,rfl,rfl⟩,fun b hb=>?_,q⟩
 have e : b = s1.heap.objs.size:=by simpa using hb
 subst e
 exact I1.fpOk (Nat.le_refl _) (I1.hok.fresh (Nat.le_refl _))
def zoz (g : TG) (tt : TT) (te : TE) (src : List (Option Nat)) (σ : St) (v : V) (H1 : Hp) (Q : VK) : Prop :=
 ∃ x : Str,v = .str x /\ x.cps.all (· < 128) = true /\ ∀ D,H1 D = none -> zcL g tt te (Its x) D (zas src σ) (upd H1 D (.lst [])) (fun H'=>Q (.ref D) H')
section
variable {K : PySem.W.Frag} {g : TG} {tt : TT} {te ta : TE} {src : List (Option Nat)} {σ : St} {H : Hp} {Q : VK}
theorem zjh (h : ta σ H fun x H1=>zoz g tt te src σ x H1 Q) : zfh src (zqe ta) g tt te σ H Q:=h
theorem zjq {x : Str} (ha : x.cps.all (· < 128) = true) (Pv : Addr -> Nat -> List V -> St -> Hp -> Prop) (h0 : ∀ D H',H D = none -> zad H H' -> H' D = some (.lst []) -> Pv D 0 [] (zas src σ) H')
   (hs : ∀ D (i : Nat) c ys σ' H',x.cps[i]? = some c -> Pv D i ys σ' H' -> zcA Pv g tt te D i (.str ⟨#[c]⟩) σ' H') (hd : ∀ D ys σ' H',Pv D x.length ys σ' H' -> Q (.ref D) H') : zoz g tt te src σ (.str x) H Q:=by
 refine ⟨x,rfl,ha,fun D hD=>zeq (N:=x.length) Pv (fun i v=>∃ c,x.cps[i]? = some c /\ v = .str ⟨#[c]⟩) (h0 D _ hD (zad.upd hD) zal) (fun i ys σ' H' hp hi=>hi) (fun i ys σ' H' hp hi=>hi) (fun i ys σ' H' v H2 hp hy=>⟨hy.1,hy.2⟩)
   (fun i v ys σ' H' hi hit hp=>?_) (hd D)⟩
 obtain ⟨c,hc,rfl⟩:=hit
 exact hs D i c ys σ' H' hc hp
end
def TJ:=St -> Hp -> Str -> (Str -> Hp -> Prop) -> Prop
def PJ (X : Cx) (es : List Expr) (tj : TJ) : Prop:=∀ (pins : List (Addr × Obj)) (s : Shared) (σ : St) (H : Hp) (Q : VK) (acc : Str),Inv X pins σ H s -> tj σ H acc (fun out H1=>Q (.str out) H1) ->
 Joins (model X.prog X.w) X.A X.xe (evalEach es X.env) acc (fun out s1=>out.length <= sizeLine /\ EP X pins σ Q (.str out s1.toks) { s1 with toks:=s1.toks + 1 }) s
def zlM : TJ:=fun σ H acc Q=>acc.length <= sizeLine /\ Q acc H
def zlj (x : Str) (tj : TJ) : TJ:=fun σ H acc Q=>(acc ++ x).length <= sizeLine /\ tj σ H (acc ++ x) Q
def zmJ (te : TE) (tj : TJ) : TJ:=fun σ H acc Q=>te σ H fun v H1=>∃ y : Str,v = .str y /\ y.length <= sizeLine /\ (acc ++ y).length <= sizeLine /\ tj σ H1 (acc ++ y) Q
def zhs (tj : TJ) : TE:=fun σ H Q=>tj σ H Str.empty (fun out H1=>Q (.str out) H1)
section
variable {X : Cx} {es : List Expr} {e v1 v2 : Expr} {te : TE} {tj : TJ} {pos pp : Pos} {x : Str}
theorem zlr : PJ X [] zlM:=fun pins s σ H Q acc I h=>⟨h.1,.str acc,H,I.tok _,⟨_,rfl⟩,h.2⟩
theorem zmC {j} (h : PJ X es tj) : PJ X (.Constant (.str x) j pos :: es) (zlj x tj):=by
 intro pins s σ H Q acc I q
 show wpAny _ _ (eval (.Constant (.str x) j pos) X.env) _ _ s
 exact Calls.Constant_str ⟨x,_,rfl,q.1,h pins _ σ H Q (acc ++ x) (I.tok _) q.2⟩
theorem zmG (he : PE X e te) (h : PJ X es tj) : PJ X (.FormattedValue e (-1) none pos :: es) (zmJ te tj):=by
 intro pins s σ H Q acc I q
 show wpAny _ _ (eval (.FormattedValue e (-1) none pos) X.env) _ _ s
 refine wpAny_FormattedValue_plain (thn (he pins s σ H _ I q) fun v s1 ⟨y,H1,I1,r1,q1⟩=>?_)
 obtain ⟨z,rfl,hz,hl,q⟩:=q1
 obtain ⟨t,rfl⟩:=r1
 exact wpAny_formatField_str ⟨z,_,rfl,hl,h pins _ σ H1 Q (acc ++ z) I1 q⟩ ⟨z,_,rfl,hl,h pins _ σ H1 Q (acc ++ z) (I1.tok _) q⟩ hz
theorem zjU (h : PJ X (v1 :: v2 :: es) tj) : PE X (.JoinedStr (v1 :: v2 :: es) pos) (zhs tj):=fun pins s σ H Q I q=>wpAny_JoinedStr (h pins s σ H Q Str.empty I q)
end
section
variable {σ : St} {H : Hp} {Q : VK} {QS : Str -> Hp -> Prop} {te : TE} {tj : TJ} {acc x y : Str}
theorem znI (h : tj σ H Str.empty (fun out H1=>Q (.str out) H1)) : zhs tj σ H Q:=h
theorem zqU (h1 : (acc ++ x).length <= sizeLine) (h : tj σ H (acc ++ x) QS) : zlj x tj σ H acc QS:=⟨h1,h⟩
theorem zp9 (h : te σ H fun v H1=>∃ y : Str,v = .str y /\ y.length <= sizeLine /\ (acc ++ y).length <= sizeLine /\ tj σ H1 (acc ++ y) QS) : zmJ te tj σ H acc QS:=h
theorem zqV (h1 : acc.length <= sizeLine) (h : QS acc H) : zlM σ H acc QS:=⟨h1,h⟩
end
def zlF : List V -> Hp -> VK -> Prop:=fun xs H Q=>∃ z : Str,xs = [.str z] /\ z.length <= sizeLine /\ Q (.int z.length) H
theorem zkx {X : Cx} : zah X (.builtin "len") zlF:=zhC
def zgD : List V -> Hp -> VK -> Prop:=fun xs H Q=>∃ i : Int,xs = [.int i] /\ i.natAbs.log2 < 1920 /\ Q (.str (toString i)) H
theorem zeI {X : Cx} : zah X (.type "str") zgD:=zhk
def zoZ : R2:=fun x y H Q=>∃ i j : Str,x = .str i /\ y = .str j /\ Q (.bl (!(Builtin.Str.occurrences j i 0 j.length 1).isEmpty)) H
theorem zpb {X : Cx} : OpR X (compareOp .In) zoZ:=zkP
def zd4 (K : PySem.W.Frag) : V -> List V -> Hp -> VK -> Prop:=fun x vs H Q=>∃ (sep : Str) (l : Addr) (ts : List Str) (B : Nat),x = .str sep /\ vs = [.ref l] /\ SqL K H l (ts.map V.str) /\ (∀ y ∈ ts,y.length <= B) /\ ts.length * B + ts.length * sep.length <= 16777216 /\ Q (.str (Str.join sep ts)) H
theorem zdr {X : Cx} : MtM X "str.join" (zd4 X.K):=by
 intro pins s σ H x vs v us Q I rx rv h
 obtain ⟨sep,l,ts,B,rfl,rfl,hl,hB,hz,q⟩:=h
 obtain ⟨tk,rfl⟩:=rx
 obtain ⟨u,rfl,ru⟩:=rv.one
 cases ru
 obtain ⟨its,r,p,_⟩:=I.list hl
 obtain ⟨lt,rfl,e2⟩:=zkc r
 refine SC.join p.isList e2 ?_ (fun t' k=>⟨.str _,H,I.tok _,⟨_,rfl⟩,?_⟩)
 . unfold JoinOk
   rw [StrLaws.joinFits hB hz]
   rfl
 . rw [show Txt.join sep ts = Str.join sep ts from StrLaws.glued_eq_join sep ts]
   exact q
section
variable {K : PySem.W.Frag} {H H' : Hp} {Q : VK} {a : Addr} {x y : Str} {ts : List Str} {n : Nat} {i : Int}
theorem zdb {B : Nat} (h : SqL K H a (ts.map V.str)) (hB : ∀ y ∈ ts,y.length <= B) (hz : ts.length * B + ts.length * x.length <= 16777216) (q : Q (.str (Str.join x ts)) H) : zd4 K (.str x) [.ref a] H Q:=⟨x,a,ts,B,rfl,rfl,h,hB,hz,q⟩
theorem zh6 (hy : (y.length == 0) = false) (h1 : x.length <= sizeLine) (h2 : (Txt.split x y).length <= sizeLine) (q : ∀ l H',H l = none -> zad H H' -> H' l = some (.lst ((Txt.split x y).map V.str)) -> Q (.ref l) H') : zfY (.str x) [.str y] H Q :=
 ⟨x,y,rfl,rfl,hy,h1,h2,fun l hl=>q l _ hl (zad.upd hl) zal⟩
theorem zne (hl : (za8 n).length <= 640) (q : Q (.int (n : Int)) H) : zmP [.str (zbP n)] H Q:=⟨n,rfl,hl,q⟩
theorem zjQ (h : i.natAbs.log2 < 1920) (q : Q (.str (toString i)) H) : zgD [.int i] H Q:=⟨i,rfl,h,q⟩
theorem znZ (h : x.length <= sizeLine) (q : Q (.int x.length) H) : zlF [.str x] H Q:=⟨x,rfl,h,q⟩
theorem zpa (q : Q (.bl (!(Builtin.Str.occurrences y x 0 y.length 1).isEmpty)) H) : zoZ (.str x) (.str y) H Q:=⟨x,y,rfl,rfl,q⟩
theorem zih (hx : PyData.strOk x = true) (hy : PyData.strOk y = true) (q : Q (.bl (x == y)) H) : zgA K (.str x) (.str y) H Q :=
 zpl (d:=.str x) (e:=.str y) (zbS.mpr rfl) (zbS.mpr rfl) (by simp [PySem.SeqAt.shaped,PyData.canLay0,PyData.depth,hx]) (by simp [PySem.SeqAt.shaped,PyData.canLay0,PyData.depth,hy]) (by rw [PyData.eqv]; exact q)
theorem zgk (hx : PyData.strOk x = true) (hy : PyData.strOk y = true) (q : Q (.bl (!(x == y))) H) : zeW K (.str x) (.str y) H Q :=
 zmS (d:=.str x) (e:=.str y) (zbS.mpr rfl) (zbS.mpr rfl) (by simp [PySem.SeqAt.shaped,PyData.canLay0,PyData.depth,hx]) (by simp [PySem.SeqAt.shaped,PyData.canLay0,PyData.depth,hy]) (by rw [PyData.eqv]; exact q)
end
def zpP : Str:=⟨#[48,49,50,51,52,53,54,55,56,57]⟩
theorem zpA : ∀ d,d < 10 -> (!(Builtin.Str.occurrences zpP ⟨#[48 + d]⟩ 0 zpP.length 1).isEmpty) = true:=by decide +kernel
end L2
set_option Elab.async false
set_option linter.all false
set_option maxRecDepth 100000
namespace L2
open PySem PySem.Spec PyProof.Rows GM
section
variable {prog : Program} {w : World} {A : Around} {R : Result -> Shared -> Prop} {I : Addr} {fp wr : List Addr} {n : Nat} {P : Nat -> Value -> Prop} {St : Nat -> Heap -> Prop}
open PyProof.V PySem.Calls in
theorem zky (W : Walks prog w A.in1 I fp wr n P St) (s0 : Shared)
   (tr : ∀ i v (s : Shared) (Q : Bool -> Shared -> Prop) (E : Value -> Shared -> Prop),P i v -> (∀ b o,b ∉ wr -> s0.heap.get? b = some o -> s.heap.get? b = some o) -> (∀ tk,Q true { s with toks:=tk }) -> wpAny (model prog w) A.in1 (truthy v) Q E s)
   (done : ∀ h' tk,(∀ b o,b ∉ wr -> s0.heap.get? b = some o -> h'.get? b = some o) -> R (.ok (.ret (.bool true))) { s0 with heap:=h',toks:=tk }) :
   ∀ (k i : Nat) (h : Heap) (tk),n - i = k -> i <= n -> St i h -> (∀ b o,b ∉ wr -> s0.heap.get? b = some o -> h.get? b = some o) ->
     codeAny (model prog w) A (.builtin "all.loop" ⟨[.ref I],[]⟩) R { s0 with heap:=h,toks:=tk }:=by
 intro k
 induction k with
 | zero =>
   intro i h tk hk hi hst kp
   obtain rfl : i = n:=by omega
   refine codeAny_builtin F.entry_all_loop ?_
   rw [Around.under_plainId F.plain_all_loop _]
   show wpAny _ A.in1 (pyNext (.ref I) >>= _) _ _ _
   refine wpAny_bind (W.done _ _ _ hst fun h' tk' hk'=>?_)
   exact wpAny_bind (wpAny_rule (wpAny_pure (done h' tk' fun b o hb e=>hk' b o hb (kp b o hb e))))
 | succ k ih =>
   intro i h tk hk hi hst kp
   have hlt : i < n:=by omega
   refine codeAny_builtin F.entry_all_loop ?_
   rw [Around.under_plainId F.plain_all_loop _]
   show wpAny _ A.in1 (pyNext (.ref I) >>= _) _ _ _
   refine wpAny_bind (W.item i _ _ _ hlt hst fun v h' tk' hP hst' hk'=>?_)
   have kp' : ∀ b o,b ∉ wr -> s0.heap.get? b = some o -> h'.get? b = some o:=fun b o hb e=>hk' b o hb (kp b o hb e)
   refine wpAny_bind (wpAny_holding (tr i v _ _ _ hP kp' fun tk2=>?_))
   refine wpAny_bind (wpAny_letGo ?_)
   simp only [if_true]
   exact wpAny_pure ⟨plainId_quiet F.plain_all_loop _,ih (i + 1) h' _ (by omega) hlt hst' kp'⟩
end
def zlO (K : PySem.W.Frag) : List V -> Hp -> VK -> Prop:=fun xs H Q=>∃ (p : Addr) (as : List Addr),xs = [.ref p] /\ SqL K H p (as.map V.ref) /\ (∀ a ∈ as,∃ ys,SqT K H a ys /\ ys ≠ []) /\ Q (.bl true) H
theorem znj {as : List Addr} : ∀ {us : List Value},zak (as.map V.ref) us -> us = as.map Value.ref:=by
 induction as with
 | nil=>intro us r; rw [List.map_nil] at r; cases r; rfl
 | cons b bs ih =>
   intro us r
   rw [List.map_cons] at r
   cases r with
   | cons r1 r2 =>
     cases r1
     rw [List.map_cons,ih r2]
open PyProof.V PySem.Calls in
theorem zkK {X : Cx} (hc : X.calm = true) : zah X (.builtin "all") (zlO X.K):=by
 intro pins s σ H xs us Q I r h
 obtain ⟨p,as,rfl,hq,ht,q⟩:=h
 obtain ⟨u,rfl,rx⟩:=zcD r
 cases rx
 obtain ⟨its,r',pl,hz⟩:=I.list hq
 have hi : its = as.map Value.ref:=znj r'
 have hl : s.heap.IsList p its.toArray:=pl.isList
 have hlt : p < s.heap.objs.size:=by obtain ⟨_,e,_⟩:=hl; exact Heap.lt_size e
 refine call_function_tree F.kind_all F.plain_all F.entry_all (F.args_all1 _) ?_
 unfold Builtin.«all»
 refine wpAny_bind (m:=oneArg "all" _) (wpAny_pure ?_)
 refine wpAny_bind (wpAny_pyIter_list hl ?_)
 refine wpAny_pure ⟨plainId_quiet F.plain_all_loop _,?_⟩
 refine zky (Walks.list (A:=X.A.in1) (I.ok.hd hc) _ p (Nat.ne_of_lt hlt) its.toArray) _ (fun i v s' Q' E' hP kp hQ=>?_) (fun h' tk hk=>?_) _ 0 _ _ rfl (Nat.zero_le _) ⟨⟨_,Heap.get?_push_size _ rfl,rfl,rfl⟩,hl.push _⟩ (fun b o _ e=>Heap.get?_push_of_some _ e)
 . have hP : its.toArray[i]? = some v:=hP
   rw [hi] at hP
   simp only [List.getElem?_toArray,List.getElem?_map,Option.map_eq_some_iff] at hP
   obtain ⟨a,e,rfl⟩:=hP
   obtain ⟨ys,sy,ne⟩:=ht a (List.mem_of_getElem? e)
   obtain ⟨ts,r2,⟨o,e2,e3⟩,z2⟩:=I.tuple sy
   have hlen:=r2.length
   have e4 : s'.heap.get? a = some o:=kp a o (fun hm=>by rw [List.mem_singleton.mp hm] at e2; exact Nat.lt_irrefl _ (Heap.lt_size e2)) e2
   rw [sizeLine_eq] at z2
   refine truthy_tuple ⟨o,e4,e3⟩ (by simp only [List.size_toArray]; omega) ?_
   rw [zei r2]
   cases ys with
   | nil=>exact absurd rfl ne
   | cons y ys=>exact hQ _
 . exact ⟨.bl true,H,I.kept (t':=tk) (fun b x e=>hk b x (fun hm=>by rw [List.mem_singleton.mp hm] at e; exact Nat.lt_irrefl _ (Heap.lt_size e)) e),rfl,q⟩
theorem znO {K : PySem.W.Frag} {H : Hp} {Q : VK} {v : V} {rows : List (List Int)} (h : Is K H v (.list (rows.map TZ))) (hr : ∀ r ∈ rows,r ≠ []) (q : Q (.bl true) H) : zlO K [v] H Q:=by
 obtain ⟨p,xs,rfl,sl,tx⟩:=zav.mp h
 have f : ∀ y ∈ xs,∃ b ys,y = V.ref b /\ SqT K H b ys /\ ys ≠ []:=fun y hy=>by
   obtain ⟨j,hj,rfl⟩:=List.mem_iff_getElem.mp hy
   obtain ⟨hj2,iy⟩:=zbt tx (List.getElem?_eq_getElem hj)
   rw [List.length_map] at hj2
   rw [List.getD_eq_getElem?_getD,List.getElem?_map,List.getElem?_eq_getElem hj2] at iy
   obtain ⟨b,e,s⟩:=zck.mp (show Is K H xs[j] (TZ rows[j]) from iy)
   refine ⟨b,_,e,s,fun z=>hr _ (List.getElem_mem hj2) (List.map_eq_nil_iff.mp z)⟩
 have g : ∀ {xs : List V},(∀ y ∈ xs,∃ b ys,y = V.ref b /\ SqT K H b ys /\ ys ≠ []) -> ∃ as : List Addr,xs = as.map V.ref /\ ∀ a ∈ as,∃ ys,SqT K H a ys /\ ys ≠ []:=by
   intro xs
   induction xs with
   | nil=>exact fun _=>⟨[],rfl,by simp⟩
   | cons y r ih =>
     intro h
     obtain ⟨b,ys,rfl,s,ne⟩:=h y (by simp)
     obtain ⟨as,rfl,t⟩:=ih (fun z hz=>h z (List.mem_cons_of_mem _ hz))
     refine ⟨b :: as,rfl,fun c hc=>?_⟩
     rcases List.mem_cons.mp hc with rfl | hc
     . exact ⟨ys,s,ne⟩
     . exact t c hc
 obtain ⟨as,rfl,t⟩:=g f
 exact ⟨p,as,rfl,sl,t,q⟩
end L2
namespace G
open PySem PySem.Spec PyProof.Rows L2 GM
local macro_rules | `(tactic| walk_at "sc")=>`(tactic| exact ⟨rfl,rfl,rfl,by decide +kernel,rfl,by decide +kernel,by decide +kernel⟩)
def top (i : Nat) : Stmt:=PySem.Challenge.pw_glowflock_k56_webs_written_and_read.main.body.getD i (.Pass ⟨0,0,0,0⟩)
abbrev zed : Stmt:=top 5
abbrev zek : List Str:=["thing"]
abbrev zcH:=zek
theorem ziu : zan zek zcH (zac zed):=by walk_at "sc"
abbrev zbR : Stmt:=top 6
abbrev zbQ : List Str:=["least","most","thing"]
abbrev zbh:=zbQ
theorem zeZ : zan zbQ zbh (zac zbR):=by walk_at "sc"
abbrev zdi : Stmt:=top 13
abbrev zdg : List Str:=["thing"]
abbrev zcn:=zdg
theorem zhO : zan zdg zcn (zac zdi):=by walk_at "sc"
abbrev za9 : Stmt:=top 14
abbrev za7 : List Str:=["least","most","thing"]
abbrev zba:=za7
theorem zey : zan za7 zba (zac za9):=by walk_at "sc"
abbrev zc1 : Stmt:=top 15
abbrev zcG : List Str:=["thing"]
abbrev zbX:=zcG
theorem zgy : zan zcG zbX (zac zc1):=by walk_at "sc"
abbrev zdE : Stmt:=top 16
abbrev zdu : List Str:=["thing","rounds"]
abbrev zdx:=zdu
theorem zi4 : zan zdu zdx (zac zdE):=by walk_at "sc"
abbrev zfI : Stmt:=top 17
abbrev zfK : List Str:=["thing","worms"]
abbrev zeD:=zfK
theorem zkT : zan zfK zeD (zac zfI):=by walk_at "sc"
abbrev zb7 : Stmt:=top 18
abbrev zca : List Str:=["thing","worms"]
abbrev zcU:=zca
theorem zil : zan zca zcU (zac zb7):=by walk_at "sc"
abbrev zdm : Stmt:=top 19
abbrev zdk : List Str:=["rounds","ups","ties"]
abbrev zez:=zdk
theorem zkv : zan zdk zez (zac zdm):=by walk_at "sc"
abbrev zbF : Stmt:=top 23
abbrev zbE : List Str:=["wholes"]
abbrev zbG:=zbE
theorem zfJ : zan zbE zbG (zac zbF):=by walk_at "sc"
abbrev zbn : Stmt:=top 24
abbrev zbA : List Str:=["web","worms","ties"]
abbrev zcZ : List Str:=["web"]
theorem zda : zan zbA zcZ (zac zbn):=by walk_at "sc"
abbrev zbi : Stmt:=top 25
abbrev zbk : List Str:=["text","most"]
abbrev zbl:=zbk
theorem zeL : zan zbk zbl (zac zbi):=by walk_at "sc"
abbrev zbK : Stmt:=top 26
abbrev zbO : List Str:=["words"]
abbrev zcm:=zbO
theorem zhR : zan zbO zcm (zac zbK):=by walk_at "sc"
abbrev zd5 : Stmt:=top 27
abbrev zee : List Str:=["text","between"]
abbrev zcM:=zee
theorem ziN : zan zee zcM (zac zd5):=by walk_at "sc"
abbrev zcX : Stmt:=top 28
abbrev zc2 : List Str:=["text"]
abbrev zcV:=zc2
theorem ziZ : zan zc2 zcV (zac zcX):=by walk_at "sc"
abbrev zbY : Stmt:=top 29
abbrev zbW : List Str:=["lines","first"]
abbrev zb1:=zbW
theorem zgu : zan zbW zb1 (zac zbY):=by walk_at "sc"
abbrev zaE : Stmt:=top 30
abbrev zaD : List Str:=["ties"]
abbrev zaN:=zaD
theorem zdn : zan zaD zaN (zac zaE):=by walk_at "sc"
abbrev zbz : Stmt:=top 31
abbrev zcd : List Str:=["text","lines","worms","ties"]
abbrev zcK : List Str:=["text"]
theorem zco : zan zcd zcK (zac zbz):=by walk_at "sc"
abbrev zeJ : Stmt:=top 33
abbrev zg7 : List Str:=["_law_script","_law_k","_law_cell"]
abbrev zdO : List Str:=["_law_script","_law_k"]
theorem zeg : zan zg7 zdO (zac zeJ):=by walk_at "sc"
abbrev zd8 : Stmt:=top 34
abbrev zf3 : List Str:=["_law_pen_here","_law_many","_law_digit","_law_mixed"]
abbrev zcO : List Str:=["_law_pen_here","_law_many"]
theorem zdj : zan zf3 zcO (zac zd8):=by walk_at "sc"
abbrev zcT : Stmt:=top 35
abbrev zd9 : List Str:=["_law_pen_here","_law_many","_law_great","_law_left","_law_delay","_law_a","_law_near","_law_ties_here","_law_k"]
abbrev zcN : List Str:=["_law_pen_here","_law_many","_law_great"]
theorem zaP : zan zd9 zcN (zac zcT):=by walk_at "sc"
abbrev zcz : Stmt:=top 36
abbrev zdD : List Str:=["_law_pen_here","_law_most","_law_great","_law_many","_law_sizes","_law_ups","_law_size","_law_high"]
abbrev zdy : List Str:=["_law_pen_here","_law_most"]
theorem zbo : zan zdD zdy (zac zcz):=by walk_at "sc"
abbrev zb6 : Stmt:=top 37
abbrev zcW : List Str:=["_law_web_here","_law_lines","_law_size","_law_row","_law_tie"]
abbrev zcJ : List Str:=["_law_web_here"]
theorem zbH : zan zcW zcJ (zac zb6):=by walk_at "sc"
abbrev zkb : Stmt:=top 38
abbrev zoE : List Str:=["_law_script","_law_k","_law_drawn","_law_web_here","_law_text_here"]
abbrev zj0 : List Str:=["_law_script"]
theorem zgj : zan zoE zj0 (zac zkb):=by walk_at "sc"
set_option genInjectivity false in
structure Ad where
 is_whole : Addr
 fd_is_whole : FuncData
 is_whole_from : Addr
 fd_is_whole_from : FuncData
 is_listed : Addr
 fd_is_listed : FuncData
 are_whole_from : Addr
 fd_are_whole_from : FuncData
 are_rounds : Addr
 fd_are_rounds : FuncData
 are_ups : Addr
 fd_are_ups : FuncData
 is_tie : Addr
 fd_is_tie : FuncData
 are_ties : Addr
 fd_are_ties : FuncData
 web_of : Addr
 fd_web_of : FuncData
 show_wholes : Addr
 fd_show_wholes : FuncData
 show_web : Addr
 fd_show_web : FuncData
 is_whole_text : Addr
 fd_is_whole_text : FuncData
 wholes_in : Addr
 fd_wholes_in : FuncData
 parts_of : Addr
 fd_parts_of : FuncData
 lines_of : Addr
 fd_lines_of : FuncData
 lines_with : Addr
 fd_lines_with : FuncData
 are_ties_in_order : Addr
 fd_are_ties_in_order : FuncData
 read_web : Addr
 fd_read_web : FuncData
 law_pen : Addr
 fd_law_pen : FuncData
 law_draw : Addr
 fd_law_draw : FuncData
 law_ties : Addr
 fd_law_ties : FuncData
 law_web : Addr
 fd_law_web : FuncData
 law_text : Addr
 fd_law_text : FuncData
 law : Addr
 fd_law : FuncData
 C_NoWeb : Addr
 C_NoText : Addr
structure Dn (K : PySem.W.Frag) (mg : Str -> Option Value) (n : Str) (st : Stmt) (ps : List Str) (f : Addr) (fd : FuncData) : Prop where
 F : Fun K n n st f fd
 g : mg n = some (.ref f)
 b : zhg K fd ps []
section
variable {X : Cx} {x : Str} {f : Addr} {fd : FuncData} {ps : List Str} {sp : Sp} {j k : Nat} {e : Expr} {es : List Expr} {t : TA} {pos pp : Pos} {st : Stmt} {CX : CXT}
theorem pcx {E : XK} (F : za5 X.prog X.w X.K X.mg X.base CX k f fd ps sp) (hr : zct j X.A) (D : Dn X.K X.mg x st ps f fd) (hx : zeX CX X E) (ha : PA X (e :: es) t) (hj : k <= j:=by decide) (hg : Gl X x:=by exact rfl)
   (hdb : (x == ("__debug__" : Str)) = false:=by decide) (he : starEach (e :: es) X.env = (false,eval e X.env) :: starEach es X.env:=by rfl) (hpl : (backTo pos (starEach es X.env)).any (·.1) = false:=by rfl) :
   PE X (.Call (.Name x pp) (e :: es) [] pos) (ziY sp [] E t):=zkr F (hr.mono hj) hg D.g D.F.kp D.b .nil hx ha hdb he hpl
theorem pcl (F : za5 X.prog X.w X.K X.mg X.base CX0 k f fd ps sp) (hr : zct j X.A) (D : Dn X.K X.mg x st ps f fd) (ha : PA X (e :: es) t) (hj : k <= j:=by decide) (hg : Gl X x:=by exact rfl)
   (hdb : (x == ("__debug__" : Str)) = false:=by decide) (he : starEach (e :: es) X.env = (false,eval e X.env) :: starEach es X.env:=by rfl) (hpl : (backTo pos (starEach es X.env)).any (·.1) = false:=by rfl) :
   PE X (.Call (.Name x pp) (e :: es) [] pos) (ziY sp [] E0 t):=zkr F (hr.mono hj) hg D.g D.F.kp D.b .nil zqS ha hdb he hpl
theorem pix {ta : TE} {i : Int} {kd} (ha : PE X e ta) : PE X (.Subscript e (.Constant (.int i) kd pp) pos) (tOp (rIx X.K) ta (tC (.int i))):=zfk zcq ha zaf (fun _ _=>rfl)
theorem zp1 {K : PySem.W.Frag} {ta : TE} {i : Int} {kd} (hr : IxR X (rIx K)) (ha : PE X e ta) : PE X (.Subscript e (.Constant (.int i) kd pp) pos) (tOp (rIx K) ta (tC (.int i))):=zfk hr ha zaf (fun _ _=>rfl)
theorem pst (i : Nat) {te : TE} (hN : X.N.Nodup) (he : PE X e te) (hi : X.N[i]? = some x:=by exact rfl) (hx : Loc X.env.scope x:=by first | exact Or.inl rfl | exact Or.inr rfl) (hs : swapsWith e (some (.Name x pp)) pos.line X.env = pure false:=by rfl) (hf : X.fn x = true \/ X.env.scope.names.lookup x = some .local:=by first | exact .inl rfl | exact .inr rfl | assumption) :
   PS X (.Assign [.Name x pp] e pos) (zmV te (zcv i)):=zoY hN hi hx he hs hf
end
structure Txt (K : PySem.W.Frag) (mg : Str -> Option Value) (a : Ad) : Prop where
 d_is_whole : Dn K mg "is_whole" zed zcH a.is_whole a.fd_is_whole
 d_is_whole_from : Dn K mg "is_whole_from" zbR zbh a.is_whole_from a.fd_is_whole_from
 d_is_listed : Dn K mg "is_listed" zdi zcn a.is_listed a.fd_is_listed
 d_are_whole_from : Dn K mg "are_whole_from" za9 zba a.are_whole_from a.fd_are_whole_from
 d_are_rounds : Dn K mg "are_rounds" zc1 zbX a.are_rounds a.fd_are_rounds
 d_are_ups : Dn K mg "are_ups" zdE zdx a.are_ups a.fd_are_ups
 d_is_tie : Dn K mg "is_tie" zfI zeD a.is_tie a.fd_is_tie
 d_are_ties : Dn K mg "are_ties" zb7 zcU a.are_ties a.fd_are_ties
 d_web_of : Dn K mg "web_of" zdm zez a.web_of a.fd_web_of
 d_show_wholes : Dn K mg "show_wholes" zbF zbG a.show_wholes a.fd_show_wholes
 d_show_web : Dn K mg "show_web" zbn zcZ a.show_web a.fd_show_web
 d_is_whole_text : Dn K mg "is_whole_text" zbi zbl a.is_whole_text a.fd_is_whole_text
 d_wholes_in : Dn K mg "wholes_in" zbK zcm a.wholes_in a.fd_wholes_in
 d_parts_of : Dn K mg "parts_of" zd5 zcM a.parts_of a.fd_parts_of
 d_lines_of : Dn K mg "lines_of" zcX zcV a.lines_of a.fd_lines_of
 d_lines_with : Dn K mg "lines_with" zbY zb1 a.lines_with a.fd_lines_with
 d_are_ties_in_order : Dn K mg "are_ties_in_order" zaE zaN a.are_ties_in_order a.fd_are_ties_in_order
 d_read_web : Dn K mg "read_web" zbz zcK a.read_web a.fd_read_web
 d_law_pen : Dn K mg "_law_pen" zeJ zdO a.law_pen a.fd_law_pen
 d_law_draw : Dn K mg "_law_draw" zd8 zcO a.law_draw a.fd_law_draw
 d_law_ties : Dn K mg "_law_ties" zcT zcN a.law_ties a.fd_law_ties
 d_law_web : Dn K mg "_law_web" zcz zdy a.law_web a.fd_law_web
 d_law_text : Dn K mg "_law_text" zb6 zcJ a.law_text a.fd_law_text
 d_law : Dn K mg "law" zkb zj0 a.law a.fd_law
 z_all : mg "all" = none
 z_bool : mg "bool" = none
 z_int : mg "int" = none
 z_isinstance : mg "isinstance" = none
 z_len : mg "len" = none
 z_list : mg "list" = none
 z_min : mg "min" = none
 z_range : mg "range" = none
 z_repr : mg "repr" = none
 z_set : mg "set" = none
 z_sorted : mg "sorted" = none
 z_str : mg "str" = none
 z_tuple : mg "tuple" = none
 z_zip : mg "zip" = none
 g_NoWeb : mg "NoWeb" = some (.ref a.C_NoWeb)
 g_NoText : mg "NoText" = some (.ref a.C_NoText)
 x_NoWeb : PySem.W.excIn K a.C_NoWeb zia "ValueError.__new__" = true
 x_NoText : PySem.W.excIn K a.C_NoText zia "ValueError.__new__" = true
 c_MOST_WORMS : ∃ t,mg "MOST_WORMS" = some (.int 8 t)
 c_MOST_ROUND : ∃ t,mg "MOST_ROUND" = some (.int 60 t)
 c_MOST_UP : ∃ t,mg "MOST_UP" = some (.int 60 t)
 c_MOST_TIES : ∃ t,mg "MOST_TIES" = some (.int 60 t)
 c_MOST_DELAY : ∃ t,mg "MOST_DELAY" = some (.int 4 t)
 c_FIGURES : ∃ t,mg "FIGURES" = some (.str "0123456789" t)
 c_WHOLE_FIGURES : ∃ t,mg "WHOLE_FIGURES" = some (.int 2 t)
end G
open L2 GM in
local macro_rules | `(tactic| walk_at "is")=>`(tactic| first
 | assumption
 | exact zaK.mpr rfl
 | exact zdN.mpr rfl
 | exact zdI.mpr rfl
 | exact zbS.mpr rfl
 | exact Is.thru (by assumption) (by walk_at "same")
 | exact Is.thruN (by assumption) (by walk_at "keep")
 | exact Is.thruR (by assumption) (by walk_at "keep")
 | ((with_reducible apply is_tupAt); (focus assumption); (focus walk_at "isall"); walk_at "same")
 | ((with_reducible apply is_lstAt); (focus assumption); (focus walk_at "isall"); walk_at "same")
 | ((with_reducible apply is_dctAt); (focus assumption); walk_at "same")
 | fail "is")
open L2 GM in
local macro_rules | `(tactic| walk_at "isall")=>`(tactic| first
 | exact IsAll.nil
 | exact IsAll.cons (by walk_at "is") (by walk_at "isall")
 | fail "isall")
open L2 GM in
local macro_rules | `(tactic| walk_at "ne")=>`(tactic| first
 | assumption
 | (apply Ne.symm; assumption))
/- a list that stands at an address -/
open L2 GM in
local macro_rules | `(tactic| walk_at "lst")=>`(tactic| first
 | assumption
 | exact zad.at (by assumption) (by walk_at "lst")
 | exact Exc.at (by assumption) (by walk_at "ne") (by walk_at "lst")
 | fail "lst")
open L2 GM in
local macro_rules | `(tactic| walk_at "same")=>`(tactic| first
 | assumption
 | exact zad.refl _
 | exact zad.back (by assumption) (by walk_at "same")
 | fail "same")
open L2 GM in
local macro_rules | `(tactic| walk_at "keep")=>`(tactic| first
 | assumption
 | exact zaI.refl _
 | exact zad.keep (by assumption)
 | exact zaI.back (by assumption) (by walk_at "keep")
 | exact zaI.back (zad.keep (by assumption)) (by walk_at "keep")
 | fail "keep")
open L2 GM in
local macro_rules | `(tactic| walk_at "exc")=>`(tactic| first
 | assumption
 | exact Exc.refl _ _
 | exact Exc.back (by assumption) (by walk_at "exc")
 | exact Exc.back (zad.exc (by assumption)) (by walk_at "exc")
 | fail "exc")
open L2 GM in
local macro_rules | `(tactic| walk_at "sqf")=>`(tactic| first
 | assumption
 | exact zaI.sqF (by walk_at "keep") (by assumption)
 | fail "sqf")
/- how great -/
open L2 GM in
local macro_rules | `(tactic| walk_at "bd")=>`(tactic| first
 | assumption
 | exact Bd.mk (n:=128) (by decide)
 | exact Bd.mono (m:=128) ⟨by decide⟩ (by decide)
 | exact Bdr.t (by assumption)
 | exact Bdr.b (by assumption)
 | exact Bd.of128 (by omega) (by omega)
 | (apply Bd.neg; walk_at "bd")
 | (apply Bd.mul; (focus walk_at "bd"); walk_at "bd")
 | (apply Bd.add; (focus walk_at "bd"); walk_at "bd")
 | (apply Bd.sub; (focus walk_at "bd"); walk_at "bd"))
open L2 GM PySem in
local macro_rules | `(tactic| walk_at "mulok")=>`(tactic| first
 | exact IntMulOk.of_right (by decide)
 | exact IntMulOk.of_left (by decide)
 | exact IntMulOk.of_right (intBits_le_64 (by omega) (by omega))
 | exact IntMulOk.of_left (intBits_le_64 (by omega) (by omega))
 | (apply L2.MulBd; (focus walk_at "bd"); (focus walk_at "bd"); (focus decide); decide))
open L2 GM PySem in
local macro_rules | `(tactic| walk_at "side")=>`(tactic| first
 | assumption
 | decide
 | omega
 | walk_at "mulok"
 | (refine And.intro ?_ ?_ <;> walk_at "side")
 | walk_at "bd")
open L2 GM in
local macro_rules | `(tactic| walk_at "gs")=>`(tactic| first
 | walk_at "sq"
 | with_reducible (first | refine zpO ?_ | refine zpK ?_ | refine zpq ?_ | refine zqY ?_)
 | ((with_reducible apply zlq); (focus rfl))
 | with_reducible (first | refine zrh ?_ | refine zkm ?_ | refine zmo ?_ | refine znN ?_ | refine zqh ?_ | refine zns ?_ | refine zoq ?_ | refine zpd ?_ | refine zph ?_ | refine zpZ ?_ | refine zog ?_)
 | ((with_reducible apply zlV); (focus walk_at "side"))
 | with_reducible (first | refine znY ?_ | refine zpi ?_ | refine zoT ?_ | refine znV ?_ | refine zpx ?_)
 | with_reducible refine znd (fun _=>?_) (fun _=>?_)
 | with_reducible refine zmz (fun _=>?_) (fun _=>?_)
 | with_reducible refine znv (fun _=>?_) (fun _=>?_)
 | with_reducible (first | refine zpV ?_ | refine zqo ?_ | refine zoO ?_ | refine znb ?_ | refine zpB ?_ | refine znA ?_ | refine zod ?_ | refine zn1 ?_ | refine znB ?_ | refine zoh ?_ | refine ziJ ?_ | refine zlp ?_ | refine zm9 ?_ | refine zoa ?_)
 | ((with_reducible apply zeM); (focus (apply SqL.of; walk_at "lst")); (focus rfl))
 | ((with_reducible apply zn0); (focus assumption); (focus rfl); intro hN eN lN; dsimp only [Int.reduceToNat,List.set_cons_succ,List.set_cons_zero] at lN)
 | ((with_reducible apply zmI); (focus walk_at "is"))
 | ((with_reducible apply zmu); (focus walk_at "is"))
 | dsimp only [List.set_cons_succ,List.set_cons_zero])
/- one statement behind another: what follows stands behind a name -/
set_option hygiene false in
open L2 GM in
local macro_rules | `(tactic| walk_at "sq")=>`(tactic| with_reducible refine znJ (fun tl_ htl_=>?_))
set_option hygiene false in
open L2 GM in
local macro_rules | `(tactic| walk_at "tl")=>`(tactic| ((with_reducible refine zhv.go (by assumption) ?_); (try clear htl_ tl_)))
/- how great a number is -/
open L2 GM in
local macro_rules | `(tactic| walk_at "bdr0")=>`(tactic| first
 | assumption
 | exact Bdr.zero
 | exact Bdr.one
 | exact Bdr.four
 | (apply Bdr.add; (focus walk_at "bdr0"); walk_at "bdr0")
 | (apply Bdr.sub; (focus walk_at "bdr0"); walk_at "bdr0")
 | (apply Bdr.mul; (focus walk_at "bdr0"); walk_at "bdr0"))
open L2 GM in
local macro_rules | `(tactic| walk_at "bdr")=>`(tactic| first
 | assumption
 | (apply Bdr.mono; (focus walk_at "bdr0"); (first | decide | omega)))
/- .. with new tuples,lists,dicts -/
open L2 GM in
local macro_rules | `(tactic| walk_at "ga1")=>`(tactic| first
 | walk_at "gs"
 | ((with_reducible apply zdL); (focus (simp only [List.length_cons,List.length_nil]; decide)); (focus walk_at "isall"); intro _ _ _ _)
 | ((with_reducible apply zeY); (focus (simp only [List.length_cons,List.length_nil]; decide)); intro _ _ _ _ _)
 | ((with_reducible apply zfv); (focus walk_at "lst"); (focus walk_at "lst"); (focus (simp only [List.length_append,List.length_cons,List.length_nil]; decide)); intro _ _ _ _ _))
local macro_rules | `(tactic| walk_at "ga")=>`(tactic| repeat' (first | walk_at "ga1" | walk_at "tl"))
local macro_rules | `(tactic| walk_at "gg")=>`(tactic| repeat' (first | walk_at "gs" | walk_at "tl"))
local macro_rules | `(tactic| walk_at "gt")=>`(tactic| repeat' (walk_at "gs"))
open L2 GM in
local macro_rules | `(tactic| walk_at "bd128")=>`(tactic| first
 | exact Bd.mono (m:=128) ⟨by decide⟩ (by decide)
 | exact (Bd.of128 (by omega) (by omega)).mono (by decide))
open L2 GM in
local macro_rules | `(tactic| walk_at "gs")=>`(tactic| first
 | with_reducible (first | refine zqb ?_ | refine zk5 ?_ | refine zqf ?_ | refine zm0 ?_ | refine ziB ?_ | refine zde ?_ | refine zlA ?_ | refine zmk ?_ | refine zqL ?_ | refine zlX ?_ | refine zpT ?_)
 | with_reducible refine znf (fun _ _ _ _=>?_)
 | with_reducible (first | refine zlL ?_ | refine zpw ?_ | refine zkB ?_ | refine zmb ?_ | refine zjO ?_ | refine zl1 ?_ | refine zkS ?_ | refine zof ?_ | refine zli ?_)
 | ((with_reducible apply zeM); (focus (apply SqL.of; walk_at "lst")); (focus rfl))
 | ((with_reducible apply znC); (focus walk_at "lst"); (focus omega); (focus omega); intro _ _)
 | ((with_reducible apply zn6); (focus walk_at "lst"); (focus omega); (focus omega); intro _ _))
set_option hygiene false in
local macro_rules | `(tactic| walk_at "b1")=>`(tactic| (focus (intro vs H Q E h; obtain ⟨_,rfl,_⟩:=h; rfl)); (intro cdv A outer s H vs Q E hr h; obtain ⟨x0,rfl,h⟩:=h; have hu:=hr.units))
set_option hygiene false in
local macro_rules | `(tactic| walk_at "b2")=>`(tactic| (focus (intro vs H Q E h; obtain ⟨_,_,rfl,_⟩:=h; rfl)); (intro cdv A outer s H vs Q E hr h; obtain ⟨x0,x1,rfl,h⟩:=h; have hu:=hr.units))
set_option hygiene false in
local macro_rules | `(tactic| walk_at "b3")=>`(tactic| (focus (intro vs H Q E h; obtain ⟨_,_,_,rfl,_⟩:=h; rfl)); (intro cdv A outer s H vs Q E hr h; obtain ⟨x0,x1,x2,rfl,h⟩:=h; have hu:=hr.units))
set_option hygiene false in
local macro_rules | `(tactic| walk_at "cl")=>`(tactic| ((clear hu); (try clear hgd); (first | dsimp only [zgd,cxOfH] | dsimp only [zgd] | skip)))
namespace G
open PySem PySem.Spec PyProof.Rows L2 GM
section
variable {P : Program} {w : World} {K : PySem.W.Frag} {mg : Str -> Option Value} {base : Heap} {a : Ad}
def isInt : PyData -> Bool
 | .int _=>true
 | _=>false
def zfc (K : PySem.W.Frag) : Sp:=fun vs H Q _=>∃ x0,vs = [x0] /\ ∃ d,Is K H x0 d /\ Q (.bl (isInt d)) H
theorem ziL {K : PySem.W.Frag} {H : Hp} {Q : VK} {E : XK} {v : V} {d : PyData} (h : Is K H v d) (q : Q (.bl (isInt d)) H) : zfc K [v] H Q E:=⟨v,rfl,d,h,q⟩
local macro_rules | `(tactic| walk_at "gs")=>`(tactic| ((with_reducible apply ziL); (focus walk_at "is")))
set_option maxHeartbeats 4000000 in
theorem ziQ (T : Txt K mg a) : za5 P w K mg base CX0 1 a.is_whole a.fd_is_whole zcH (zfc K):=by
 refine T.d_is_whole.F.ok ziu ?_ ?_
 walk_at "b1"
 refine ⟨_,(zag (zaq (zeG (zai (show zah _ (.builtin "isinstance") (zfl K) from zeN) rfl T.z_isinstance zbD (zaa (pv 0) (zaa (zeB (v:=.ty "int") rfl T.z_int zf6 rfl) zab))) (zem (zpU (zai (show zah _ (.builtin "isinstance") (zfl K) from zeN) rfl T.z_isinstance zbD (zaa (pv 0) (zaa (zeB (v:=.ty "bool") rfl T.z_bool znF rfl) zab)))))))),?_⟩
 walk_at "cl"
 rw [show start zek [x0] = [some x0] from rfl]
 obtain ⟨d,hd,q⟩:=h
 walk_at "gg"
 all_goals (cases d <;> simp_all [isInt,zi8,zo6])
def zd7 (l m : Int) : PyData -> Bool
 | .int i=>decide (l <= i) && decide (i <= m)
 | _=>false
theorem zjC {l m : Int} {d : PyData} (h : isInt d = false) : zd7 l m d = false:=by cases d <;> first | rfl | cases h
def zcy (K : PySem.W.Frag) : Sp:=fun vs H Q _=>∃ x0 x1 x2,vs = [x0,x1,x2] /\ ∃ (l m : Int) (d : PyData),x0 = .int l /\ x1 = .int m /\ Is K H x2 d /\ Q (.bl (zd7 l m d)) H
theorem zcF {K : PySem.W.Frag} {H : Hp} {Q : VK} {E : XK} {l m : Int} {v : V} {d : PyData} (h : Is K H v d) (q : Q (.bl (zd7 l m d)) H) : zcy K [.int l,.int m,v] H Q E:=⟨_,_,_,rfl,l,m,d,rfl,rfl,h,q⟩
set_option maxHeartbeats 4000000 in
theorem zcw (T : Txt K mg a) : za5 P w K mg base CX0 2 a.is_whole_from a.fd_is_whole_from zbh (zcy K):=by
 refine T.d_is_whole_from.F.ok zeZ ?_ ?_
 walk_at "b3"
 refine ⟨_,(zag (zaq (zeG (pcl (ziQ T) hr T.d_is_whole (zaa (pv 2) zab)) (zem (ziy zgE zgE (pv 0) (pv 2) (pv 1)))))),?_⟩
 walk_at "cl"
 rw [show start zbQ [x0,x1,x2] = [some x0,some x1,some x2] from rfl]
 obtain ⟨l,m,d,rfl,rfl,hd,q⟩:=h
 have hc : (∃ i,d = .int i) \/ isInt d = false:=by cases d <;> simp [isInt]
 rcases hc with ⟨i,rfl⟩ | hn
 . cases zaK.mp hd
   have q : Q (.bl (decide (l <= i) && decide (i <= m))) H:=q
   walk_at "gg"
   . rename_i z
     rw [decide_eq_true z,Bool.true_and] at q
     exact q
   . rename_i z
     rw [decide_eq_false z,Bool.false_and] at q
     exact q
   . rename_i z; cases (show true = false from z)
 . rw [zjC hn] at q
   walk_at "gg"
   . rename_i z1; rw [hn] at z1; cases z1
   . exact q
def zcl (d : PyData) : Bool:=zmp d || zmX d
def zew (K : PySem.W.Frag) : Sp:=fun vs H Q _=>∃ x0,vs = [x0] /\ ∃ (d : PyData),Is K H x0 d /\ ∀ H',zad H H' -> Q (.bl (zcl d)) H'
theorem zb2 {K : PySem.W.Frag} {H : Hp} {Q : VK} {E : XK} {v : V} {d : PyData} (h : Is K H v d) (q : ∀ H',zad H H' -> Q (.bl (zcl d)) H') : zew K [v] H Q E:=⟨_,rfl,d,h,q⟩
set_option maxHeartbeats 4000000 in
theorem zbZ (T : Txt K mg a) : za5 P w K mg base CX0 1 a.is_listed a.fd_is_listed zcn (zew K):=by
 refine T.d_is_listed.F.ok zhO ?_ ?_
 walk_at "b1"
 refine ⟨_,(zag (zaq (zai (show zah _ (.builtin "isinstance") (zjk K) from zjJ) rfl T.z_isinstance zbD (zaa (pv 0) (zaa (zdK (zaa (zeB (v:=.ty "list") rfl T.z_list zn7 rfl) (zaa (zeB (v:=.ty "tuple") rfl T.z_tuple zaV rfl) zab))) zab))))),?_⟩
 walk_at "cl"
 rw [show start zdg [x0] = [some x0] from rfl]
 obtain ⟨d,hd,q⟩:=h
 walk_at "gg"
 refine zlN (by simp) (fun tp H1 _ S1 e1=>?_)
 walk_at "gg"
 refine zkz (hd.by S1) e1 ?_
 exact q H1 S1
def zaT : PyData -> List PyData
 | .list ds=>ds
 | .tuple ds=>ds
 | _=>[]
theorem zgI {K : PySem.W.Frag} {H : Hp} {v : V} {d : PyData} (h : Is K H v d) (e : zcl d = true) : Is K H v (.list (zaT d)) \/ Is K H v (.tuple (zaT d)):=by
 cases d <;> first | exact .inl h | exact .inr h | cases e
theorem zj3 {K : PySem.W.Frag} {g : TG} {tt : TT} {te : TE} {src : List (Option Nat)} {σ : L2.St} {H : Hp} {Q : VK} {v : V} {ds : List PyData} {o0 : Option V} {tl : L2.St} (p : PyData -> Bool) (h : Is K H v (.list ds) \/ Is K H v (.tuple ds)) (hsrc : zas src σ = o0 :: tl)
   (hs : ∀ D i x ys o H1,i < ds.length -> Is K H1 x (ds.getD i .none) -> zbq H tl (fun (j : Nat) (y : V) (_ : Hp)=>y = V.bl (p (ds.getD j .none))) D i ys (o :: tl) H1 -> zcA (zbq H tl (fun (j : Nat) (y : V) (_ : Hp)=>y = V.bl (p (ds.getD j .none)))) g tt te D i x (o :: tl) H1)
   (hd : ∀ D H',H D = none -> zad H H' -> H' D = some (.lst ((ds.map p).map V.bl)) -> Q (.ref D) H') : zgf K g tt te src σ v H Q \/ zgh K g tt te src σ v H Q:=by
 have fin : ∀ (us : List V),us.length = ds.length -> ∀ (D : Addr) (ys : List V) (H' : Hp),H D = none -> zad H H' -> H' D = some (.lst ys) -> ys.length = us.length -> (∀ (j : Nat) (y : V),ys[j]? = some y -> y = V.bl (p (ds.getD j .none))) -> Q (.ref D) H':=fun us hul D ys H' hn S hD hl hr=>by
   have hys : ys = (ds.map p).map V.bl:=by
     refine List.ext_getElem (by rw [hl,hul,List.length_map,List.length_map]) fun j h1 h2=>?_
     have:=hr j ys[j] (List.getElem?_eq_getElem h1)
     rw [this,List.getElem_map,List.getElem_map,List.getD_eq_getElem?_getD,List.getElem?_eq_getElem]
     rfl
   subst hys
   exact hd D H' hn S hD
 rcases h with h | h
 . obtain ⟨ap,us,rfl,hs',tu⟩:=zav.mp h
   refine .inl (zbV hs' hsrc _ (fun D i x ys o H1 hx inv=>?_) fun D ys H' hn S hD hl hr=>fin us tu.length D ys H' hn S hD hl hr)
   obtain ⟨hi,ix⟩:=zbt tu hx
   exact hs D i x ys o H1 hi (ix.by inv.same) inv
 . obtain ⟨ap,us,rfl,hs',tu⟩:=zaC.mp h
   refine .inr (zeA hs' hsrc _ (fun D i x ys o H1 hx inv=>?_) fun D ys H' hn S hD hl hr=>fin us tu.length D ys H' hn S hD hl hr)
   obtain ⟨hi,ix⟩:=zbt tu hx
   exact hs D i x ys o H1 hi (ix.by inv.same) inv
theorem zgb {α : Type} (ds : List α) (p : α -> Bool) : (ds.map p).all id = ds.all p:=by rw [List.all_map]; rfl
def zci (l m : Int) (d : PyData) : Bool:=zcl d && (zaT d).all (zd7 l m)
def zcg (K : PySem.W.Frag) : Sp:=fun vs H Q _=>∃ x0 x1 x2,vs = [x0,x1,x2] /\ ∃ (l m : Int) (d : PyData),x0 = .int l /\ x1 = .int m /\ Is K H x2 d /\ (zaT d).length <= 1000 /\ ∀ H',zad H H' -> Q (.bl (zci l m d)) H'
theorem zbu {K : PySem.W.Frag} {H : Hp} {Q : VK} {E : XK} {l m : Int} {v : V} {d : PyData} (h : Is K H v d) (z : (zaT d).length <= 1000) (q : ∀ H',zad H H' -> Q (.bl (zci l m d)) H') : zcg K [.int l,.int m,v] H Q E:=⟨_,_,_,rfl,l,m,d,rfl,rfl,h,z,q⟩
set_option maxHeartbeats 4000000 in
theorem zbr (T : Txt K mg a) : za5 P w K mg base CX0 3 a.are_whole_from a.fd_are_whole_from zba (zcg K):=by
 refine T.d_are_whole_from.F.ok zey ?_ ?_
 walk_at "b3"
 refine ⟨_,(zag (zaq (zeG (pcl (zbZ T) hr T.d_is_listed (zaa (pv 2) zab)) (zem (zai (show zah _ (.builtin "all") (zdT K) from zbx rfl) rfl T.z_all zdt (zaa (zaz rfl (zau.by (N':=["one","least","most"]) (src:=[none,some 0,some 1]) rfl (show zam _ (zac za9).names za7 ["one","least","most"] [none,some 0,some 1] = true from by decide +kernel)) (zfG (pv 2)) (fun _ _ _ _ _=>(zaj (i:=0) (show (["one","least","most"] : List Str).Nodup from by decide) rfl (Or.inl rfl))) (fun _ _ _ _ _=>zax) (fun _ _ _ _ _=>(pcl (zcw (K:=K) (mg:=mg) (a:=a) T) hr T.d_is_whole_from (zaa (pv 1) (zaa (pv 2) (zaa (pv 0) zab)))))) zab)))))),?_⟩
 walk_at "cl"
 rw [show start za7 [x0,x1,x2] = [some x0,some x1,some x2] from rfl]
 obtain ⟨l,m,d,rfl,rfl,hd,hz,q⟩:=h
 walk_at "gg"
 refine zb2 hd (fun H1 S1=>?_)
 unfold zci at q
 cases e : zcl d with
 | false =>
   rw [e] at q
   walk_at "gg"
   exact q H1 S1
 | true =>
   rw [e] at q
   walk_at "gg"
   refine zj3 (zd7 l m) (o0:=none) (tl:=[some (.int l),some (.int m)]) (zgI (hd.by S1) e) rfl ?_ ?_
   . intro D i x ys o H2 hi ix inv
     walk_at "gg"
     refine zcF ix ?_
     walk_at "gg"
     exact zaF inv (by omega) (fun _ _ _ _ _ z=>z) ⟨_,rfl⟩ (zad.refl _) rfl
   . intro D H2 hn S2 hD
     walk_at "gg"
     refine zcY (.of hD) ?_
     rw [zgb]
     exact q H2 (S1.trans S2)
def zeu (d : PyData) : Bool:=zci 1 60 d && (decide (1 <= (zaT d).length) && decide ((zaT d).length <= 8))
def zdX (K : PySem.W.Frag) : Sp:=fun vs H Q _=>∃ x0,vs = [x0] /\ ∃ (d : PyData),Is K H x0 d /\ (zaT d).length <= 1000 /\ ∀ H',zad H H' -> Q (.bl (zeu d)) H'
theorem zgt {K : PySem.W.Frag} {H : Hp} {Q : VK} {E : XK} {v : V} {d : PyData} (h : Is K H v d) (z : (zaT d).length <= 1000) (q : ∀ H',zad H H' -> Q (.bl (zeu d)) H') : zdX K [v] H Q E:=⟨_,rfl,d,h,z,q⟩
theorem za3 {K : PySem.W.Frag} {H : Hp} {Q : VK} {v : V} {ds : List PyData} (h : Is K H v (.list ds) \/ Is K H v (.tuple ds)) (q : Q (.int (ds.length : Int)) H) : zce K [v] H Q:=by
 rcases h with h | h
 . obtain ⟨a,xs,rfl,hs,t⟩:=zav.mp h
   exact zcj hs (by rw [t.length]; exact q)
 . exact zn8 h q
set_option maxHeartbeats 4000000 in
theorem zgw (T : Txt K mg a) : za5 P w K mg base CX0 4 a.are_rounds a.fd_are_rounds zbX (zdX K):=by
 refine T.d_are_rounds.F.ok zgy ?_ ?_
 walk_at "b1"
 refine ⟨_,(zag (zaq (zeG (pcl (zbr T) hr T.d_are_whole_from (zaa zaf (zaa (zcu rfl T.c_MOST_ROUND) (zaa (pv 0) zab)))) (zem (ziy zgE zgE zaf (zai (show zah _ (.builtin "len") (zce K) from zaw) rfl T.z_len zaS (zaa (pv 0) zab)) (zcu rfl T.c_MOST_WORMS)))))),?_⟩
 walk_at "cl"
 rw [show start zcG [x0] = [some x0] from rfl]
 obtain ⟨d,hd,hz,q⟩:=h
 walk_at "gg"
 refine zbu hd hz (fun H1 S1=>?_)
 unfold zeu at q
 cases e : zci 1 60 d with
 | false =>
   rw [e] at q
   walk_at "gg"
   exact q H1 S1
 | true =>
   rw [e] at q
   have e1 : zcl d = true:=by
     unfold zci at e
     rw [Bool.and_eq_true] at e
     exact e.1
   have q1:=q H1 S1
   walk_at "gg"
   refine za3 (zgI (hd.by S1) e1) ?_
   walk_at "gg"
   . rename_i z1
     rw [decide_eq_true (show 1 <= (zaT d).length by omega),Bool.true_and,Bool.true_and,show decide ((zaT d).length <= 8) = decide (((zaT d).length : Int) <= 8) from decide_eq_decide.mpr (by omega)] at q1
     exact q1
   . rename_i z1
     rw [decide_eq_false (show ¬ 1 <= (zaT d).length by omega),Bool.false_and,Bool.and_false] at q1
     exact q1
def zbT (d : PyData) (ns : List Int) : Prop:=d = .list (ns.map .int) \/ d = .tuple (ns.map .int)
theorem zbT.listed {d : PyData} {ns : List Int} (h : zbT d ns) : zcl d = true /\ zaT d = ns.map .int:=by rcases h with rfl | rfl <;> exact ⟨rfl,rfl⟩
theorem zbT.is {K : PySem.W.Frag} {H : Hp} {v : V} {d : PyData} {ns : List Int} (h : zbT d ns) (i : Is K H v d) : Is K H v (.list (ns.map .int)) \/ Is K H v (.tuple (ns.map .int)):=by rcases h with rfl | rfl; exact .inl i; exact .inr i
theorem zji {l m : Int} {ns : List Int} (h : ∀ n ∈ ns,l <= n /\ n <= m) : (ns.map PyData.int).all (zd7 l m) = true:=by
 rw [List.all_map,List.all_eq_true]
 intro n hn
 show (decide (l <= n) && decide (n <= m)) = true
 rw [decide_eq_true (h n hn).1,decide_eq_true (h n hn).2]; rfl
theorem zbT.wholes {d : PyData} {ns : List Int} {l m : Int} (h : zbT d ns) (hn : ∀ n ∈ ns,l <= n /\ n <= m) : zci l m d = true:=by
 unfold zci
 rw [h.listed.1,h.listed.2,zji hn]; rfl
def zcr (ds : List PyData) (rows : List (List Int)) : Prop:=ds.length = rows.length /\ ∀ i,i < rows.length -> zbT (ds.getD i .none) (rows.getD i [])
def zbv (d : PyData) (ds : List PyData) : Prop:=d = .list ds \/ d = .tuple ds
theorem zbv.is {K : PySem.W.Frag} {H : Hp} {v : V} {d : PyData} {ds : List PyData} (h : zbv d ds) (i : Is K H v d) : Is K H v (.list ds) \/ Is K H v (.tuple ds):=by rcases h with rfl | rfl; exact .inl i; exact .inr i
theorem zbv.listed {d : PyData} {ds : List PyData} (h : zbv d ds) : zcl d = true /\ zaT d = ds:=by rcases h with rfl | rfl <;> exact ⟨rfl,rfl⟩
def zgm (K : PySem.W.Frag) : Sp:=fun vs H Q _=>∃ x0 x1,vs = [x0,x1] /\ ∃ (d e : PyData) (ds : List PyData) (rs : List Int) (us : List (List Int)),Is K H x0 d /\ zbv d ds /\ zcr ds us /\ Is K H x1 e /\ zbT e rs /\ us.length = rs.length /\ rs.length <= 8 /\ (∀ i,i < rs.length -> ((us.getD i []).length : Int) = rs.getD i 0 /\ (us.getD i []).length <= 60 /\ ∀ x ∈ us.getD i [],0 <= x /\ x <= 60) /\ ∀ H',zad H H' -> Q (.bl true) H'
theorem zi3 {K : PySem.W.Frag} {H : Hp} {Q : VK} {E : XK} {v w : V} {d e : PyData} {ds : List PyData} {rs : List Int} {us : List (List Int)} (h1 : Is K H v d) (h2 : zbv d ds) (h3 : zcr ds us) (h4 : Is K H w e) (h5 : zbT e rs) (h6 : us.length = rs.length) (h7 : rs.length <= 8) (h8 : ∀ i,i < rs.length -> ((us.getD i []).length : Int) = rs.getD i 0 /\ (us.getD i []).length <= 60 /\ ∀ x ∈ us.getD i [],0 <= x /\ x <= 60) (q : ∀ H',zad H H' -> Q (.bl true) H') : zgm K [v,w] H Q E:=⟨_,_,rfl,d,e,ds,rs,us,h1,h2,h3,h4,h5,h6,h7,h8,q⟩
theorem zeK {ys : List V} (h : ∀ (j : Nat) (y : V),ys[j]? = some y -> y = .bl true) : ∃ bs : List Bool,ys = bs.map V.bl /\ bs.all id = true:=by
 refine ⟨List.replicate ys.length true,List.ext_getElem (by simp) fun j h1 h2=>?_,?_⟩
 . rw [h j ys[j] (List.getElem?_eq_getElem h1),List.getElem_map,List.getElem_replicate]
 . rw [List.all_eq_true]
   intro b hb
   exact (List.mem_replicate.mp hb).2
set_option maxHeartbeats 4000000 in
theorem zjl (T : Txt K mg a) : za5 P w K mg base CX0 4 a.are_ups a.fd_are_ups zdx (zgm K):=by
 refine T.d_are_ups.F.ok zi4 ?_ ?_
 walk_at "b2"
 refine ⟨_,(zae (zbU (PW.pt (zdW (zbd (zbm (pcl (zbZ T) hr T.d_is_listed (zaa (pv 0) zab)))) (zd3 (zbg (show OpR _ (compareOp .NotEq) (zeW K) from zc7 hu) (zai (show zah _ (.builtin "len") (zce K) from zaw) rfl T.z_len zaS (zaa (pv 0) zab)) (zai (show zah _ (.builtin "len") (zce K) from zaw) rfl T.z_len zaS (zaa (pv 1) zab)) (zaO _))))) (zag (zaq zes)) zaL)
     (zag (zaq (zai (show zah _ (.builtin "all") (zdT K) from zbx rfl) rfl T.z_all zdt (zaa (zaz rfl (zau.by (N':=["own","count"]) (src:=[none,none]) rfl (show zam _ (zac zdE).names zdu ["own","count"] [none,none] = true from by decide +kernel)) (zfA rfl T.z_zip (zaa (pv 0) (zaa (pv 1) zab))) (fun _ _ _ _ _=>by exact (show PG _ _ (zkH K 2 _) from zhQ (n:=2) rfl (zbM (zaj (i:=0) (show (["own","count"] : List Str).Nodup from by decide) rfl (Or.inl rfl)) (zbM (zaj (i:=1) (show (["own","count"] : List Str).Nodup from by decide) rfl (Or.inl rfl)) zfs)))) (fun _ _ _ _ _=>zax) (fun _ _ _ _ _=>(zeG (pcl (zbr (K:=K) (mg:=mg) (a:=a) T) hr T.d_are_whole_from (zaa zaf (zaa (zcu rfl T.c_MOST_UP) (zaa (pv 0) zab)))) (zem (zb0 (show OpR _ (compareOp .Eq) (zgA K) from ze2 hu) (zai (show zah _ (.builtin "len") (zce K) from zaw) rfl T.z_len zaS (zaa (pv 0) zab)) (pv 1) (zaO _)))))) zab))))),?_⟩
 walk_at "cl"
 rw [show start zdu [x0,x1] = [some x0,some x1] from rfl]
 obtain ⟨d,e,ds,rs,us,i0,sd,rd,i1,ie,hl,h8,hu,q⟩:=h
 walk_at "gg"
 refine zb2 i0 (fun H1 S1=>?_)
 rw [sd.listed.1]
 walk_at "gg"
 refine za3 (sd.is (i0.by S1)) ?_
 walk_at "gg"
 refine za3 (ie.is (i1.by S1)) ?_
 rw [List.length_map,rd.1,hl]
 walk_at "gg"
 . obtain ⟨t,a,xs,rfl,hx,tx⟩:=zmL (sd.is (i0.by S1))
   obtain ⟨u,b,ys,rfl,hy,ty⟩:=zmL (ie.is (i1.by S1))
   have lx:=tx.length
   have ly:=ty.length
   rw [List.length_map] at ly
   refine ⟨t,u,zhy hx hy (by rw [lx,ly,rd.1,hl]) (o0:=none) (o0':=none) (tl:=[]) rfl (fun j y H'=>y = .bl true) (fun _ _ _ _ _ z=>z) ?_ ?_⟩
   . intro D i x y zs o1 o2 H2 c hx' hy' inv ec
     obtain ⟨hi,ix⟩:=zbt tx hx'
     obtain ⟨hj,iy⟩:=zbt ty hy'
     rw [List.length_map] at hj
     have iyv : y = .int (rs.getD i 0):=by
       rw [List.getD_eq_getElem?_getD,List.getElem?_map,List.getElem?_eq_getElem hj] at iy
       rw [List.getD_eq_getElem?_getD,List.getElem?_eq_getElem hj]
       exact zaK.mp iy
     subst iyv
     have S2:=inv.2.2.1
     obtain ⟨g1,g2,g3⟩:=hu i hj
     have di:=rd.2 i (by omega)
     refine zde (zfz (.of ec) rfl ?_)
     walk_at "gg"
     refine zbu (ix.by S2) (by rw [di.listed.2,List.length_map]; omega) (fun H3 S3=>?_)
     rw [di.wholes g3]
     walk_at "gg"
     refine za3 (di.is ((ix.by S2).by S3)) ?_
     rw [List.length_map,g1]
     walk_at "gg"
     exact zeR inv (by omega) (fun _ _ _ _ _ z=>z) ⟨_,_,rfl⟩ S3 (by rw [decide_eq_true rfl])
   . intro D zs H2 hn S2 hD hl2 hr
     obtain ⟨bs,rfl,hb⟩:=zeK hr
     walk_at "gg"
     refine zcY (.of hD) ?_
     rw [hb]
     exact q H2 (S1.trans S2)
def zgO (K : PySem.W.Frag) : Sp:=fun vs H Q _=>∃ x0 x1,vs = [x0,x1] /\ ∃ (d : PyData) (t : List Int) (n : Nat),Is K H x0 d /\ zbT d t /\ x1 = .int (n : Int) /\ zeC n t /\ ∀ H',zad H H' -> Q (.bl true) H'
theorem zkU {K : PySem.W.Frag} {H : Hp} {Q : VK} {E : XK} {v : V} {d : PyData} {t : List Int} {n : Nat} (h1 : Is K H v d) (h2 : zbT d t) (h3 : zeC n t) (q : ∀ H',zad H H' -> Q (.bl true) H') : zgO K [v,.int (n : Int)] H Q E:=⟨_,_,rfl,d,t,n,h1,h2,rfl,h3,q⟩
theorem zhp {K : PySem.W.Frag} {H : Hp} {Q : VK} {v : V} {ns : List Int} {m : Int} (h : Is K H v (.list (ns.map .int)) \/ Is K H v (.tuple (ns.map .int))) (h0 : 0 <= m) (h1 : m < ns.length) (q : Q (.int (ns.getD m.toNat 0)) H) : rIx K v (.int m) H Q:=by
 rcases h with h | h
 . obtain ⟨a,xs,rfl,hs,t⟩:=zav.mp h
   rw [zb8.mp t] at hs
   obtain ⟨n,rfl⟩ : ∃ n : Nat,m = (n : Int):=⟨m.toNat,by omega⟩
   refine zeM hs (zcQ (j:=n) (v:=.int (ns.getD n 0)) ?_) q
   rw [List.getElem?_map,List.getD_eq_getElem?_getD,List.getElem?_eq_getElem (by omega)]
   rfl
 . exact zj6 h h0 h1 q
theorem zpt {K : PySem.W.Frag} {H : Hp} {Q : VK} {v : V} {x y z : Int} (h : Is K H v (.list [.int x,.int y,.int z]) \/ Is K H v (.tuple [.int x,.int y,.int z])) (q : ∀ w e H',zad H H' -> Is K H' w e -> zbT e [x,y] -> Q w H') : zje K v none (some 2) H Q:=by
 have ec : zh1 [PyData.int x,.int y,.int z] none (some 2) = [.int x,.int y]:=rfl
 rcases h with h | h
 . refine zny h fun l H' ys hn S e t=>?_
   rw [ec] at t
   exact q _ _ H' S (zav.mpr ⟨l,ys,rfl,.of e,t⟩) (.inl rfl)
 . refine zj2 h (show ¬ (HT.sIx 3 0 none = 0 /\ HT.sIx 3 3 (some 2) = 3) from by decide) fun w H' S i=>?_
   rw [ec] at i
   exact q _ _ H' S i (.inr rfl)
set_option maxHeartbeats 4000000 in
theorem zkZ (T : Txt K mg a) : za5 P w K mg base CX0 4 a.is_tie a.fd_is_tie zeD (zgO K):=by
 refine T.d_is_tie.F.ok zkT ?_ ?_
 walk_at "b2"
 refine ⟨_,(zae (zbU (PW.pt (zdW (zbd (zbm (pcl (zbZ T) hr T.d_is_listed (zaa (pv 0) zab)))) (zdW (zbg (show OpR _ (compareOp .NotEq) (zeW K) from zc7 hu) (zai (show zah _ (.builtin "len") (zce K) from zaw) rfl T.z_len zaS (zaa (pv 0) zab)) zaf (zaO _)) (zd3 (zbd (zbm (pcl (zbr T) hr T.d_are_whole_from (zaa zaf (zaa (zar zm5 (pv 1) zaf) (zaa (zev zhL (pv 0) zfu (zfw zaf)) zab)))))))))) (zag (zaq zes)) zaL)
     (zag (zaq (zeG (zb0 (show OpR _ (compareOp .NotEq) (zeW K) from zc7 hu) (pix (pv 0)) (pix (pv 0)) (zaO _)) (zem (pcl (zcw T) hr T.d_is_whole_from (zaa zaf (zaa (zcu rfl T.c_MOST_DELAY) (zaa (pix (pv 0)) zab))))))))),?_⟩
 walk_at "cl"
 rw [show start zfK [x0,x1] = [some x0,some x1] from rfl]
 obtain ⟨d,t,n,hd,di,rfl,⟨ta,tb,td,rfl,ha,hb,hab,hdl⟩,q⟩:=h
 walk_at "gg"
 refine zb2 hd (fun H1 S1=>?_)
 rw [di.listed.1]
 walk_at "gg"
 refine za3 (di.is (hd.by S1)) ?_
 rw [List.length_map]
 walk_at "gg"
 . rename_i z; exact absurd rfl z
 . refine zpt (di.is (hd.by S1)) (fun w e H2 S2 iw ie=>?_)
   walk_at "gg"
   refine zbu iw (by rw [ie.listed.2]; simp) (fun H3 S3=>?_)
   rw [ie.wholes (fun x hx=>by
     simp only [List.mem_cons,List.not_mem_nil,or_false] at hx
     rcases hx with rfl | rfl <;> omega)]
   have T3:=S1.trans (S2.trans S3)
   walk_at "gg"
   refine zhp (di.is (hd.by T3)) (by decide) (by simp) ?_
   walk_at "gg"
   refine zhp (di.is (hd.by T3)) (by decide) (by simp) ?_
   walk_at "gg"
   . refine zhp (di.is (hd.by T3)) (by decide) (by simp) ?_
     walk_at "gg"
     refine zcF (d:=.int (td : Int)) (zaK.mpr rfl) ?_
     rw [show zd7 0 4 (.int (td : Int)) = true from by
       show (decide ((0 : Int) <= (td : Int)) && decide ((td : Int) <= 4)) = true
       rw [decide_eq_true (by omega),decide_eq_true (by omega)]; rfl]
     exact q H3 T3
   . rename_i z
     exact absurd z (by simp; omega)
theorem zcr.at {ds : List PyData} {rows : List (List Int)} (h : zcr ds rows) {i : Nat} (hi : i < ds.length) : i < rows.length /\ zbT (ds.getD i .none) (rows.getD i []):=⟨by rw [<- h.1]; exact hi,h.2 i (by rw [<- h.1]; exact hi)⟩
theorem znz {rows : List (List Int)} {P : List Int -> Prop} (h : ∀ t ∈ rows,P t) {i : Nat} (hi : i < rows.length) : P (rows.getD i []):=by
 rw [List.getD_eq_getElem?_getD,List.getElem?_eq_getElem hi]
 exact h _ (List.getElem_mem hi)
theorem zeS {K : PySem.W.Frag} {src : List (Option Nat)} {σ : L2.St} {H : Hp} {Q : VK} {v : V} {ds : List PyData} {rows : List (List Int)} (h : Is K H v (.list ds) \/ Is K H v (.tuple ds)) (rd : zcr ds rows) (z : ds.length <= 1000) (hsrc : zas src σ = [none])
   (hd : ∀ D us H',H D = none -> zad H H' -> H' D = some (.lst us) -> IsAll K H' us (rows.map TZ) -> Q (.ref D) H') : zgf K (zcv 0) ze6 (tCB (zay K) (zgG (zgv 0) zkI)) src σ v H Q \/ zgh K (zcv 0) ze6 (tCB (zay K) (zgG (zgv 0) zkI)) src σ v H Q:=by
 have st : ∀ D i x ys o H1,i < ds.length -> Is K H1 x (ds.getD i .none) -> zbq H [] (fun (j : Nat) (y : V) (H' : Hp)=>Is K H' y (TZ (rows.getD j []))) D i ys (o :: []) H1 -> zcA (zbq H [] (fun (j : Nat) (y : V) (H' : Hp)=>Is K H' y (TZ (rows.getD j [])))) (zcv 0) ze6 (tCB (zay K) (zgG (zgv 0) zkI)) D i x (o :: []) H1:=fun D i x ys o H1 hi ix inv=>by
   refine zde (ziJ (ziB (znV (zoq (zkm (zlq rfl (zmo ?_)))))))
   rcases (rd.at hi).2 with e | e
   . rw [e] at ix
     exact zby ix fun w H2 S2 i2=>zaF inv (by omega) (fun _ _ _ _ k z=>z.thruI k) ⟨_,rfl⟩ S2 i2
   . rw [e] at ix
     exact zfW ix (zaF inv (by omega) (fun _ _ _ _ k z=>z.thruI k) ⟨_,rfl⟩ (zad.refl _) ix)
 have fin : ∀ (us : List V),us.length = ds.length -> ∀ (D : Addr) (ys : List V) (H' : Hp),H D = none -> zad H H' -> H' D = some (.lst ys) -> ys.length = us.length -> (∀ (j : Nat) (y : V),ys[j]? = some y -> Is K H' y (TZ (rows.getD j []))) -> Q (.ref D) H':=fun us hul D ys H' hn S hD hl hr=>by
   refine hd D ys H' hn S hD (zgU (by rw [List.length_map,hl,hul,rd.1]) fun i x hx=>?_)
   have hi : i < rows.length:=by have:=zoM hx; rw [hl,hul,rd.1] at this; exact this
   rw [List.getD_eq_getElem?_getD,List.getElem?_map,List.getElem?_eq_getElem hi]
   have:=hr i x hx
   rw [List.getD_eq_getElem?_getD,List.getElem?_eq_getElem hi] at this
   exact this
 rcases h with h | h
 . obtain ⟨ap,us,rfl,hs',tu⟩:=zav.mp h
   refine .inl (zbV hs' (o0:=none) (tl:=[]) hsrc _ (fun D i x ys o H1 hx inv=>?_) fun D ys H' hn S hD hl hr=>fin us tu.length D ys H' hn S hD hl hr)
   obtain ⟨hi,ix⟩:=zbt tu hx
   exact st D i x ys o H1 hi (ix.by inv.same) inv
 . obtain ⟨ap,us,rfl,hs',tu⟩:=zaC.mp h
   refine .inr (zeA hs' (o0:=none) (tl:=[]) hsrc _ (fun D i x ys o H1 hx inv=>?_) fun D ys H' hn S hD hl hr=>fin us tu.length D ys H' hn S hD hl hr)
   obtain ⟨hi,ix⟩:=zbt tu hx
   exact st D i x ys o H1 hi (ix.by inv.same) inv
theorem zn9 {K : PySem.W.Frag} {w : World} {H : Hp} {Q : VK} {v : V} {ks : List (List Int)} (h : Is K H v (.list (ks.map TZ))) (z : ks.length <= 999) (nd : ks.Nodup) (q : ∀ (l : Addr) (H' : Hp) (ws : List V),H l = none -> zad H H' -> H' l = some (SetO w l ws) -> ws.length = ks.length -> Q (.ref l) H') : zmO K w [v] H Q:=by
 obtain ⟨p,vs,rfl,hs,t⟩:=zav.mp h
 have hl:=t.length
 rw [List.length_map] at hl
 refine ⟨p,vs,fun j=>ks.getD j [],rfl,hs,by omega,fun j v hv=>?_,fun l ws js h1 h2 h3 h4 h5=>?_⟩
 . obtain ⟨hj,ij⟩:=zbt t hv
   rw [List.length_map] at hj
   rw [List.getD_eq_getElem?_getD,List.getElem?_map,List.getElem?_eq_getElem hj] at ij
   show TpI K H v (ks.getD j [])
   rw [List.getD_eq_getElem?_getD,List.getElem?_eq_getElem hj]
   exact zck.mp ij
 . refine q l _ ws h1 (zad.upd h1) zal ?_
   rw [h2]
   have pm : js.Perm ks:=by
     refine (List.perm_ext_iff_of_nodup h4 nd).mpr fun x=>(h5 x).trans ?_
     constructor
     . rintro ⟨j,hj,rfl⟩; exact GM.getD_mem (by omega)
     . intro hx
       obtain ⟨j,hj,e⟩:=zm4 [] hx
       exact ⟨j,by omega,e⟩
   exact pm.length_eq
def zfe (K : PySem.W.Frag) : Sp:=fun vs H Q _=>∃ x0 x1,vs = [x0,x1] /\ ∃ (d : PyData) (ds : List PyData) (ts : List (List Int)) (n : Nat),Is K H x0 d /\ zbv d ds /\ zcr ds ts /\ x1 = .int (n : Int) /\ ts.length <= 60 /\ (∀ t ∈ ts,zeC n t) /\ ts.Nodup /\ ∀ H',zad H H' -> Q (.bl true) H'
theorem zic {K : PySem.W.Frag} {H : Hp} {Q : VK} {E : XK} {v : V} {d : PyData} {ds : List PyData} {ts : List (List Int)} {n : Nat} (h1 : Is K H v d) (h2 : zbv d ds) (h3 : zcr ds ts) (h4 : ts.length <= 60) (h5 : ∀ t ∈ ts,zeC n t) (h6 : ts.Nodup) (q : ∀ H',zad H H' -> Q (.bl true) H') : zfe K [v,.int (n : Int)] H Q E:=⟨_,_,rfl,d,ds,ts,n,h1,h2,h3,rfl,h4,h5,h6,q⟩
set_option maxHeartbeats 4000000 in
theorem zie (T : Txt K mg a) : za5 P w K mg base CX0 5 a.are_ties a.fd_are_ties zcU (zfe K):=by
 refine T.d_are_ties.F.ok zil ?_ ?_
 walk_at "b2"
 refine ⟨_,(zae (zbU (PW.pt (zdW (zbd (zbm (pcl (zbZ T) hr T.d_is_listed (zaa (pv 0) zab)))) (zdW (zbg zot (zai (show zah _ (.builtin "len") (zce K) from zaw) rfl T.z_len zaS (zaa (pv 0) zab)) (zcu rfl T.c_MOST_TIES) (zaO _)) (zd3 (zbd (zbm (zai (show zah _ (.builtin "all") (zdT K) from zbx rfl) rfl T.z_all zdt (zaa (zaz rfl (zau.by (N':=["tie","worms"]) (src:=[none,some 1]) rfl (show zam _ (zac zb7).names zca ["tie","worms"] [none,some 1] = true from by decide +kernel)) (zfG (pv 0)) (fun _ _ _ _ _=>(zaj (i:=0) (show (["tie","worms"] : List Str).Nodup from by decide) rfl (Or.inl rfl))) (fun _ _ _ _ _=>zax) (fun _ _ _ _ _=>(pcl (zkZ (K:=K) (mg:=mg) (a:=a) T) hr T.d_is_tie (zaa (pv 0) (zaa (pv 1) zab))))) zab)))))))) (zag (zaq zes)) zaL)
     (zag (zaq (zb0 (show OpR _ (compareOp .Eq) (zgA K) from ze2 hu) (zai (show zah _ (.builtin "len") (zoo w) from zld) rfl T.z_len zaS (zaa (zao (show zah _ (.type "set") (zmO K w) from zjw hu rfl) rfl T.z_set zo1 (zaa (zaz rfl (zau.by (N':=["tie"]) (src:=[none]) rfl (show zam _ (zac zb7).names zca ["tie"] [none] = true from by decide +kernel)) (zfG (pv 0)) (fun _ _ _ _ _=>(zaj (i:=0) (show (["tie"] : List Str).Nodup from by decide) rfl (Or.inl rfl))) (fun _ _ _ _ _=>zax) (fun _ _ _ _ _=>(zao (show zah _ (.type "tuple") (zay K) from zaB) rfl T.z_tuple zaV (zaa (pv 0) zab)))) zab)) zab)) (zai (show zah _ (.builtin "len") (zce K) from zaw) rfl T.z_len zaS (zaa (pv 0) zab)) (zaO _))))),?_⟩
 walk_at "cl"
 rw [show start zca [x0,x1] = [some x0,some x1] from rfl]
 obtain ⟨d,ds,ts,n,hd,sd,rd,rfl,hl,ht,nd,q⟩:=h
 walk_at "gg"
 refine zb2 hd (fun H1 S1=>?_)
 rw [sd.listed.1]
 walk_at "gg"
 refine za3 (sd.is (hd.by S1)) ?_
 rw [rd.1]
 walk_at "gg"
 . rename_i z; exact absurd z (by omega)
 . refine zj3 (fun _=>true) (o0:=none) (tl:=[some (.int (n : Int))]) (sd.is (hd.by S1)) rfl ?_ ?_
   . intro D i x ys o H2 hi ix inv
     obtain ⟨hi',di⟩:=rd.at hi
     walk_at "gg"
     refine zkU ix di (znz ht hi') (fun H3 S3=>?_)
     walk_at "gg"
     exact zaF inv (by omega) (fun _ _ _ _ _ z=>z) ⟨_,rfl⟩ S3 rfl
   . intro D H2 hn S2 hD
     have T2:=S1.trans S2
     walk_at "gg"
     refine zcY (.of hD) ?_
     rw [zgb,show (ds.all fun _=>true) = true from by rw [List.all_eq_true]; intros; rfl]
     walk_at "gg"
     refine zeS (sd.is (hd.by T2)) rd (by rw [rd.1]; omega) rfl (fun D3 us H3 n3 S3 e3 t3=>?_)
     have T3:=T2.trans S3
     walk_at "gg"
     refine zn9 (zav.mpr ⟨D3,us,rfl,.of e3,t3⟩) (by omega) nd (fun l4 H4 ws n4 S4 e4 hw=>?_)
     walk_at "gg"
     refine ⟨l4,ws,rfl,e4,?_⟩
     walk_at "gg"
     refine za3 (sd.is (hd.by (T3.trans S4))) ?_
     rw [hw,rd.1]
     walk_at "gg"
     rw [decide_eq_true rfl]
     exact q H4 (T3.trans S4)
structure zlo (K : PySem.W.Frag) (H : Hp) (v0 v1 v2 : V) (rs : List Int) (us ts : List (List Int)) : Prop where
 r : ∃ d,Is K H v0 d /\ zbT d rs
 u : ∃ d ds,Is K H v1 d /\ zbv d ds /\ zcr ds us
 t : ∃ d ds,Is K H v2 d /\ zbv d ds /\ zcr ds ts
 ok : zbJ rs us ts
def zg4 (K : PySem.W.Frag) (a : Ad) : Sp:=fun vs H Q E=>∃ x0 x1 x2,vs = [x0,x1,x2] /\ ∃ (rs : List Int) (us ts : List (List Int)),zlo K H x0 x1 x2 rs us ts /\ ∀ v H' ts',zad H H' -> ts'.Perm ts -> zaR ts' -> Is K H' v (zdQ rs us ts') -> Q v H'
theorem zg9 {K : PySem.W.Frag} {a : Ad} {H : Hp} {Q : VK} {E : XK} {x y z : V} {rs : List Int} {us ts : List (List Int)} (h : zlo K H x y z rs us ts) (q : ∀ v H' ts',zad H H' -> ts'.Perm ts -> zaR ts' -> Is K H' v (zdQ rs us ts') -> Q v H') : zg4 K a [x,y,z] H Q E:=⟨_,_,_,rfl,rs,us,ts,h,q⟩
theorem zi5 {K : PySem.W.Frag} {H : Hp} {Q : VK} {v : V} {ds : List PyData} (h : Is K H v (.list ds) \/ Is K H v (.tuple ds)) (q : ∀ w H',zad H H' -> Is K H' w (.tuple ds) -> Q w H') : zay K [v] H Q:=by
 rcases h with h | h
 . exact zby h q
 . exact zfW h (q v H (zad.refl _) h)
theorem zcs (rows : List (List Int)) : zcr (rows.map TZ) rows:=⟨by rw [List.length_map],fun i hi=>.inr (by rw [List.getD_eq_getElem?_getD,List.getElem?_map,List.getElem?_eq_getElem hi,List.getD_eq_getElem?_getD,List.getElem?_eq_getElem hi]; rfl)⟩
theorem zml {K : PySem.W.Frag} {H : Hp} {x y z : V} {rs : List Int} {us ts : List (List Int)} (h0 : Is K H x (TZ rs)) (h1 : Is K H y (TTr us)) (h2 : Is K H z (TTr ts)) (ok : zbJ rs us ts) : zlo K H x y z rs us ts :=
 ⟨⟨_,h0,.inr rfl⟩,⟨_,_,h1,.inr rfl,zcs us⟩,⟨_,_,h2,.inr rfl,zcs ts⟩,ok⟩
set_option maxHeartbeats 4000000 in
theorem zgW (T : Txt K mg a) : za5 P w K mg base (CX1 P w) 6 a.web_of a.fd_web_of zez (zg4 K a):=by
 refine T.d_web_of.F.ok1 zkv ?_ ?_
 walk_at "b3"
 refine ⟨_,(zae (zbU (zbd (zbm (pcl (zgw T) hr T.d_are_rounds (zaa (pv 0) zab)))) (zag (zcb T.x_NoWeb rfl rfl T.g_NoWeb zel (zaa zaH zab))) zaL)
     (zae (zbU (zbd (zbm (pcl (zjl T) hr T.d_are_ups (zaa (pv 1) (zaa (pv 0) zab))))) (zag (zcb T.x_NoWeb rfl rfl T.g_NoWeb zel (zaa zaH zab))) zaL)
     (zae (zbU (zbd (zbm (pcl (zie T) hr T.d_are_ties (zaa (pv 2) (zaa (zai (show zah _ (.builtin "len") (zce K) from zaw) rfl T.z_len zaS (zaa (pv 0) zab)) zab))))) (zag (zcb T.x_NoWeb rfl rfl T.g_NoWeb zel (zaa zaH zab))) zaL)
     (zag (zaq (zdK (zaa (zao (show zah _ (.type "tuple") (zay K) from zaB) rfl T.z_tuple zaV (zaa (pv 0) zab)) (zaa (zao (show zah _ (.type "tuple") (zay K) from zaB) rfl T.z_tuple zaV (zaa (zaz rfl (zau.by (N':=["own"]) (src:=[none]) rfl (show zam _ (zac zdm).names zdk ["own"] [none] = true from by decide +kernel)) (zfG (pv 1)) (fun _ _ _ _ _=>(zaj (i:=0) (show (["own"] : List Str).Nodup from by decide) rfl (Or.inl rfl))) (fun _ _ _ _ _=>zax) (fun _ _ _ _ _=>(zao (show zah _ (.type "tuple") (zay K) from zaB) rfl T.z_tuple zaV (zaa (pv 0) zab)))) zab)) (zaa (zao (show zah _ (.type "tuple") (zay K) from zaB) rfl T.z_tuple zaV (zaa (zai (show zah _ (.builtin "sorted") (zhW K) from zfU) rfl T.z_sorted zgT (zaa (zaz rfl (zau.by (N':=["tie"]) (src:=[none]) rfl (show zam _ (zac zdm).names zdk ["tie"] [none] = true from by decide +kernel)) (zfG (pv 2)) (fun _ _ _ _ _=>(zaj (i:=0) (show (["tie"] : List Str).Nodup from by decide) rfl (Or.inl rfl))) (fun _ _ _ _ _=>zax) (fun _ _ _ _ _=>(zao (show zah _ (.type "tuple") (zay K) from zaB) rfl T.z_tuple zaV (zaa (pv 0) zab)))) zab)) zab)) zab))))))))),?_⟩
 walk_at "cl"
 rw [show start zdk [x0,x1,x2] = [some x0,some x1,some x2] from rfl]
 obtain ⟨rs,us,ts,⟨⟨d0,i0,e0⟩,⟨d1,ds1,i1,s1,r1⟩,⟨d2,ds2,i2,s2,r2⟩,ok⟩,q⟩:=h
 have n8:=ok.n8
 have n1:=ok.n1
 walk_at "gg"
 refine zgt i0 (by rw [e0.listed.2,List.length_map]; omega) (fun H1 S1=>?_)
 rw [show zeu d0 = true from by
   unfold zeu
   rw [e0.wholes ok.r,e0.listed.2,List.length_map,decide_eq_true n1,decide_eq_true n8]; rfl]
 walk_at "gg"
 refine zi3 (i1.by S1) s1 r1 (i0.by S1) e0 ok.ul n8 (fun i hi=>?_) (fun H2 S2=>?_)
 . obtain ⟨h1,h2⟩:=ok.u i hi
   have:=ok.ri hi
   exact ⟨h1,by omega,h2⟩
 have T2:=S1.trans S2
 walk_at "gg"
 refine za3 (e0.is (i0.by T2)) ?_
 rw [List.length_map]
 walk_at "gg"
 refine zic (i2.by T2) s2 r2 ok.tl ok.t ok.nd (fun H3 S3=>?_)
 have T3:=T2.trans S3
 walk_at "gg"
 refine zi5 (e0.is (i0.by T3)) (fun w0 H4 S4 j0=>?_)
 have T4:=T3.trans S4
 walk_at "gg"
 refine zeS (s1.is (i1.by T4)) r1 (by rw [r1.1,ok.ul]; omega) rfl (fun D5 us5 H5 n5 S5 e5 t5=>?_)
 have T5:=T4.trans S5
 walk_at "gg"
 refine zby (zav.mpr ⟨D5,us5,rfl,.of e5,t5⟩) (fun w1 H6 S6 j1=>?_)
 have T6:=T5.trans S6
 walk_at "gg"
 refine zeS (s2.is (i2.by T6)) r2 (by have:=ok.tl; rw [r2.1]; omega) rfl (fun D7 us7 H7 n7 S7 e7 t7=>?_)
 have T7:=T6.trans S7
 walk_at "gg"
 refine zh9 (.inl (zav.mpr ⟨D7,us7,rfl,.of e7,t7⟩)) (by have:=ok.tl; omega) ok.nd (fun k hk z=>?_) (fun l8 H8 us8 js n8' S8 e8 pm so t8=>?_)
 . obtain ⟨x,y,c,e,_⟩:=ok.t k hk
   rw [e] at z; cases z
 walk_at "gg"
 refine zby (zav.mpr ⟨l8,us8,rfl,.of e8,t8⟩) (fun w2 H9 S9 j2=>?_)
 walk_at "gg"
 refine zdL (ds:=[TZ rs,TTr us,TTr js]) (by simp) (.cons (((j0.by S5).by S6).by (S7.trans (S8.trans S9))) (.cons (j1.by (S7.trans (S8.trans S9))) (.cons j2 .nil))) (fun v H10 S10 i10=>?_)
 exact q v H10 js (T7.trans (S8.trans (S9.trans S10))) pm so i10
def zS (z : Int) : Str:=zbP z.toNat
theorem zou {z : Int} (h : 0 <= z) : PySem.Str.ofString (toString z) = zS z:=by
 obtain ⟨n,rfl⟩ : ∃ n : Nat,z = (n : Int):=⟨z.toNat,by omega⟩
 exact znm n
def zap (zs : List Int) : Str:=PySem.Str.join " " (zs.map zS)
theorem zik : (PySem.Str.ofString " ") = ⟨#[32]⟩:=by decide
theorem zqg : (PySem.Str.ofString "\n") = ⟨#[10]⟩:=by decide
theorem zfO {n : Nat} (h : n < 100) : (za8 n).length <= 2:=zls (by decide) h
theorem zir (n : Nat) : (zbP n).length = (za8 n).length:=by simp [zbP,PySem.Str.length]
theorem zhE {z : Int} (h0 : 0 <= z) (h1 : z < 100) : (zS z).length <= 2:=by
 unfold zS
 rw [zir]
 exact zfO (by omega)
theorem zpM : (PySem.Str.ofString "0123456789") = zpP:=by decide
theorem zga (n : Nat) : (zbP n).cps.all (· < 128) = true:=by
 rw [<- Array.all_toList]
 show (((za8 n).map (48 + ·)).toArray.toList).all _ = true
 rw [List.all_eq_true]
 intro c hc
 obtain ⟨d,h1,rfl⟩:=List.mem_map.mp hc
 have:=zdB n d h1
 exact decide_eq_true (by omega)
theorem zn5 {n i c : Nat} (h : (zbP n).cps[i]? = some c) : ∃ d,d < 10 /\ c = 48 + d:=by
 have h : ((za8 n).map (48 + ·)).toArray[i]? = some c:=h
 rw [List.getElem?_toArray,List.getElem?_map] at h
 obtain ⟨d,hd,rfl⟩:=Option.map_eq_some_iff.mp h
 exact ⟨d,zdB n d (List.mem_of_getElem? hd),rfl⟩
theorem zfH {x : PySem.Str} (h : x.cps.all (· < 128) = true) : PyData.strOk x = true:=by
 unfold PyData.strOk
 rw [<- Array.all_toList,List.all_eq_true] at h ⊢
 intro c hc
 have:=of_decide_eq_true (h c hc)
 exact decide_eq_true (by omega)
theorem zle (n : Nat) : PyData.strOk (zbP n) = true:=zfH (zga n)
theorem zlW (n : Nat) : (zbP n == PySem.Str.ofString "0") = decide (n = 0):=by
 have e : PySem.Str.ofString "0" = zbP 0:=by unfold zbP; rw [zcf (by decide)]; decide
 rw [e]
 by_cases h : n = 0
 . subst h; simp
 . rw [decide_eq_false h]
   simp only [beq_eq_false_iff_ne,ne_eq]
   exact fun z=>h (zl3 z)
theorem zkF {n : Nat} (h : n ≠ 0) : ∃ d,0 < d /\ d < 10 /\ (zbP n).cps.toList[0]? = some (48 + d):=by
 cases e : za8 n with
 | nil=>exact absurd e (zfy n)
 | cons d ds =>
   refine ⟨d,?_,zdB n d (by rw [e]; simp),?_⟩
   . rcases Nat.eq_zero_or_pos d with z | z
     . exact absurd (zgK n (by rw [e,z]; rfl)) h
     . exact z
   . simp [zbP,e]
theorem zlY : ∀ d,d < 10 -> 0 < d -> ((⟨#[48 + d]⟩ : PySem.Str) == PySem.Str.ofString "0") = false:=by decide
def zh7 (r : Int) (us : List Int) : PySem.Str:=PySem.Str.ofString "worm " ++ zap (r :: us)
def znl (t : List Int) : PySem.Str:=PySem.Str.ofString "tie " ++ zap t
def zbp (rs : List Int) (us ts : List (List Int)) : List PySem.Str:=List.zipWith zh7 rs us ++ ts.map znl
def zeF (rs : List Int) (us ts : List (List Int)) : PySem.Str:=PySem.Str.join "\n" (zbp rs us ts)
structure zgs (rs : List Int) (us ts : List (List Int)) : Prop where
 l : rs.length = us.length
 n : rs.length <= 8
 r : ∀ z ∈ rs,0 <= z /\ z < 100
 u : ∀ x ∈ us,x.length <= 60 /\ ∀ z ∈ x,0 <= z /\ z < 100
 tl : ts.length <= 100
 t : ∀ x ∈ ts,x.length <= 60 /\ ∀ z ∈ x,0 <= z /\ z < 100
theorem za4 (x y : PySem.Str) : (x ++ y).length = x.length + y.length:=by
 show (x.cps ++ y.cps).size = x.cps.size + y.cps.size
 simp
theorem zfZ {x : PySem.Str} {B : Nat} : ∀ {ts : List PySem.Str},(∀ t ∈ ts,t.length <= B) -> (PySem.Str.join x ts).length <= ts.length * (B + x.length)
 | [],_=>by show (0 : Nat) <= _; omega
 | [t],h=>by
   have:=h t (by simp)
   show t.length <= _
   simp only [List.length_singleton]
   omega
 | t :: u :: r,h=>by
   have:=h t (by simp)
   have ih:=zfZ (x:=x) (ts:=u :: r) (fun y hy=>h y (List.mem_cons_of_mem _ hy))
   show (t ++ x ++ PySem.Str.join x (u :: r)).length <= _
   rw [za4,za4,List.length_cons (a:=t),Nat.add_mul,Nat.one_mul]
   omega
theorem zoU : (PySem.Str.ofString " ").length = 1:=by decide
theorem zjD : (PySem.Str.ofString "\n").length = 1:=by decide
theorem zbI {zs : List Int} (h : ∀ z ∈ zs,0 <= z /\ z < 100) : (zap zs).length <= zs.length * 3:=by
 have:=zfZ (x:=" ") (B:=2) (ts:=zs.map zS) (fun t ht=>by
   obtain ⟨z,hz,rfl⟩:=List.mem_map.mp ht
   exact zhE (h z hz).1 (h z hz).2)
 rw [List.length_map,show (PySem.Str.ofString " ").length = 1 from zoU] at this
 exact this
theorem zjX (x : PySem.Str) : PySem.Str.empty ++ x = x:=by
 cases x with | mk c=>show (⟨#[] ++ c⟩ : PySem.Str) = _; simp
theorem zlI {z : Int} {c : Nat} (h : c < 48) : c ∉ (zS z).cps.toList:=by
 intro hc
 unfold zS zbP at hc
 simp only [List.mem_map] at hc
 obtain ⟨d,_,e⟩:=hc
 omega
theorem zii {c e : Nat} (he : c ≠ e) : ∀ {xs : List (List Nat)},(∀ x ∈ xs,c ∉ x) -> c ∉ zcE e xs
 | [],_=>by simp [zcE]
 | [x],h=>by simpa [zcE] using h x (by simp)
 | x :: y :: r,h=>by
   have ih:=zii he (xs:=y :: r) (fun z hz=>h z (List.mem_cons_of_mem _ hz))
   have:=h x (by simp)
   show c ∉ x ++ e :: zcE e (y :: r)
   simp only [List.mem_append,List.mem_cons,not_or]
   exact ⟨this,he,ih⟩
theorem zgJ {zs : List Int} {c : Nat} (h : c < 48) (hc : c ≠ 32) : c ∉ (zap zs).cps.toList:=by
 unfold zap
 rw [show (PySem.Str.ofString " ") = ⟨#[32]⟩ from zik,zfS]
 refine zii hc fun x hx=>?_
 obtain ⟨y,hy,rfl⟩:=List.mem_map.mp hx
 obtain ⟨z,_,rfl⟩:=List.mem_map.mp hy
 exact zlI h
theorem zk3 {x : PySem.Str} {y : PySem.Str} {zs : List Int} (hne : zs ≠ []) (e : x = y ++ PySem.Str.ofString " ") : x ++ zap zs = PySem.Str.join " " (y :: zs.map zS):=by
 subst e
 cases zs with
 | nil=>exact absurd rfl hne
 | cons z r=>rfl
theorem zd1 {x y : PySem.Str} {zs : List Int} (hne : zs ≠ []) (e : x = y ++ PySem.Str.ofString " ") (hy : 32 ∉ y.cps.toList) : Txt.split (x ++ zap zs) " " = y :: zs.map zS:=by
 rw [zk3 hne e,show (PySem.Str.ofString " ") = ⟨#[32]⟩ from zik]
 refine zgn (by simp) fun t ht=>?_
 rcases List.mem_cons.mp ht with rfl | ht
 . exact hy
 . obtain ⟨z,_,rfl⟩:=List.mem_map.mp ht
   exact zlI (by decide)
theorem zl2 {x y : PySem.Str} {c : Nat} (h1 : c ∉ x.cps.toList) (h2 : c ∉ y.cps.toList) : c ∉ (x ++ y).cps.toList:=by
 show c ∉ (x.cps ++ y.cps).toList
 simp only [Array.toList_append,List.mem_append,not_or]
 exact ⟨h1,h2⟩
theorem zkE {rs : List Int} {us ts : List (List Int)} (h : rs ≠ []) (hl : rs.length = us.length) : Txt.split (zeF rs us ts) "\n" = zbp rs us ts:=by
 unfold zeF
 rw [show (PySem.Str.ofString "\n") = ⟨#[10]⟩ from zqg]
 refine zgn ?_ fun t ht=>?_
 . cases rs with
   | nil=>exact absurd rfl h
   | cons r rs=>cases us with
     | nil=>cases hl
     | cons u us=>simp [zbp]
 . unfold zbp at ht
   rcases List.mem_append.mp ht with ht | ht
   . obtain ⟨i,hi,rfl⟩:=List.mem_iff_getElem.mp ht
     rw [List.getElem_zipWith]
     exact zl2 (by decide) (zgJ (by decide) (by decide))
   . obtain ⟨t,_,rfl⟩:=List.mem_map.mp ht
     exact zl2 (by decide) (zgJ (by decide) (by decide))
def zdq (K : PySem.W.Frag) : Sp:=fun vs H Q _=>∃ x0,vs = [x0] /\ ∃ zs : List Int,Is K H x0 (TZ zs) /\ zs.length <= 100 /\ (∀ z ∈ zs,0 <= z /\ z < 100) /\ ∀ H',zad H H' -> Q (.str (zap zs)) H'
theorem zdo {K : PySem.W.Frag} {H : Hp} {Q : VK} {E : XK} {zs : List Int} {v : V} (h : Is K H v (TZ zs)) (hl : zs.length <= 100) (hz : ∀ z ∈ zs,0 <= z /\ z < 100) (q : ∀ H',zad H H' -> Q (.str (zap zs)) H') : zdq K [v] H Q E:=⟨_,rfl,zs,h,hl,hz,q⟩
set_option maxHeartbeats 4000000 in
theorem zdd (T : Txt K mg a) : za5 P w K mg base CX0 1 a.show_wholes a.fd_show_wholes zbG (zdq K):=by
 refine T.d_show_wholes.F.ok zfJ ?_ ?_
 walk_at "b1"
 have hgd:=hr.gd
 refine ⟨_,(zag (zaq (zc3 PySem.F.plainAttrs_str PySem.F.slot_str_join PySem.F.type_str_join (show MtM _ "str.join" (zd4 K) from zdr) zaH (zaa (zaz rfl (zau.by (N':=["one"]) (src:=[none]) rfl (show zam _ (zac zbF).names zbE ["one"] [none] = true from by decide +kernel)) (zhB (pv 0)) (fun _ _ _ _ _=>(zaj (i:=0) (show (["one"] : List Str).Nodup from by decide) rfl (Or.inl rfl))) (fun _ _ _ _ _=>zax) (fun _ _ _ _ _=>(zao (show zah _ (.type "str") zgD from zeI) rfl T.z_str zhU (zaa (pv 0) zab)))) zab)))),?_⟩
 walk_at "cl"
 rw [show start zbE [x0] = [some x0] from rfl]
 obtain ⟨zs,hz,hl,hb,q⟩:=h
 obtain ⟨a1,rfl,hs⟩:=zck.mp hz
 walk_at "gg"
 refine zgg ?_
 walk_at "gg"
 refine zeA hs (o0:=none) (tl:=[]) rfl (fun j y _=>y = .str (zS (zs.getD j 0))) ?_ ?_
 . intro D j x ys o H1 hx inv
   obtain ⟨hj,rfl⟩:=int_at hx
   obtain ⟨b0,b1⟩:=hb _ (zdJ hj)
   walk_at "gg"
   refine zjQ (by have:=zdH (show (zs.getD j 0).natAbs < 1000000 by omega); omega) ?_
   rw [zou b0]
   walk_at "gg"
   exact zaF inv (by omega) (fun _ _ _ _ _ h=>h) ⟨_,rfl⟩ (zad.refl _) rfl
 . intro D ys H1 n1 S1 e1 l1 r1
   have ey : ys = (zs.map zS).map V.str:=by
     refine List.ext_getElem (by rw [l1]; simp) fun i h1 h2=>?_
     have:=r1 i ys[i] (List.getElem?_eq_getElem h1)
     rw [this]
     rw [List.length_map,List.length_map] at h2
     simp [List.getD_eq_getElem?_getD,List.getElem?_eq_getElem h2]
   rw [ey] at e1
   walk_at "gg"
   refine zdb (B:=2) (.of e1) (fun y hy=>?_) ?_ (q _ S1)
   . obtain ⟨z,hz',rfl⟩:=List.mem_map.mp hy
     exact zhE (hb z hz').1 (hb z hz').2
   . rw [List.length_map,zik]
     show zs.length * 2 + zs.length * 1 <= _
     omega
def zfb (K : PySem.W.Frag) : Sp:=fun vs H Q _=>∃ x0,vs = [x0] /\ ∃ (rs : List Int) (us ts : List (List Int)),Is K H x0 (zdQ rs us ts) /\ zgs rs us ts /\ ∀ H',zad H H' -> Q (.str (zeF rs us ts)) H'
theorem zfp {K : PySem.W.Frag} {H : Hp} {Q : VK} {E : XK} {rs : List Int} {us ts : List (List Int)} {v : V} (h : Is K H v (zdQ rs us ts)) (ok : zgs rs us ts) (q : ∀ H',zad H H' -> Q (.str (zeF rs us ts)) H') : zfb K [v] H Q E:=⟨_,rfl,rs,us,ts,h,ok,q⟩
theorem ziU {K : PySem.W.Frag} {H : Hp} {Q : VK} {a : Addr} {src : List (Option Nat)} {σ : L2.St} {pf : PySem.Str} {xs : List PySem.Str} (hs : SqL K H a (xs.map V.str)) (hsrc : zas src σ = none :: []) (hb : ∀ x ∈ xs,x.length <= 400) (hp : pf.length <= 100) (hl : xs.length <= 200) (q : ∀ D H',H D = none -> zad H H' -> H' D = some (.lst ((xs.map fun x=>pf ++ x).map V.str)) -> Q (.ref D) H') : zgf K (zcv 0) ze6 (zhs (zlj pf (zmJ (zgv 0) zlM))) src σ (.ref a) H Q:=by
 have z : 1000 <= sizeLine:=by decide
 refine zbV hs (o0:=none) (tl:=[]) hsrc (fun j y _=>y = .str (pf ++ xs.getD j "")) ?_ ?_
 . intro D j x ys o H1 hx inv
   rw [List.getElem?_map] at hx
   obtain ⟨x,hx2,rfl⟩:=Option.map_eq_some_iff.mp hx
   replace hx:=hx2
   have hj : j < xs.length:=(List.getElem?_eq_some_iff.mp hx).1
   have ex : xs.getD j "" = x:=by rw [List.getD_eq_getElem?_getD,hx]; rfl
   have:=hb x (List.mem_of_getElem? hx)
   walk_at "gg"
   refine znI (zqU (by rw [zjX]; omega) (zp9 ?_))
   rw [zjX]
   walk_at "gg"
   refine ⟨x,rfl,by omega,by rw [za4]; omega,zqV (by rw [za4]; omega) ?_⟩
   exact zaF inv (by omega) (fun _ _ _ _ _ h=>h) ⟨_,rfl⟩ (zad.refl _) (by rw [ex])
 . intro D ys H1 n1 S1 e1 l1 r1
   have ey : ys = (xs.map fun x=>pf ++ x).map V.str:=by
     refine List.ext_getElem (by rw [l1]; simp) fun i h1 h2=>?_
     rw [r1 i ys[i] (List.getElem?_eq_getElem h1)]
     rw [List.length_map,List.length_map] at h2
     simp [List.getD_eq_getElem?_getD,List.getElem?_eq_getElem h2]
   rw [ey] at e1
   exact q D H1 n1 S1 e1
set_option maxHeartbeats 4000000 in
theorem ze5 (T : Txt K mg a) : za5 P w K mg base CX0 2 a.show_web a.fd_show_web zcZ (zfb K):=by
 refine T.d_show_web.F.ok zda ?_ ?_
 walk_at "b1"
 refine ⟨_,(zae (zeb (i:=1) zda.nd rfl (Or.inl rfl) rfl (zau.by (N':=["count","own"]) (src:=[none,none]) rfl (show zam _ (zac zbn).names zbA ["count","own"] [none,none] = true from by decide +kernel)) (zfA rfl T.z_zip (zaa (pix (pv 0)) (zaa (pix (pv 0)) zab))) (fun _ _ _ _ _=>by exact (show PG _ _ (zkH K 2 _) from zhQ (n:=2) rfl (zbM (zaj (i:=0) (show (["count","own"] : List Str).Nodup from by decide) rfl (Or.inl rfl)) (zbM (zaj (i:=1) (show (["count","own"] : List Str).Nodup from by decide) rfl (Or.inl rfl)) zfs)))) (fun _ _ _ _ _=>zax) (fun _ _ _ _ _=>by exact (pcl (zdd (K:=K) (mg:=mg) (a:=a) T) hr T.d_show_wholes (zaa (zar (show OpR _ (binaryOp .Add) (zjV K) from zjR) (show PE _ _ (zjW K _) from zdK (zaa (pv 0) zab)) (pv 1)) zab))))
     (zae (zeb (i:=2) zda.nd rfl (Or.inl rfl) rfl (zau.by (N':=["tie"]) (src:=[none]) rfl (show zam _ (zac zbn).names zbA ["tie"] [none] = true from by decide +kernel)) (zhB (pix (pv 0))) (fun _ _ _ _ _=>(zaj (i:=0) (show (["tie"] : List Str).Nodup from by decide) rfl (Or.inl rfl))) (fun _ _ _ _ _=>zax) (fun _ _ _ _ _=>(pcl (zdd (K:=K) (mg:=mg) (a:=a) T) hr T.d_show_wholes (zaa (pv 0) zab))))
     (zag (zaq (zc3 PySem.F.plainAttrs_str PySem.F.slot_str_join PySem.F.type_str_join (show MtM _ "str.join" (zd4 K) from zdr) zaH (zaa (zar zaM (zaz rfl (zau.by (N':=["worm"]) (src:=[none]) rfl (show zam _ (zac zbn).names zbA ["worm"] [none] = true from by decide +kernel)) (zbj (pv 1)) (fun _ _ _ _ _=>(zaj (i:=0) (show (["worm"] : List Str).Nodup from by decide) rfl (Or.inl rfl))) (fun _ _ _ _ _=>zax) (fun _ _ _ _ _=>(zjU (zmC (zmG (pv 0) zlr))))) (zaz rfl (zau.by (N':=["tie"]) (src:=[none]) rfl (show zam _ (zac zbn).names zbA ["tie"] [none] = true from by decide +kernel)) (zbj (pv 2)) (fun _ _ _ _ _=>(zaj (i:=0) (show (["tie"] : List Str).Nodup from by decide) rfl (Or.inl rfl))) (fun _ _ _ _ _=>zax) (fun _ _ _ _ _=>(zjU (zmC (zmG (pv 0) zlr)))))) zab)))))),?_⟩
 walk_at "cl"
 rw [show start zbA [x0] = [some x0,none,none] from rfl]
 obtain ⟨rs,us,ts,hw,ok,q⟩:=h
 walk_at "gg"
 refine zhw hw (fun w0 i0=>?_)
 walk_at "gg"
 refine zhJ hw (fun w1 i1=>?_)
 walk_at "gg"
 obtain ⟨a0,rfl,s0⟩:=zck.mp i0
 obtain ⟨a1,xs1,rfl,s1,t1⟩:=zaC.mp i1
 have l1:=t1.length
 rw [List.length_map] at l1
 refine ⟨true,true,zhy (t:=true) (u:=true) s0 s1 (by rw [List.length_map,l1]; exact ok.l) (o0:=none) (o0':=none) (tl:=[]) rfl (fun j y _=>y = .str (zap (rs.getD j 0 :: us.getD j []))) (fun _ _ _ _ _ z=>z) ?_ ?_⟩
 . intro D i x y zs o1 o2 H2 c hx' hy' inv ec
   obtain ⟨hi,rfl⟩:=L2.int_at hx'
   have hj : i < us.length:=by rw [<- ok.l]; exact hi
   obtain ⟨_,iy⟩:=zbt t1 hy'
   have iy : Is K H y (TZ (us.getD i [])):=by
     rw [List.getD_eq_getElem?_getD,List.getElem?_map,List.getElem?_eq_getElem hj] at iy
     rw [List.getD_eq_getElem?_getD,List.getElem?_eq_getElem hj]
     exact iy
   have S2:=inv.2.2.1
   obtain ⟨g1,g2⟩:=ok.u (us.getD i []) (by rw [List.getD_eq_getElem?_getD,List.getElem?_eq_getElem hj]; exact List.getElem_mem hj)
   have g0:=ok.r _ (zdJ hi)
   have h8:=ok.n
   refine zde (zfz (.of ec) rfl ?_)
   walk_at "gg"
   refine zdL (ds:=[.int (rs.getD i 0)]) (by simp) (.cons (zaK.mpr rfl) .nil) (fun v3 H3 S3 i3=>?_)
   walk_at "gg"
   refine zij i3 ((iy.by S2).by S3) (by rw [List.length_map]; simp only [List.length_singleton]; omega) (fun v4 H4 S4 i4=>?_)
   walk_at "gg"
   refine zdo (zs:=rs.getD i 0 :: us.getD i []) i4 (by rw [List.length_cons]; omega) (fun z hz=>?_) (fun H5 S5=>?_)
   . rcases List.mem_cons.mp hz with rfl | hz
     . exact g0
     . exact g2 z hz
   exact zeR inv (by omega) (fun _ _ _ _ _ z=>z) ⟨_,_,rfl⟩ (S3.trans (S4.trans S5)) rfl
 . intro D zs H2 hn S2 hD hl2 hr
   have ey : zs = ((List.zipWith (fun r u=>zap (r :: u)) rs us)).map V.str:=by
     refine List.ext_getElem (by rw [hl2]; have:=ok.l; simp; omega) fun i h1 h2=>?_
     rw [hr i zs[i] (List.getElem?_eq_getElem h1)]
     rw [List.length_map,List.length_zipWith] at h2
     have h3 : i < rs.length:=by omega
     have h4 : i < us.length:=by omega
     simp [List.getD_eq_getElem?_getD,List.getElem?_eq_getElem h3,List.getElem?_eq_getElem h4]
   subst ey
   walk_at "gg"
   refine zhK (hw.by S2) (fun w2 i2=>?_)
   walk_at "gg"
   obtain ⟨a2,xs2,rfl,s2,t2⟩:=zaC.mp i2
   have l2:=t2.length
   rw [List.length_map] at l2
   refine zeA s2 (o0:=none) (tl:=[]) rfl (fun j y _=>y = .str (zap (ts.getD j []))) ?_ ?_
   . intro D j x ys o H3 hx inv
     obtain ⟨hj,iy⟩:=zbt t2 hx
     rw [List.length_map] at hj
     have iy : Is K H2 x (TZ (ts.getD j [])):=by
       rw [List.getD_eq_getElem?_getD,List.getElem?_map,List.getElem?_eq_getElem hj] at iy
       rw [List.getD_eq_getElem?_getD,List.getElem?_eq_getElem hj]
       exact iy
     obtain ⟨g1,g2⟩:=ok.t (ts.getD j []) (by rw [List.getD_eq_getElem?_getD,List.getElem?_eq_getElem hj]; exact List.getElem_mem hj)
     have h8:=ok.tl
     walk_at "gg"
     refine zdo (iy.by inv.2.2.1) (by omega) g2 (fun H4 S4=>?_)
     walk_at "gg"
     exact zaF inv (by omega) (fun _ _ _ _ _ h=>h) ⟨_,rfl⟩ S4 rfl
   . intro D3 ys H3 n3 S3 e3 l3 r3
     have ey : ys = (ts.map zap).map V.str:=by
       refine List.ext_getElem (by rw [l3]; simp; omega) fun i h1 h2=>?_
       rw [r3 i ys[i] (List.getElem?_eq_getElem h1)]
       rw [List.length_map,List.length_map] at h2
       simp [List.getD_eq_getElem?_getD,List.getElem?_eq_getElem h2]
     subst ey
     walk_at "gg"
     have T3:=S2.trans S3
     refine ⟨rfl,?_⟩
     walk_at "gg"
     have hD3:=S3 _ _ hD
     have m1 : ∀ i,i < (List.zipWith (fun r u=>zap (r :: u)) rs us).length -> ((List.zipWith (fun r u=>zap (r :: u)) rs us).getD i "").length <= 183:=by
       intro i hi
       rw [List.length_zipWith] at hi
       have h3 : i < rs.length:=by omega
       have h4 : i < us.length:=by omega
       have b:=ok.u us[i] (List.getElem_mem h4)
       have b0:=ok.r rs[i] (List.getElem_mem h3)
       have:=zbI (zs:=rs[i] :: us[i]) (fun z hz=>by
         rcases List.mem_cons.mp hz with rfl | hz
         . exact b0
         . exact b.2 z hz)
       rw [List.length_cons] at this
       rw [List.getD_eq_getElem?_getD,List.getElem?_zipWith,List.getElem?_eq_getElem h3,List.getElem?_eq_getElem h4]
       show (zap (rs[i] :: us[i])).length <= _
       omega
     have mA : ∀ x ∈ List.zipWith (fun r u=>zap (r :: u)) rs us,x.length <= 400:=by
       intro x hx
       obtain ⟨i,hi,rfl⟩:=List.mem_iff_getElem.mp hx
       have:=m1 i hi
       rw [List.getD_eq_getElem?_getD,List.getElem?_eq_getElem hi] at this
       exact Nat.le_trans this (by decide)
     have mB : ∀ x ∈ ts.map zap,x.length <= 400:=by
       intro x hx
       obtain ⟨t,ht,rfl⟩:=List.mem_map.mp hx
       have:=zbI (ok.t t ht).2
       have:=(ok.t t ht).1
       omega
     have h8:=ok.n
     have h9:=ok.tl
     have hz8 : (List.zipWith (fun r u=>zap (r :: u)) rs us).length <= 8:=by rw [List.length_zipWith]; omega
     refine ziU (.of hD3) rfl mA (by decide) (by omega) (fun D4 H4 n4 S4 e4=>?_)
     walk_at "gg"
     have hD4:=S4 _ _ e3
     refine ziU (.of hD4) rfl mB (by decide) (by rw [List.length_map]; omega) (fun D5 H5 n5 S5 e5=>?_)
     refine zfv (S5 _ _ e4) e5 (by simp only [List.length_map]; have : 1000 <= sizeLine:=(by decide); omega) (fun c6 H6 n6 S6 e6=>?_)
     walk_at "gg"
     rw [<- List.map_append] at e6
     refine zdb (B:=500) (.of e6) (fun y hy=>?_) ?_ ?_
     . rcases List.mem_append.mp hy with hy | hy
       . obtain ⟨x,hx,rfl⟩:=List.mem_map.mp hy
         have:=mA x hx
         rw [za4,show (PySem.Str.ofString "worm ").length = 5 by decide]; omega
       . obtain ⟨x,hx,rfl⟩:=List.mem_map.mp hy
         have:=mB x hx
         rw [za4,show (PySem.Str.ofString "tie ").length = 4 by decide]; omega
     . simp only [List.length_append,List.length_map,zjD]
       omega
     . have e : zeF rs us ts = PySem.Str.join "\n" (List.map (fun x=>PySem.Str.ofString "worm " ++ x) (List.zipWith (fun r u=>zap (r :: u)) rs us) ++ List.map (fun x=>PySem.Str.ofString "tie " ++ x) (ts.map zap)):=by
         unfold zeF zbp
         rw [List.map_zipWith,List.map_map]
         rfl
       rw [<- e]
       exact q _ (T3.trans (S4.trans (S5.trans S6)))
def zcx (K : PySem.W.Frag) : Sp:=fun vs H Q _=>∃ x0 x1,vs = [x0,x1] /\ ∃ (n : Nat) (m : Int),x0 = .str (zbP n) /\ x1 = .int m /\ ((za8 n).length : Int) <= m /\ (za8 n).length <= 640 /\ ∀ H',zad H H' -> Q (.bl true) H'
theorem ze0 {K : PySem.W.Frag} {H : Hp} {Q : VK} {E : XK} {n : Nat} {m : Int} (h : ((za8 n).length : Int) <= m) (hl : (za8 n).length <= 640) (q : ∀ H',zad H H' -> Q (.bl true) H') : zcx K [.str (zbP n),.int m] H Q E:=⟨_,_,rfl,n,m,rfl,rfl,h,hl,q⟩
set_option maxHeartbeats 4000000 in
theorem zeT (T : Txt K mg a) : za5 P w K mg base CX0 1 a.is_whole_text a.fd_is_whole_text zbl (zcx K):=by
 refine T.d_is_whole_text.F.ok zeL ?_ ?_
 walk_at "b2"
 refine ⟨_,(zae (zbU (PW.pt (zdW (zbd (zlE zgE zgE zaf (zai (show zah _ (.builtin "len") zlF from zkx) rfl T.z_len zaS (zaa (pv 0) zab)) (pv 1))) (zd3 (zbd (zbm (zai (show zah _ (.builtin "all") (zdT K) from zbx rfl) rfl T.z_all zdt (zaa (zaz rfl (zau.by (N':=["sign"]) (src:=[none]) rfl (show zam _ (zac zbi).names zbk ["sign"] [none] = true from by decide +kernel)) (zoW (pv 0)) (fun _ _ _ _ _=>(zaj (i:=0) (show (["sign"] : List Str).Nodup from by decide) rfl (Or.inl rfl))) (fun _ _ _ _ _=>zax) (fun _ _ _ _ _=>(zb0 (show OpR _ (compareOp .In) zoZ from zpb) (pv 0) (zmi rfl T.c_FIGURES) (by with_unfolding_all rfl)))) zab))))))) (zag (zaq zes)) zaL)
     (zag (zaq (zqw (zb0 (show OpR _ (compareOp .Eq) (zgA K) from ze2 hu) (pv 0) zaH (zaO _)) (zem (zb0 (show OpR _ (compareOp .NotEq) (zeW K) from zc7 hu) (pix (pv 0)) zaH (zaO _))))))),?_⟩
 walk_at "cl"
 rw [show start zbk [x0,x1] = [some x0,some x1] from rfl]
 obtain ⟨n,m,rfl,rfl,hm,hl,q⟩:=h
 have hlen:=zir n
 have hne : 1 <= (za8 n).length:=List.length_pos_iff.mpr (zfy n)
 walk_at "gg"
 refine znZ (by rw [hlen]; exact Nat.le_trans hl (by decide)) ?_
 rw [hlen]
 walk_at "gg"
 all_goals first | (exfalso; omega) | skip
 refine zjh ?_
 walk_at "gg"
 refine zjq (zga n) (zbq H [] fun _ y _=>y = .bl true) (fun D H' n s e=>⟨⟨none,rfl⟩,n,s,e,rfl,fun j y z=>by simp at z⟩) ?_ ?_
 . intro D i c ys σ' H1 hc inv
   obtain ⟨d,hd,rfl⟩:=zn5 hc
   obtain ⟨⟨o,rfl⟩,_⟩:=id inv
   have hi : i < (zbP n).length:=by
     have:=(Array.getElem?_eq_some_iff.mp hc).1
     exact this
   walk_at "gg"
   refine zpa ?_
   rw [zpM,zpA d hd]
   walk_at "gg"
   exact zaF inv (by omega) (fun _ _ _ _ _ h=>h) ⟨_,rfl⟩ (zad.refl _) rfl
 . rintro D ys σ' H1 ⟨_,n1,S1,e1,l1,r1⟩
   have ey : ys = (List.replicate ys.length true).map V.bl:=by
     refine List.ext_getElem (by simp) fun i h1 h2=>?_
     rw [r1 i ys[i] (List.getElem?_eq_getElem h1)]
     simp
   rw [ey] at e1
   walk_at "gg"
   refine zcY (.of e1) ?_
   rw [show (List.replicate ys.length true).all id = true by simp]
   walk_at "gg"
   refine zih (zle n) (zhe _) ?_
   rw [zlW]
   by_cases hz : n = 0
   . rw [decide_eq_true hz]
     walk_at "gg"
     exact q _ S1
   . rw [decide_eq_false hz]
     walk_at "gg"
     obtain ⟨d,d0,d1,ec⟩:=zkF hz
     refine .inr (.inr ⟨_,_,_,rfl,rfl,by rw [hlen]; exact Nat.le_trans hl (by decide),zcQ (j:=0) ec,?_⟩)
     walk_at "gg"
     refine zgk (zfH (by simp; omega)) (zhe _) ?_
     rw [zlY d d1 d0]
     exact q _ S1
def zet (K : PySem.W.Frag) (a : Ad) : Sp:=fun vs H Q E=>∃ x0,vs = [x0] /\ ∃ (l : Addr) (zs : List Int),x0 = .ref l /\ SqL K H l ((zs.map zS).map V.str) /\ zs.length <= 100 /\ (∀ z ∈ zs,0 <= z /\ z < 100) /\ ∀ v H',zad H H' -> Is K H' v (TZ zs) -> Q v H'
theorem zhS {K : PySem.W.Frag} {a : Ad} {H : Hp} {Q : VK} {E : XK} {l : Addr} {zs : List Int} (h : SqL K H l ((zs.map zS).map V.str)) (hl : zs.length <= 100) (hz : ∀ z ∈ zs,0 <= z /\ z < 100) (q : ∀ v H',zad H H' -> Is K H' v (TZ zs) -> Q v H') : zet K a [.ref l] H Q E:=⟨_,rfl,l,zs,rfl,h,hl,hz,q⟩
theorem zos {zs : List Int} {j : Nat} {x : V} (h : ((zs.map zS).map V.str)[j]? = some x) : j < zs.length /\ x = .str (zbP (zs.getD j 0).toNat):=by
 rw [List.getElem?_map,List.getElem?_map] at h
 obtain ⟨y,hy,rfl⟩:=Option.map_eq_some_iff.mp h
 obtain ⟨z,hz,rfl⟩:=Option.map_eq_some_iff.mp hy
 have hj : j < zs.length:=(List.getElem?_eq_some_iff.mp hz).1
 refine ⟨hj,?_⟩
 rw [List.getD_eq_getElem?_getD,hz]
 rfl
set_option maxHeartbeats 4000000 in
theorem zhA (T : Txt K mg a) : za5 P w K mg base (CX1 P w) 2 a.wholes_in a.fd_wholes_in zcm (zet K a):=by
 refine T.d_wholes_in.F.ok1 zhR ?_ ?_
 walk_at "b1"
 refine ⟨_,(zae (zbU (zbd (zbm (zai (show zah _ (.builtin "all") (zdT K) from zbx rfl) rfl T.z_all zdt (zaa (zaz rfl (zau.by (N':=["word"]) (src:=[none]) rfl (show zam _ (zac zbK).names zbO ["word"] [none] = true from by decide +kernel)) (zbj (pv 0)) (fun _ _ _ _ _=>(zaj (i:=0) (show (["word"] : List Str).Nodup from by decide) rfl (Or.inl rfl))) (fun _ _ _ _ _=>zax) (fun _ _ _ _ _=>(pcl (zeT (K:=K) (mg:=mg) (a:=a) T) hr T.d_is_whole_text (zaa (pv 0) (zaa (zcu rfl T.c_WHOLE_FIGURES) zab))))) zab)))) (zag (zcb T.x_NoText rfl rfl T.g_NoText zel (zaa zaH zab))) zaL)
     (zag (zaq (zao (show zah _ (.type "tuple") (zay K) from zaB) rfl T.z_tuple zaV (zaa (zaz rfl (zau.by (N':=["word"]) (src:=[none]) rfl (show zam _ (zac zbK).names zbO ["word"] [none] = true from by decide +kernel)) (zbj (pv 0)) (fun _ _ _ _ _=>(zaj (i:=0) (show (["word"] : List Str).Nodup from by decide) rfl (Or.inl rfl))) (fun _ _ _ _ _=>zax) (fun _ _ _ _ _=>(zao (show zah _ (.type "int") zmP from zkX) rfl T.z_int zf6 (zaa (pv 0) zab)))) zab))))),?_⟩
 walk_at "cl"
 rw [show start zbO [x0] = [some x0] from rfl]
 obtain ⟨l,zs,rfl,hs,hl,hz,q⟩:=h
 walk_at "gg"
 refine zbV hs (o0:=none) (tl:=[]) rfl (fun _ y _=>y = .bl true) ?_ ?_
 . intro D j x ys o H1 hx inv
   obtain ⟨hj,rfl⟩:=zos hx
   obtain ⟨b0,b1⟩:=hz _ (zdJ hj)
   have hd : (za8 (zs.getD j 0).toNat).length <= 2:=zfO (by omega)
   walk_at "gg"
   refine ze0 (by omega) (by omega) (fun H2 S2=>?_)
   walk_at "gg"
   exact zaF inv (by omega) (fun _ _ _ _ _ h=>h) ⟨_,rfl⟩ S2 rfl
 . intro D ys H1 n1 S1 e1 l1 r1
   have ey : ys = (List.replicate ys.length true).map V.bl:=by
     refine List.ext_getElem (by simp) fun i h1 h2=>?_
     rw [r1 i ys[i] (List.getElem?_eq_getElem h1)]
     simp
   rw [ey] at e1
   walk_at "gg"
   refine zcY (.of e1) ?_
   rw [show (List.replicate ys.length true).all id = true by simp]
   have hs1:=S1.seq hs
   walk_at "gg"
   refine zbV hs1 (o0:=none) (tl:=[]) rfl (fun j y _=>y = .int (zs.getD j 0)) ?_ ?_
   . intro D j x ys o H2 hx inv
     obtain ⟨hj,rfl⟩:=zos hx
     obtain ⟨b0,b1⟩:=hz _ (zdJ hj)
     have hd : (za8 (zs.getD j 0).toNat).length <= 2:=zfO (by omega)
     walk_at "gg"
     refine zne (by omega) ?_
     rw [show (((zs.getD j 0).toNat : Nat) : Int) = zs.getD j 0 by omega]
     walk_at "gg"
     exact zaF inv (by omega) (fun _ _ _ _ _ h=>h) ⟨_,rfl⟩ (zad.refl _) rfl
   . intro D2 ys2 H2 n2 S2 e2 l2 r2
     have ey2 : ys2 = zs.map V.int:=by
       refine List.ext_getElem (by rw [l2]; simp) fun i h1 h2=>?_
       rw [r2 i ys2[i] (List.getElem?_eq_getElem h1)]
       rw [List.length_map] at h2
       simp [List.getD_eq_getElem?_getD,List.getElem?_eq_getElem h2]
     rw [ey2] at e2
     walk_at "gg"
     refine zdF (.of e2) (fun lt H3 n3 S3 e3=>?_)
     exact q _ _ (S1.trans (S2.trans S3)) (zck.mpr ⟨lt,rfl,.of e3⟩)
def ze8 (K : PySem.W.Frag) (a : Ad) : Sp:=fun vs H Q E=>∃ x0 x1,vs = [x0,x1] /\ ∃ (x y : PySem.Str),x0 = .str x /\ x1 = .str y /\ (y.length == 0) = false /\ x.length <= sizeLine /\ (Txt.split x y).length <= sizeLine /\ ∀ l H',H l = none -> zad H H' -> H' l = some (.lst ((Txt.split x y).map V.str)) -> Q (.ref l) H'
theorem ziC {K : PySem.W.Frag} {a : Ad} {H : Hp} {Q : VK} {E : XK} {x y : PySem.Str} (hy : (y.length == 0) = false) (h1 : x.length <= sizeLine) (h2 : (Txt.split x y).length <= sizeLine) (q : ∀ l H',H l = none -> zad H H' -> H' l = some (.lst ((Txt.split x y).map V.str)) -> Q (.ref l) H') : ze8 K a [.str x,.str y] H Q E:=⟨_,_,rfl,x,y,rfl,rfl,hy,h1,h2,q⟩
set_option maxHeartbeats 4000000 in
theorem ziG (T : Txt K mg a) : za5 P w K mg base (CX1 P w) 1 a.parts_of a.fd_parts_of zcM (ze8 K a):=by
 refine T.d_parts_of.F.ok1 ziN ?_ ?_
 walk_at "b2"
 have hgd:=hr.gd
 refine ⟨_,(zae (zbU (zbd (zbm (zai (show zah _ (.builtin "isinstance") (zfl K) from zeN) rfl T.z_isinstance zbD (zaa (pv 0) (zaa (zeB (v:=.ty "str") rfl T.z_str zhU rfl) zab))))) (zag (zcb T.x_NoText rfl rfl T.g_NoText zel (zaa zaH zab))) zaL)
     (zag (zaq (zc3 PySem.F.plainAttrs_str PySem.F.slot_str_split PySem.F.type_str_split (show MtM _ "str.split" zfY from ziA) (pv 0) (zaa (pv 1) zab))))),?_⟩
 walk_at "cl"
 rw [show start zee [x0,x1] = [some x0,some x1] from rfl]
 obtain ⟨x,y,rfl,rfl,hy,h1,h2,q⟩:=h
 walk_at "gg"
 refine zma (d:=.str x) (zbS.mpr rfl) ?_
 rw [show zmD (.str x) = true from rfl]
 walk_at "gg"
 refine zgg ?_
 walk_at "gg"
 exact zh6 hy h1 h2 q
def zcP (H : Hp) (l : Addr) (rows : List (List PySem.Str)) : Prop:=∃ as : List Addr,H l = some (.lst (as.map V.ref)) /\ as.length = rows.length /\ ∀ j a,as[j]? = some a -> H a = some (.lst ((rows.getD j []).map V.str))
theorem zcP.by {H H' : Hp} {l : Addr} {rows : List (List PySem.Str)} (h : zcP H l rows) (s : zad H H') : zcP H' l rows:=by
 obtain ⟨as,e,n,r⟩:=h
 exact ⟨as,s _ _ e,n,fun j a z=>s _ _ (r j a z)⟩
theorem ziD : ∀ {ys : List V},(∀ y ∈ ys,∃ b,y = V.ref b) -> ∃ as : List Addr,ys = as.map V.ref
 | [],_=>⟨[],rfl⟩
 | y :: r,h=>by
   obtain ⟨b,rfl⟩:=h y (by simp)
   obtain ⟨as,rfl⟩:=ziD (ys:=r) (fun z hz=>h z (List.mem_cons_of_mem _ hz))
   exact ⟨b :: as,rfl⟩
def zfj (K : PySem.W.Frag) (a : Ad) : Sp:=fun vs H Q E=>∃ x0,vs = [x0] /\ ∃ (x : PySem.Str) (ls : List PySem.Str),x0 = .str x /\ Txt.split x "\n" = ls /\ x.length <= sizeLine /\ ls.length <= 200 /\ (∀ y ∈ ls,y.length <= 500 /\ (Txt.split y " ").length <= 500) /\ ∀ l H',zad H H' -> zcP H' l (ls.map fun y=>Txt.split y " ") -> Q (.ref l) H'
theorem ziH {K : PySem.W.Frag} {a : Ad} {H : Hp} {Q : VK} {E : XK} {x : PySem.Str} {ls : List PySem.Str} (e : Txt.split x "\n" = ls) (h1 : x.length <= sizeLine) (h2 : ls.length <= 200) (h3 : ∀ y ∈ ls,y.length <= 500 /\ (Txt.split y " ").length <= 500) (q : ∀ l H',zad H H' -> zcP H' l (ls.map fun y=>Txt.split y " ") -> Q (.ref l) H') : zfj K a [.str x] H Q E:=⟨_,rfl,x,ls,rfl,e,h1,h2,h3,q⟩
set_option maxHeartbeats 4000000 in
theorem ziR (T : Txt K mg a) : za5 P w K mg base (CX1 P w) 2 a.lines_of a.fd_lines_of zcV (zfj K a):=by
 refine T.d_lines_of.F.ok1 ziZ ?_ ?_
 walk_at "b1"
 refine ⟨_,(zag (zaq (zaz rfl (zau.by (N':=["line"]) (src:=[none]) rfl (show zam _ (zac zcX).names zc2 ["line"] [none] = true from by decide +kernel)) (zbj (pcx (ziG T) hr T.d_parts_of zh3 (zaa (pv 0) (zaa zaH zab)))) (fun _ _ _ _ _=>(zaj (i:=0) (show (["line"] : List Str).Nodup from by decide) rfl (Or.inl rfl))) (fun _ _ _ _ _=>zax) (fun _ _ _ _ _=>(show PE _ _ (tBM K _ zfY _ _) from (zc3 PySem.F.plainAttrs_str PySem.F.slot_str_split PySem.F.type_str_split (show MtM _ "str.split" zfY from ziA) (pv 0) (zaa zaH zab))))))),?_⟩
 walk_at "cl"
 rw [show start zc2 [x0] = [some x0] from rfl]
 obtain ⟨x,ls,rfl,e,h1,h2,h3,q⟩:=h
 have z : 1000 <= sizeLine:=by decide
 walk_at "gg"
 refine ziC (by decide) h1 (by have:=e; rw [e]; omega) (fun l H1 n1 S1 e1=>?_)
 rw [e] at e1
 walk_at "gg"
 refine zea (.of e1) (fun D i ys σ' H'=>(∃ o,σ' = [o]) /\ H1 D = none /\ zad H1 H' /\ H' D = some (.lst ys) /\ ys.length = i /\ ∀ j y,ys[j]? = some y -> ∃ b,y = .ref b /\ b ≠ D /\ H' b = some (.lst ((Txt.split (ls.getD j "") " ").map V.str))) ?_ ?_ ?_ ?_
 . exact fun D H' n s e=>⟨⟨none,rfl⟩,n,s,e,rfl,fun j y z=>by simp at z⟩
 . exact fun D i ys σ' H' h=>.of (h.2.2.1 _ _ e1)
 . rintro D i y ys σ' H' hy ⟨⟨o,rfl⟩,n,s,eD,el,r⟩
   rw [List.getElem?_map] at hy
   obtain ⟨y,hy2,rfl⟩:=Option.map_eq_some_iff.mp hy
   have hj : i < ls.length:=(List.getElem?_eq_some_iff.mp hy2).1
   have ey : ls.getD i "" = y:=by rw [List.getD_eq_getElem?_getD,hy2]; rfl
   obtain ⟨b1,b2⟩:=h3 y (List.mem_of_getElem? hy2)
   walk_at "gg"
   refine ⟨rfl,?_⟩
   walk_at "gg"
   refine zh6 (by decide) (by omega) (by omega) (fun c H3 n3 S3 e3=>?_)
   have eD3:=S3 _ _ eD
   refine zcI eD3 (by omega) (fun H6 E6 e6=>⟨⟨_,rfl⟩,n,(s.trans S3).grow n E6,e6,by simp [el],fun j z hz=>?_⟩)
   rcases Nat.lt_or_ge j ys.length with hl | hl
   . rw [List.getElem?_append_left hl] at hz
     obtain ⟨b,rfl,nb,eb⟩:=r j z hz
     exact ⟨b,rfl,nb,E6 _ _ nb (S3 _ _ eb)⟩
   . rw [List.getElem?_append_right hl] at hz
     obtain ⟨hk,hz⟩:=List.getElem?_eq_some_iff.mp hz
     have hk0 : j - ys.length = 0:=by simp at hk; omega
     have hji : j = i:=by omega
     subst hji
     have hz : z = .ref c:=by rw [<- hz]; simp [hk0]
     have nc : c ≠ D:=fun z=>by rw [z,eD] at n3; cases n3
     exact ⟨c,hz,nc,by rw [ey]; exact E6 _ _ nc e3⟩
 . rintro D ys σ' H' ⟨_,n,s,eD,el,r⟩
   refine q D H' (S1.trans s) ?_
   rw [List.length_map] at el
   have f : ∀ y ∈ ys,∃ b,y = V.ref b:=fun y hy=>by
     obtain ⟨j,hj,rfl⟩:=List.mem_iff_getElem.mp hy
     obtain ⟨b,hb,_⟩:=r j ys[j] (List.getElem?_eq_getElem hj)
     exact ⟨b,hb⟩
   obtain ⟨as,rfl⟩:=ziD f
   refine ⟨as,eD,by rw [List.length_map] at el ⊢; exact el,fun j b hb=>?_⟩
   obtain ⟨b',h1,_,h2⟩:=r j (.ref b) (by rw [List.getElem?_map,hb]; rfl)
   cases h1
   rw [h2]
   have hj : j < ls.length:=by rw [<- el,List.length_map]; exact (List.getElem?_eq_some_iff.mp hb).1
   rw [List.getD_eq_getElem?_getD,List.getD_eq_getElem?_getD,List.getElem?_map,List.getElem?_eq_getElem hj]
   rfl
def zmQ (p : PySem.Str × List Int) : List PySem.Str:=p.1 :: p.2.map zS
def zdS (ps : List (PySem.Str × List Int)) (w : PySem.Str) : List (List Int):=(ps.filter fun p=>p.1 == w).map Prod.snd
def zdV (K : PySem.W.Frag) (a : Ad) : Sp:=fun vs H Q E=>∃ x0 x1,vs = [x0,x1] /\ ∃ (l : Addr) (w : PySem.Str) (ps : List (PySem.Str × List Int)),x0 = .ref l /\ x1 = .str w /\ zcP H l (ps.map zmQ) /\ PyData.strOk w = true /\ (∀ p ∈ ps,PyData.strOk p.1 = true /\ p.2.length <= 100 /\ ∀ z ∈ p.2,0 <= z /\ z < 100) /\ ps.length <= 200 /\ ∀ v H',zad H H' -> Is K H' v (.list ((zdS ps w).map TZ)) -> Q v H'
theorem zdU {K : PySem.W.Frag} {a : Ad} {H : Hp} {Q : VK} {E : XK} {l : Addr} {w : PySem.Str} {ps : List (PySem.Str × List Int)} (h : zcP H l (ps.map zmQ)) (hw : PyData.strOk w = true) (hp : ∀ p ∈ ps,PyData.strOk p.1 = true /\ p.2.length <= 100 /\ ∀ z ∈ p.2,0 <= z /\ z < 100) (hl : ps.length <= 200) (q : ∀ v H',zad H H' -> Is K H' v (.list ((zdS ps w).map TZ)) -> Q v H') : zdV K a [.ref l,.str w] H Q E:=⟨_,_,rfl,l,w,ps,rfl,rfl,h,hw,hp,hl,q⟩
theorem zm1 {x : V} {xs : List V} : zgo (x :: xs) (some 1) none = xs:=by
 show zh1 (x :: xs) (some 1) none = xs
 rw [zeQ]; rfl
set_option maxHeartbeats 4000000 in
theorem zd0 (T : Txt K mg a) : za5 P w K mg base (CX1 P w) 3 a.lines_with a.fd_lines_with zb1 (zdV K a):=by
 refine T.d_lines_with.F.ok1 zgu ?_ ?_
 walk_at "b2"
 refine ⟨_,(zag (zaq (zaz rfl (zau.by (N':=["line","first"]) (src:=[none,some 1]) rfl (show zam _ (zac zbY).names zbW ["line","first"] [none,some 1] = true from by decide +kernel)) (zbj (pv 0)) (fun _ _ _ _ _=>(zaj (i:=0) (show (["line","first"] : List Str).Nodup from by decide) rfl (Or.inl rfl))) (fun _ _ _ _ _=>(zjP (zbg (show OpR _ (compareOp .Eq) (zgA K) from ze2 hu) (zp1 (K:=K) zcq (pv 0)) (pv 1) (zaO _)))) (fun _ _ _ _ _=>(pcx (zhA (K:=K) (mg:=mg) (a:=a) T) hr T.d_wholes_in zj7 (zaa (zev (show SlR _ (zje K) from zhL) (pv 0) (zfw zaf) zfu) zab)))))),?_⟩
 walk_at "cl"
 rw [show start zbW [x0,x1] = [some x0,some x1] from rfl]
 obtain ⟨l,w,ps,rfl,rfl,⟨as,e1,el,er⟩,hw,hp,h2,q⟩:=h
 have z : 1000 <= sizeLine:=by decide
 walk_at "gg"
 refine zea (.of e1) (fun D i ys σ' H'=>(∃ o,σ' = [o,some (.str w)]) /\ H D = none /\ zad H H' /\ H' D = some (.lst ys) /\ ys.length <= i /\ IsAll K H' ys ((zdS (ps.take i) w).map TZ)) ?_ ?_ ?_ ?_
 . exact fun D H' n s e=>⟨⟨none,rfl⟩,n,s,e,Nat.le_refl _,.nil⟩
 . exact fun D i ys σ' H' h=>.of (h.2.2.1 _ _ e1)
 . rintro D i y ys σ' H' hy ⟨⟨o,rfl⟩,n,s,eD,ey,r⟩
   rw [List.getElem?_map] at hy
   obtain ⟨b,hb,rfl⟩:=Option.map_eq_some_iff.mp hy
   have hj : i < ps.length:=by have:=(List.getElem?_eq_some_iff.mp hb).1; rw [el,List.length_map] at this; exact this
   have eb:=er i b hb
   rw [List.getD_eq_getElem?_getD,List.getElem?_map,List.getElem?_eq_getElem hj] at eb
   have eb : H b = some (.lst (V.str ps[i].1 :: (ps[i].2.map zS).map V.str)):=eb
   obtain ⟨p1,p2,p3⟩:=hp ps[i] (List.getElem_mem hj)
   walk_at "gg"
   refine zeM (.of (s _ _ eb)) (v:=.str ps[i].1) (zcQ (j:=0) rfl) ?_
   walk_at "gg"
   refine zih p1 hw ?_
   refine ⟨_,rfl,?_⟩
   have et : zdS (ps.take (i + 1)) w = zdS (ps.take i) w ++ (if (ps[i].1 == w) = true then [ps[i].2] else []):=by
     unfold zdS
     rw [List.take_add_one,List.getElem?_eq_getElem hj,List.filter_append,List.map_append]
     show _ ++ List.map Prod.snd (List.filter _ [ps[i]]) = _
     by_cases c : (ps[i].1 == w) = true
     . rw [if_pos c]; simp [List.filter,c]
     . rw [if_neg c]; simp [List.filter,c]
   by_cases c : (ps[i].1 == w) = true
   . rw [if_pos c]
     rw [if_pos c] at et
     walk_at "gg"
     refine zjo (.of (s _ _ eb)) (fun m H3 n3 S3 e3=>?_)
     walk_at "gg"
     have e3 : H3 m = some (.lst ((ps[i].2.map zS).map V.str)):=by
       rw [e3,zm1]
     refine zhS (.of e3) p2 p3 (fun v H4 S4 i4=>?_)
     have eD4:=S4 _ _ (S3 _ _ eD)
     refine zcI eD4 (by omega) (fun H6 E6 e6=>⟨⟨_,rfl⟩,n,(s.trans (S3.trans S4)).grow n E6,e6,by simp; omega,?_⟩)
     rw [et,List.map_append]
     exact IsAll.snoc (IsAll.keep (E6.keep eD4) _ _ (zaX _) (IsAll.same (S3.trans S4) _ _ r)) (i4.byK (E6.keep eD4) (zej _))
   . rw [if_neg c]
     rw [if_neg c,List.append_nil] at et
     exact ⟨ys,⟨_,rfl⟩,n,s,eD,by omega,by rw [et]; exact r⟩
 . rintro D ys σ' H' ⟨_,n,s,eD,ey,r⟩
   rw [show ps.take (as.map V.ref).length = ps by rw [List.length_map,el,List.length_map,List.take_length]] at r
   exact q _ H' s (zav.mpr ⟨D,ys,rfl,.of eD,r⟩)
def zbN (K : PySem.W.Frag) : Sp:=fun vs H Q _=>∃ x0,vs = [x0] /\ ∃ (ts : List (List Int)),Is K H x0 (.list (ts.map TZ)) /\ (∀ t ∈ ts,t.length = 3) /\ zaR ts /\ ts.length <= 100 /\ ∀ H',zad H H' -> Q (.bl true) H'
theorem zdh {K : PySem.W.Frag} {H : Hp} {Q : VK} {E : XK} {ts : List (List Int)} {v : V} (h : Is K H v (.list (ts.map TZ))) (h3 : ∀ t ∈ ts,t.length = 3) (hs : zaR ts) (hl : ts.length <= 100) (q : ∀ H',zad H H' -> Q (.bl true) H') : zbN K [v] H Q E:=⟨_,rfl,ts,h,h3,hs,hl,q⟩
theorem zkk : ∀ xs ys : List Int,TB.lexB xs ys = HT.lexLt xs ys
 | [],[]=>rfl
 | [],_ :: _=>rfl
 | _ :: _,[]=>rfl
 | x :: xs,y :: ys=>by
   show (if x = y then TB.lexB xs ys else decide (x < y)) = (if x = y then HT.lexLt xs ys else decide (x < y))
   rw [zkk xs ys]
set_option maxHeartbeats 4000000 in
theorem zc9 (T : Txt K mg a) : za5 P w K mg base CX0 1 a.are_ties_in_order a.fd_are_ties_in_order zaN (zbN K):=by
 refine T.d_are_ties_in_order.F.ok zdn ?_ ?_
 walk_at "b1"
 refine ⟨_,(zae (zbU (zbd (zbm (zai (show zah _ (.builtin "all") (zdT K) from zbx rfl) rfl T.z_all zdt (zaa (zaz rfl (zau.by (N':=["tie"]) (src:=[none]) rfl (show zam _ (zac zaE).names zaD ["tie"] [none] = true from by decide +kernel)) (zbj (pv 0)) (fun _ _ _ _ _=>(zaj (i:=0) (show (["tie"] : List Str).Nodup from by decide) rfl (Or.inl rfl))) (fun _ _ _ _ _=>zax) (fun _ _ _ _ _=>(zb0 (show OpR _ (compareOp .Eq) (zgA K) from ze2 hu) (zai (show zah _ (.builtin "len") (zce K) from zaw) rfl T.z_len zaS (zaa (pv 0) zab)) zaf (zaO _)))) zab)))) (zag (zaq zes)) zaL)
     (zag (zaq (zai (show zah _ (.builtin "all") (zdT K) from zbx rfl) rfl T.z_all zdt (zaa (zaz rfl (zau.by (N':=["one","other"]) (src:=[none,none]) rfl (show zam _ (zac zaE).names zaD ["one","other"] [none,none] = true from by decide +kernel)) (zfA rfl T.z_zip (zaa (pv 0) (zaa (zev zhL (pv 0) (zfw zaf) zfu) zab))) (fun _ _ _ _ _=>by exact (show PG _ _ (zkH K 2 _) from zhQ (n:=2) rfl (zbM (zaj (i:=0) (show (["one","other"] : List Str).Nodup from by decide) rfl (Or.inl rfl)) (zbM (zaj (i:=1) (show (["one","other"] : List Str).Nodup from by decide) rfl (Or.inl rfl)) zfs)))) (fun _ _ _ _ _=>zax) (fun _ _ _ _ _=>(zb0 (show OpR _ (compareOp .Lt) (zps K) from zpe (Nat.lt_of_le_of_lt (Nat.le_add_right _ 64) hu)) (pv 0) (pv 1) (zaO _)))) zab))))),?_⟩
 walk_at "cl"
 rw [show start zaD [x0] = [some x0] from rfl]
 obtain ⟨ts,hv,h3,hs,hl,q⟩:=h
 obtain ⟨l,xs,rfl,sl,tx⟩:=zav.mp hv
 have lx:=tx.length
 rw [List.length_map] at lx
 walk_at "gg"
 refine zbV sl (o0:=none) (tl:=[]) rfl (fun _ y _=>y = .bl true) ?_ ?_
 . intro D j x ys o H1 hx inv
   obtain ⟨hj,iy⟩:=zbt tx hx
   rw [List.length_map] at hj
   have iy : Is K H x (TZ ts[j]):=by
     rw [List.getD_eq_getElem?_getD,List.getElem?_map,List.getElem?_eq_getElem hj] at iy
     exact iy
   have g:=h3 _ (List.getElem_mem hj)
   walk_at "gg"
   refine za3 (.inr (iy.by inv.2.2.1)) ?_
   rw [List.length_map,g]
   walk_at "gg"
   exact zaF inv (by omega) (fun _ _ _ _ _ h=>h) ⟨_,rfl⟩ (zad.refl _) rfl
 . intro D ys H1 n1 S1 e1 l1 r1
   obtain ⟨bs,rfl,hb⟩:=zeK r1
   walk_at "gg"
   refine zcY (.of e1) ?_
   rw [hb]
   walk_at "gg"
   refine zjo (S1.seq sl) (fun m H2 n2 S2 e2=>?_)
   have e2 : H2 m = some (.lst xs.tail):=by rw [e2]; show some (HO.lst (zh1 xs (some 1) none)) = _; rw [zeQ]
   have T2:=S1.trans S2
   walk_at "gg"
   have step : ∀ (D : Addr) (i : Nat) (x y : V) (zs : List V) (o1 o2 : Option V) (H3 : Hp) (c : Addr),xs[i]? = some x -> xs.tail[i]? = some y -> zbf H2 [] (fun j y _=>y = V.bl true) D i zs (o1 :: o2 :: []) H3 -> H3 c = some (.tup [x,y]) -> zcA (zbf H2 [] (fun j y _=>y = V.bl true)) (zkH K 2 (zj5 (zcv 0) (zj5 (zcv 1) zo9))) ze6 (tOp (zps K) (zgv 0) (zgv 1)) D i (.ref c) (o1 :: o2 :: []) H3:=by
     intro D i x y zs o1 o2 H3 c hx hy inv ec
     rw [List.getElem?_tail] at hy
     obtain ⟨hi,ix⟩:=zbt tx hx
     obtain ⟨hj,iy⟩:=zbt tx hy
     rw [List.length_map] at hi hj
     rw [List.getD_eq_getElem?_getD,List.getElem?_map,List.getElem?_eq_getElem hi] at ix
     rw [List.getD_eq_getElem?_getD,List.getElem?_map,List.getElem?_eq_getElem hj] at iy
     obtain ⟨a1,rfl,s1⟩:=zck.mp (show Is K H x (TZ ts[i]) from ix)
     obtain ⟨a2,rfl,s2⟩:=zck.mp (show Is K H y (TZ ts[i + 1]) from iy)
     have S3:=T2.trans inv.2.2.1
     refine zde (zfz (.of ec) rfl ?_)
     walk_at "gg"
     refine ⟨a1,a2,ts[i],ts[i + 1],rfl,rfl,S3.sqT s1,S3.sqT s2,?_⟩
     have lt : TB.lexB ts[i] ts[i + 1] = true:=List.pairwise_iff_getElem.mp hs i (i + 1) hi hj (by omega)
     exact zeR inv (by omega) (fun _ _ _ _ _ z=>z) ⟨_,_,rfl⟩ (zad.refl _) (by rw [<- lt,zkk])
   have done : ∀ (D : Addr) (zs : List V) (H' : Hp),H2 D = none -> zad H2 H' -> H' D = some (.lst zs) -> (∀ (j : Nat) (y : V),zs[j]? = some y -> y = V.bl true) -> zdT K [.ref D] H' Q:=by
     intro D zs H' n s e r
     obtain ⟨bs,rfl,hb⟩:=zeK r
     refine zcY (.of e) ?_
     rw [hb]
     exact q H' (T2.trans s)
   have sl2 : SqK false K H2 l xs:=T2.seq sl
   have sm2 : SqK false K H2 m xs.tail:=SqL.of e2
   refine ⟨false,false,?_⟩
   rcases Nat.eq_zero_or_pos xs.length with h0 | h0
   . exact zhy sl2 sm2 (by rw [List.length_tail]; omega) (o0:=none) (o0':=none) (tl:=[]) rfl _ (fun _ _ _ _ _ z=>z) step (fun D zs H' n s e _ r=>by
       walk_at "gg"
       exact done D zs H' n s e r)
   . exact zl4 sl2 sm2 (by rw [List.length_tail]; omega) (o0:=none) (o0':=none) (tl:=[]) rfl _ (fun _ _ _ _ _ z=>z) step (fun D zs H' n s e _ r=>by
       walk_at "gg"
       exact done D zs H' n s e r)
def ze3 (K : PySem.W.Frag) (a : Ad) : Sp:=fun vs H Q E=>∃ x0,vs = [x0] /\ ∃ (rs : List Int) (us ts : List (List Int)),x0 = .str (zeF rs us ts) /\ zbJ rs us ts /\ zgs rs us ts /\ zaR ts /\ ∀ v H',zad H H' -> Is K H' v (zdQ rs us ts) -> Q v H'
theorem zfi {K : PySem.W.Frag} {a : Ad} {H : Hp} {Q : VK} {E : XK} {rs : List Int} {us ts : List (List Int)} (ok : zbJ rs us ts) (ws : zgs rs us ts) (so : zaR ts) (q : ∀ v H',zad H H' -> Is K H' v (zdQ rs us ts) -> Q v H') : ze3 K a [.str (zeF rs us ts)] H Q E:=⟨_,rfl,rs,us,ts,rfl,ok,ws,so,q⟩
def zc5 (rs : List Int) (us ts : List (List Int)) : List (PySem.Str × List Int):=List.zipWith (fun r u=>(PySem.Str.ofString "worm",r :: u)) rs us ++ ts.map fun t=>(PySem.Str.ofString "tie",t)
theorem zko : PySem.Str.ofString "worm " = PySem.Str.ofString "worm" ++ PySem.Str.ofString " ":=by decide
theorem zlu : PySem.Str.ofString "tie " = PySem.Str.ofString "tie" ++ PySem.Str.ofString " ":=by decide
theorem zj1 : 32 ∉ (PySem.Str.ofString "worm").cps.toList:=by decide
theorem zmq : 32 ∉ (PySem.Str.ofString "tie").cps.toList:=by decide
theorem zhX : PyData.strOk (PySem.Str.ofString "worm") = true:=zfH (by decide +kernel)
theorem zjE : PyData.strOk (PySem.Str.ofString "tie") = true:=zfH (by decide +kernel)
theorem zf0 {α : Type} (x : α) : ∀ n : Nat,(List.replicate n [x]).flatten = List.replicate n x
 | 0=>rfl
 | n + 1=>by rw [List.replicate_succ,List.flatten_cons,zf0 x n]; rfl
theorem zpF {rs : List Int} {us ts : List (List Int)} (hl : rs.length = us.length) : (zc5 rs us ts).map Prod.fst = List.replicate rs.length (PySem.Str.ofString "worm") ++ List.replicate ts.length (PySem.Str.ofString "tie"):=by
 unfold zc5
 rw [List.map_append]
 congr 1
 . refine List.ext_getElem (by simp; omega) fun i h1 h2=>?_
   simp
 . refine List.ext_getElem (by simp) fun i h1 h2=>?_
   simp
theorem zmU {rs : List Int} {us ts : List (List Int)} (hl : rs.length = us.length) (ht : ∀ t ∈ ts,t ≠ []) : (zbp rs us ts).map (fun y=>Txt.split y " ") = (zc5 rs us ts).map zmQ:=by
 unfold zbp zc5
 rw [List.map_append,List.map_append,List.map_zipWith,List.map_zipWith,List.map_map,List.map_map]
 congr 1
 . congr 1
   funext r u
   exact zd1 (by simp) zko zj1
 . refine List.map_congr_left fun t h=>?_
   exact zd1 (ht t h) zlu zmq
theorem zlb {rs : List Int} {us ts : List (List Int)} : zdS (zc5 rs us ts) (PySem.Str.ofString "worm") = List.zipWith List.cons rs us:=by
 unfold zdS zc5
 rw [List.filter_append,List.map_append]
 have h1 : ∀ (rs : List Int) (us : List (List Int)),List.filter (fun p : PySem.Str × List Int=>p.1 == PySem.Str.ofString "worm") (List.zipWith (fun r u=>(PySem.Str.ofString "worm",r :: u)) rs us) = List.zipWith (fun r u=>(PySem.Str.ofString "worm",r :: u)) rs us:=fun rs us=>List.filter_eq_self.mpr fun p hp=>by
   obtain ⟨i,hi,rfl⟩:=List.mem_iff_getElem.mp hp
   rw [List.getElem_zipWith]; exact beq_self_eq_true _
 have h2 : List.filter (fun p : PySem.Str × List Int=>p.1 == PySem.Str.ofString "worm") (ts.map fun t=>(PySem.Str.ofString "tie",t)) = []:=List.filter_eq_nil_iff.mpr fun p hp=>by
   obtain ⟨t,_,rfl⟩:=List.mem_map.mp hp
   show ¬ ((PySem.Str.ofString "tie" == PySem.Str.ofString "worm") = true)
   decide
 rw [h1,h2,List.map_zipWith]
 simp
theorem zmf {rs : List Int} {us ts : List (List Int)} : zdS (zc5 rs us ts) (PySem.Str.ofString "tie") = ts:=by
 unfold zdS zc5
 rw [List.filter_append,List.map_append]
 have h1 : List.filter (fun p : PySem.Str × List Int=>p.1 == PySem.Str.ofString "tie") (List.zipWith (fun r u=>(PySem.Str.ofString "worm",r :: u)) rs us) = []:=List.filter_eq_nil_iff.mpr fun p hp=>by
   obtain ⟨i,hi,rfl⟩:=List.mem_iff_getElem.mp hp
   rw [List.getElem_zipWith]
   show ¬ ((PySem.Str.ofString "worm" == PySem.Str.ofString "tie") = true)
   decide
 have h2 : List.filter (fun p : PySem.Str × List Int=>p.1 == PySem.Str.ofString "tie") (ts.map fun t=>(PySem.Str.ofString "tie",t)) = ts.map fun t=>(PySem.Str.ofString "tie",t):=List.filter_eq_self.mpr fun p hp=>by
   obtain ⟨t,_,rfl⟩:=List.mem_map.mp hp
   exact beq_self_eq_true _
 rw [h1,h2,List.map_map]
 exact List.map_id _
theorem zqX {rs : List Int} {us ts : List (List Int)} (ws : zgs rs us ts) : ∀ p ∈ zc5 rs us ts,PyData.strOk p.1 = true /\ p.2.length <= 100 /\ ∀ z ∈ p.2,0 <= z /\ z < 100:=by
 intro p hp
 rcases List.mem_append.mp hp with hp | hp
 . obtain ⟨i,hi,rfl⟩:=List.mem_iff_getElem.mp hp
   rw [List.length_zipWith] at hi
   rw [List.getElem_zipWith]
   have b:=ws.u us[i] (List.getElem_mem (by omega))
   have b0:=ws.r rs[i] (List.getElem_mem (by omega))
   refine ⟨zhX,by show (rs[i] :: us[i]).length <= 100; rw [List.length_cons]; omega,fun z hz=>?_⟩
   rcases List.mem_cons.mp hz with rfl | hz
   . exact b0
   . exact b.2 z hz
 . obtain ⟨t,ht,rfl⟩:=List.mem_map.mp hp
   have b:=ws.t t ht
   exact ⟨zjE,by show t.length <= 100; omega,b.2⟩
theorem zhc {rs : List Int} {us ts : List (List Int)} (ws : zgs rs us ts) (ht : ∀ t ∈ ts,t ≠ []) : ∀ y ∈ zbp rs us ts,y.length <= 400 /\ (Txt.split y " ").length <= 400:=by
 intro y hy
 have key : ∀ (x v : PySem.Str) (zs : List Int),zs ≠ [] -> x = v ++ PySem.Str.ofString " " -> 32 ∉ v.cps.toList -> x.length <= 5 -> zs.length <= 61 -> (∀ z ∈ zs,0 <= z /\ z < 100) -> (x ++ zap zs).length <= 400 /\ (Txt.split (x ++ zap zs) " ").length <= 400:=by
   intro x v zs ne e hv hx hz hb
   have:=zbI hb
   rw [za4,zd1 ne e hv,List.length_cons,List.length_map]
   omega
 unfold zbp at hy
 rcases List.mem_append.mp hy with hy | hy
 . obtain ⟨i,hi,rfl⟩:=List.mem_iff_getElem.mp hy
   rw [List.length_zipWith] at hi
   rw [List.getElem_zipWith]
   have b:=ws.u us[i] (List.getElem_mem (by omega))
   have b0:=ws.r rs[i] (List.getElem_mem (by omega))
   refine key _ _ (rs[i] :: us[i]) (by simp) zko zj1 (by decide) (by rw [List.length_cons]; omega) (fun z hz=>?_)
   rcases List.mem_cons.mp hz with rfl | hz
   . exact b0
   . exact b.2 z hz
 . obtain ⟨t,h,rfl⟩:=List.mem_map.mp hy
   have b:=ws.t t h
   exact key _ _ t (ht t h) zlu zmq (by decide) (by omega) b.2
theorem zf4 {K : PySem.W.Frag} {H : Hp} : ∀ xs : List PySem.Str,IsAll K H (xs.map V.str) (xs.map PyData.str)
 | []=>.nil
 | x :: xs=>.cons (zbS.mpr rfl) (zf4 xs)
theorem zpn {n : Nat} (h : HT.sIx (n + 1) 0 (some 1) = 0) : False:=by
 rw [show (some (1 : Int)) = some ((1 : Nat) : Int) from rfl,HT.sIx_nat] at h
 omega
theorem zeo {K : PySem.W.Frag} {H : Hp} : ∀ xs : List Int,IsAll K H (xs.map V.int) (xs.map PyData.int)
 | []=>.nil
 | x :: xs=>.cons (zaK.mpr rfl) (zeo xs)
theorem ziT {K : PySem.W.Frag} {H : Hp} : ∀ {zs : List V} {us : List (List Int)},zs.length = us.length -> (∀ (j : Nat) (y : V),zs[j]? = some y -> Is K H y (TZ (us.getD j []))) -> IsAll K H zs (us.map TZ)
 | [],[],_,_=>.nil
 | [],_ :: _,h,_=>by cases h
 | _ :: _,[],h,_=>by cases h
 | z :: zs,u :: us,h,r=>.cons (r 0 z rfl) (ziT (by simpa using h) fun j y hy=>by
     have:=r (j + 1) y hy
     rwa [List.getD_cons_succ] at this)
set_option maxHeartbeats 4000000 in
theorem zfg (T : Txt K mg a) : za5 P w K mg base (CX1 P w) 7 a.read_web a.fd_read_web zcK (ze3 K a):=by
 refine T.d_read_web.F.ok1 zco ?_ ?_
 walk_at "b1"
 refine ⟨_,(zae (pst 1 zco.nd (pcx (ziR T) hr T.d_lines_of zh3 (zaa (pv 0) zab)))
     (zae (pst 2 zco.nd (pcx (zd0 T) hr T.d_lines_with zh3 (zaa (pv 1) (zaa zaH zab))))
     (zae (pst 3 zco.nd (pcx (zd0 T) hr T.d_lines_with zh3 (zaa (pv 1) (zaa zaH zab))))
     (zae (zbU (PW.pt (zdW (zbd (zo8 (pv 2))) (zd3 (zbg (show OpR _ (compareOp .NotEq) (zeW K) from zc7 hu) (zaz rfl (zau.by (N':=["line"]) (src:=[none]) rfl (show zam _ (zac zbz).names zcd ["line"] [none] = true from by decide +kernel)) (zbj (pv 1)) (fun _ _ _ _ _=>(zaj (i:=0) (show (["line"] : List Str).Nodup from by decide) rfl (Or.inl rfl))) (fun _ _ _ _ _=>zax) (fun _ _ _ _ _=>(zp1 (K:=K) zcq (pv 0)))) (zar zaM (zar (show OpR _ (binaryOp .Mult) znR from zlB) (zbb (zaa zaH zab)) (zai (show zah _ (.builtin "len") (zce K) from zaw) rfl T.z_len zaS (zaa (pv 2) zab))) (zar (show OpR _ (binaryOp .Mult) znR from zlB) (zbb (zaa zaH zab)) (zai (show zah _ (.builtin "len") (zce K) from zaw) rfl T.z_len zaS (zaa (pv 3) zab)))) (zaO _))))) (zag (zcb T.x_NoText rfl rfl T.g_NoText zel (zaa zaH zab))) zaL)
     (zae (zbU (PW.pt (zdW (zbd (zbm (zai (show zah _ (.builtin "all") (zlO K) from zkK rfl) rfl T.z_all zdt (zaa (pv 2) zab)))) (zd3 (zbd (zbm (pcl (zc9 T) hr T.d_are_ties_in_order (zaa (pv 3) zab))))))) (zag (zcb T.x_NoText rfl rfl T.g_NoText zel (zaa zaH zab))) zaL)
     (zag (zaq (pcx (zgW T) hr T.d_web_of zh3 (zaa (zaz rfl (zau.by (N':=["worm"]) (src:=[none]) rfl (show zam _ (zac zbz).names zcd ["worm"] [none] = true from by decide +kernel)) (zbj (pv 2)) (fun _ _ _ _ _=>(zaj (i:=0) (show (["worm"] : List Str).Nodup from by decide) rfl (Or.inl rfl))) (fun _ _ _ _ _=>zax) (fun _ _ _ _ _=>(zp1 (K:=K) zcq (pv 0)))) (zaa (zaz rfl (zau.by (N':=["worm"]) (src:=[none]) rfl (show zam _ (zac zbz).names zcd ["worm"] [none] = true from by decide +kernel)) (zbj (pv 2)) (fun _ _ _ _ _=>(zaj (i:=0) (show (["worm"] : List Str).Nodup from by decide) rfl (Or.inl rfl))) (fun _ _ _ _ _=>zax) (fun _ _ _ _ _=>(zev (show SlR _ (zje K) from zhL) (pv 0) (zfw zaf) zfu))) (zaa (pv 3) zab))))))))))),?_⟩
 walk_at "cl"
 rw [show start zcd [x0] = [some x0,none,none,none] from rfl]
 obtain ⟨rs,us,ts,rfl,ok,ws,so,q⟩:=h
 walk_at "gg"
 have h8:=ws.n
 have hus:=ws.l
 have htl:=ws.tl
 have hr1 : rs ≠ []:=fun z=>by have:=ok.n1; rw [z] at this; simp at this
 have ht0 : ∀ t ∈ ts,t.length = 3:=fun t ht=>by
   obtain ⟨x,y,c,e,_⟩:=ok.t t ht
   rw [e]; rfl
 have ht1 : ∀ t ∈ ts,t ≠ []:=fun t ht z=>by have:=ht0 t ht; rw [z] at this; simp at this
 have z1000 : 100000 <= sizeLine:=by decide
 have lS : (zbp rs us ts).length <= 108:=by unfold zbp; rw [List.length_append,List.length_zipWith,List.length_map]; omega
 have bS : ∀ y ∈ zbp rs us ts,y.length <= 400 /\ (Txt.split y " ").length <= 400:=zhc ws ht1
 have bW : (zeF rs us ts).length <= sizeLine:=by
   have:=zfZ (x:="\n") (B:=400) (ts:=zbp rs us ts) (fun y hy=>(bS y hy).1)
   rw [show (PySem.Str.ofString "\n").length = 1 from zjD] at this
   have : (zbp rs us ts).length * (400 + 1) <= 108 * 401:=Nat.mul_le_mul_right _ lS
   unfold zeF
   omega
 refine ziH (zkE hr1 hus) bW (by omega) (fun y hy=>⟨by have:=(bS y hy).1; omega,by have:=(bS y hy).2; omega⟩) (fun l1 H1 S1 e1=>?_)
 rw [zmU hus ht1] at e1
 have pok : ∀ p ∈ zc5 rs us ts,PyData.strOk p.1 = true /\ p.2.length <= 100 /\ ∀ z ∈ p.2,0 <= z /\ z < 100:=zqX ws
 have pl : (zc5 rs us ts).length <= 200:=by unfold zc5; rw [List.length_append,List.length_zipWith,List.length_map]; omega
 walk_at "gg"
 refine zdU e1 zhX pok pl (fun v2 H2 S2 i2=>?_)
 rw [zlb] at i2
 walk_at "gg"
 refine zdU (e1.by S2) zjE pok pl (fun v3 H3 S3 i3=>?_)
 rw [zmf] at i3
 walk_at "gg"
 refine znH (i2.by S3) ?_
 have hw1 : (List.zipWith List.cons rs us).length = rs.length:=by rw [List.length_zipWith]; omega
 have n1:=ok.n1
 rw [show (!((List.zipWith List.cons rs us).map TZ).isEmpty) = true from by
   cases e : (List.zipWith List.cons rs us) with
   | nil=>rw [e] at hw1; simp at hw1; omega
   | cons x r=>rfl]
 walk_at "gg"
 obtain ⟨as,a1,a2,a3⟩:=e1.by (S2.trans S3)
 rw [List.length_map] at a2
 refine zbV (.of a1) (o0:=none) (tl:=[]) rfl (fun j y _=>y = .str ((zc5 rs us ts).getD j ("",[])).1) ?_ ?_
 . intro D j x ys o H4 hx inv
   rw [List.getElem?_map] at hx
   obtain ⟨b,hb,rfl⟩:=Option.map_eq_some_iff.mp hx
   have hj : j < (zc5 rs us ts).length:=by rw [<- a2]; exact (List.getElem?_eq_some_iff.mp hb).1
   have eb:=a3 j b hb
   rw [List.getD_eq_getElem?_getD,List.getElem?_map,List.getElem?_eq_getElem hj] at eb
   have eb : H3 b = some (.lst (V.str (zc5 rs us ts)[j].1 :: ((zc5 rs us ts)[j].2.map zS).map V.str)):=eb
   walk_at "gg"
   refine zeM (.of (inv.2.2.1 _ _ eb)) (v:=.str (zc5 rs us ts)[j].1) (zcQ (j:=0) rfl) ?_
   exact zaF inv (by omega) (fun _ _ _ _ _ h=>h) ⟨_,rfl⟩ (zad.refl _) (by rw [List.getD_eq_getElem?_getD,List.getElem?_eq_getElem hj]; rfl)
 intro D4 ys H4 n4 S4 e4 l4 r4
 have ey : ys = ((zc5 rs us ts).map Prod.fst).map V.str:=by
   refine List.ext_getElem (by rw [l4]; simp; omega) fun i h1 h2=>?_
   rw [r4 i ys[i] (List.getElem?_eq_getElem h1)]
   rw [List.length_map,List.length_map] at h2
   simp [List.getD_eq_getElem?_getD,List.getElem?_eq_getElem h2]
 rw [ey,zpF hus] at e4
 have T4:=S2.trans (S3.trans S4)
 walk_at "gg"
 refine zeY (by simp) (fun p5 H5 n5 S5 e5=>?_)
 walk_at "gg"
 refine za3 (.inl ((i2.by (S3.trans S4)).by S5)) ?_
 rw [List.length_map,hw1]
 refine zmg e5 (by omega) (by omega) (by simp; omega) (fun p6 H6 n6 S6 e6=>?_)
 rw [zf0,Int.toNat_natCast] at e6
 walk_at "gg"
 refine zeY (by simp) (fun p7 H7 n7 S7 e7=>?_)
 walk_at "gg"
 have T7:=S4.trans (S5.trans (S6.trans S7))
 refine za3 (.inl (i3.by T7)) ?_
 rw [List.length_map]
 refine zmg e7 (by omega) (by omega) (by simp; omega) (fun p8 H8 n8 S8 e8=>?_)
 rw [zf0,Int.toNat_natCast] at e8
 refine zfv (S8 _ _ (S7 _ _ e6)) e8 (by simp; omega) (fun p9 H9 n9 S9 e9=>?_)
 have S49:=S5.trans (S6.trans (S7.trans (S8.trans S9)))
 rw [List.map_append,List.map_replicate,List.map_replicate] at e4
 refine znh (n:=2) (d:=.list ((List.replicate rs.length (PySem.Str.ofString "worm") ++ List.replicate ts.length (PySem.Str.ofString "tie")).map PyData.str)) (zav.mpr ⟨D4,_,rfl,.of (S49 _ _ e4),?_⟩) (zav.mpr ⟨p9,_,rfl,.of e9,?_⟩) (zmn fun d hd=>?_) (by decide) (zpy fun d hd=>?_) ?_
 . rw [<- List.map_replicate (f:=V.str),<- List.map_replicate (f:=V.str),<- List.map_append]
   exact zf4 _
 . rw [<- List.map_replicate (f:=V.str),<- List.map_replicate (f:=V.str),<- List.map_append]
   exact zf4 _
 . obtain ⟨x,hx,rfl⟩:=List.mem_map.mp hd
   have : PyData.strOk x = true:=by
     rcases List.mem_append.mp hx with hx | hx
     . rw [(List.mem_replicate.mp hx).2]; exact zhX
     . rw [(List.mem_replicate.mp hx).2]; exact zjE
   exact ⟨by simp [PyData.canLay0,this],by simp [PyData.depth]⟩
 . obtain ⟨x,hx,rfl⟩:=List.mem_map.mp hd
   rw [PyData.eqv]; exact beq_self_eq_true _
 have T9:=S4.trans S49
 walk_at "gg"
 refine znO ((i2.by S3).by T9) (fun r hr z=>?_) ?_
 . obtain ⟨i,hi,rfl⟩:=List.mem_iff_getElem.mp hr
   rw [List.getElem_zipWith] at z
   cases z
 walk_at "gg"
 refine zdh (i3.by T9) ht0 so htl (fun H10 S10=>?_)
 walk_at "gg"
 have T10:=T9.trans S10
 obtain ⟨l2,xs2,rfl,s2,t2⟩:=zav.mp ((i2.by S3).by T10)
 have l2':=t2.length
 rw [List.length_map,hw1] at l2'
 have at2 : ∀ {j : Nat} {x : V},xs2[j]? = some x -> j < rs.length /\ Is K H10 x (TZ (rs.getD j 0 :: us.getD j [])):=fun {j x} hx=>by
   obtain ⟨hj,ix⟩:=zbt t2 hx
   rw [List.length_map,hw1] at hj
   have hj2 : j < us.length:=by omega
   rw [List.getD_eq_getElem?_getD,List.getElem?_map,List.getElem?_zipWith,List.getElem?_eq_getElem hj,List.getElem?_eq_getElem hj2] at ix
   refine ⟨hj,?_⟩
   rw [List.getD_eq_getElem?_getD,List.getElem?_eq_getElem hj,List.getD_eq_getElem?_getD,List.getElem?_eq_getElem hj2]
   exact ix
 refine zbV s2 (o0:=none) (tl:=[]) rfl (fun j y _=>y = .int (rs.getD j 0)) ?_ ?_
 . intro D j x ys o H11 hx inv
   obtain ⟨hj,ix⟩:=at2 hx
   walk_at "gg"
   refine zj6 (ix.by inv.2.2.1) (by decide) (by rw [List.length_cons]; omega) ?_
   exact zaF inv (by omega) (fun _ _ _ _ _ h=>h) ⟨_,rfl⟩ (zad.refl _) rfl
 intro D11 ys H11 n11 S11 e11 l11 r11
 have ey1 : ys = rs.map V.int:=by
   refine List.ext_getElem (by rw [l11]; simp; omega) fun i h1 h2=>?_
   rw [r11 i ys[i] (List.getElem?_eq_getElem h1)]
   rw [List.length_map] at h2
   simp [List.getD_eq_getElem?_getD,List.getElem?_eq_getElem h2]
 rw [ey1] at e11
 walk_at "gg"
 refine zbV (S11.seq s2) (o0:=none) (tl:=[]) rfl (fun j y H'=>Is K H' y (TZ (us.getD j []))) ?_ ?_
 . intro D j x ys o H12 hx inv
   obtain ⟨hj,ix⟩:=at2 hx
   walk_at "gg"
   refine zj2 ((ix.by S11).by inv.2.2.1) (by rw [List.length_map,List.length_cons]; exact fun z=>zpn z.1) (fun w13 H13 S13 i13=>?_)
   rw [zeQ] at i13
   walk_at "gg"
   exact zaF inv (by omega) (fun _ _ _ _ k h=>h.byK k (zej _)) ⟨_,rfl⟩ S13 i13
 intro D12 zs H12 n12 S12 e12 l12 r12
 walk_at "gg"
 have zl : zs.length = us.length:=by rw [l12]; omega
 have tz : IsAll K H12 zs (us.map TZ):=ziT zl (fun j y hy=>r12 j y hy)
 have S12':=S11.trans S12
 refine zg9 (rs:=rs) (us:=us) (ts:=ts) ⟨⟨_,zav.mpr ⟨D11,_,rfl,.of (S12 _ _ e11),zeo rs⟩,.inl rfl⟩,⟨_,_,zav.mpr ⟨D12,zs,rfl,.of e12,tz⟩,.inl rfl,zcs us⟩,⟨_,_,(i3.by T10).by S12',.inl rfl,zcs ts⟩,ok⟩ (fun v H13 ts' S13 pm so' i13=>?_)
 rw [zaR.uniq so' so pm] at i13
 exact q v H13 (S1.trans (S2.trans (S3.trans (T10.trans (S12'.trans S13))))) i13
def Pen (H : Hp) (p : Addr) (k : Int) : Prop:=0 <= k /\ ∃ (a : Int) (b : Bool),H p = some (.lst [.int a,.bl b])
theorem Pen.same {H H' : Hp} {p : Addr} {k : Int} (s : zad H H') (h : Pen H p k) : Pen H' p k:=by
 obtain ⟨k0,x,y,e⟩:=h
 exact ⟨k0,x,y,s _ _ e⟩
theorem Pen.exc {H H' : Hp} {p l : Addr} {k : Int} (h : Pen H p k) (s : Exc l H H') (n : p ≠ l) : Pen H' p k:=by
 obtain ⟨k0,x,y,e⟩:=h
 exact ⟨k0,x,y,s _ _ n e⟩
theorem Pen.ne {H : Hp} {p q : Addr} {k : Int} (e : H q = none) (h : Pen H p k) : q ≠ p:=by
 obtain ⟨_,x,y,z⟩:=h
 exact (zaA z e).symm
def zf8 (K : PySem.W.Frag) : Sp:=fun vs H Q _=>∃ x0 x1,vs = [x0,x1] /\ ∃ (a : Addr) (ns : List Int) (k : Int),x0 = .ref a /\ x1 = .int k /\ SqF K H a (ns.map V.int) /\ ns.length <= 63 /\ 0 <= k /\ k <= 1000 /\
 ∀ p H',H p = none -> zad H H' -> Pen H' p 0 -> Q (.ref p) H'
theorem zjI {K : PySem.W.Frag} {H : Hp} {Q : VK} {E : XK} {a : Addr} {ns : List Int} {k : Int} (h : SqF K H a (ns.map V.int)) (hl : ns.length <= 63) (h0 : 0 <= k) (h1 : k <= 1000)
   (q : ∀ p H',H p = none -> zad H H' -> Pen H' p 0 -> Q (.ref p) H') : zf8 K [.ref a,.int k] H Q E:=⟨_,_,rfl,a,ns,k,rfl,rfl,h,hl,h0,h1,q⟩
local macro_rules | `(tactic| walk_at "pen")=>`(tactic| first
 | assumption
 | (apply Pen.same; (focus assumption); walk_at "pen"))
local macro_rules | `(tactic| walk_at "ne")=>`(tactic| ((with_reducible apply Pen.ne); (focus assumption); walk_at "pen"))
local macro_rules | `(tactic| walk_at "penle")=>`(tactic| exact Pen.le (by walk_at "pen") (by omega))
set_option maxHeartbeats 4000000 in
theorem zi7 (T : Txt K mg a) : za5 P w K mg base CX0 1 a.law_pen a.fd_law_pen zdO (zf8 K):=by
 refine T.d_law_pen.F.ok zeg ?_ ?_
 walk_at "b2"
 refine ⟨_,(zae (pst 2 zeg.nd (zar zaM (zar zcR zaf (pv 1)) zaf))
     (zae (zbU (zbg zot (zai (show zah _ (.builtin "len") (zce K) from zaw) rfl T.z_len zaS (zaa (pv 0) zab)) zaf (zaO _)) (zag (pst 2 zeg.nd (zar zaM (zfk zcq (pv 0) (zar zdl (pv 1) (zai (show zah _ (.builtin "len") (zce K) from zaw) rfl T.z_len zaS (zaa (pv 0) zab))) (fun _ _=>rfl)) (zar zcR (zar zdp (pv 1) (zai (show zah _ (.builtin "len") (zce K) from zaw) rfl T.z_len zaS (zaa (pv 0) zab))) zaf)))) zaL)
     (zae (zbU (PW.pt (zoR (zbg zqA (pv 1) (zai (show zah _ (.builtin "len") (zce K) from zaw) rfl T.z_len zaS (zaa (pv 0) zab)) (zaO _)) (zng (zbg zqr (pv 2) (znk (v:=1000000000000000000) ⟨by decide,by decide,by decide⟩ (by decide +kernel)) (zaO _))))) (zag (zaq (zbb (zaa (pv 2) (zaa zes zab))))) zaL)
     (zag (zaq (zbb (zaa (zar zdl (zar zcR (zar zaM (zar zaM (zar zdl (pv 2) zaf) (zar zcR zaf (pv 1))) zaf) zaf) zaf) (zaa zes zab)))))))),?_⟩
 walk_at "cl"
 rw [show start zg7 [x0,x1] = [some x0,some x1,none] from rfl]
 obtain ⟨a',ns,k,rfl,rfl,hs,hl,h0,h1,q⟩:=h
 have fin : ∀ (x : Int) (y : Bool),mkL K [.int x,.bl y] H Q:=fun x y=>zeY (by show 2 <= 1000; decide) fun p H' hp s e=>q p H' hp s ⟨by decide,x,y,e⟩
 walk_at "gg"
 refine zcj hs.sq ?_
 walk_at "gg"
 . rename_i hz
   rw [List.length_map] at hz
   refine zcj hs.sq ?_
   rw [List.length_map]
   walk_at "gg"
   refine zpf hs (Int.emod_nonneg _ (by omega)) (by rw [List.length_map]; exact Int.emod_lt_of_pos _ (by omega)) (fun z=>?_)
   walk_at "gg"
   refine zcj hs.sq ?_
   rw [List.length_map]
   walk_at "gg"
   refine zlV ⟨by omega,(Bd.of128 (by omega) (by omega)).mono (by decide)⟩ ?_
   walk_at "gg"
   refine zcj hs.sq ?_
   walk_at "gg"
   all_goals exact fin _ _
 . refine zcj hs.sq ?_
   walk_at "gg"
   all_goals exact fin _ _
def zfm (K : PySem.W.Frag) : Sp:=fun vs H Q _=>∃ x0 x1,vs = [x0,x1] /\ ∃ (p : Addr) (k m : Int),x0 = .ref p /\ x1 = .int m /\ Pen H p k /\ 0 < m /\ Bd 8999 m /\
 ∀ (r : Int) (H' : Hp),0 <= r -> r < m -> Exc p H H' -> zaI H H' -> Pen H' p k -> Q (.int r) H'
theorem zi0 {K : PySem.W.Frag} {H : Hp} {Q : VK} {E : XK} {p : Addr} {k m : Int} (h : Pen H p k) (hm : 0 < m) (hb : Bd 8999 m)
   (q : ∀ (r : Int) (H' : Hp),0 <= r -> r < m -> Exc p H H' -> zaI H H' -> Pen H' p k -> Q (.int r) H') : zfm K [.ref p,.int m] H Q E:=⟨_,_,rfl,p,k,m,rfl,rfl,h,hm,hb,q⟩
local macro_rules | `(tactic| walk_at "gs")=>`(tactic| ((with_reducible apply zi0); (focus walk_at "pen"); (focus (first | decide | omega)); (focus walk_at "bd128"); intro _ _ _ _ _ _ _))
set_option maxHeartbeats 4000000 in
theorem zaQ (T : Txt K mg a) : za5 P w K mg base CX0 1 a.law_draw a.fd_law_draw zcO (zfm K):=by
 refine T.d_law_draw.F.ok zdj ?_ ?_
 walk_at "b2"
 refine ⟨_,(zae (zbU (zbm (pix (pv 0))) (zae (pst 2 zdj.nd (zar zdl (pix (pv 0)) (pv 1)))
     (zae (zlD (zar zdp (pix (pv 0)) (pv 1)) (zlz (pv 0) zaf ziI))
     (zag (zaq (pv 2))))) zaL)
     (zae (zlD (zar zdl (zar zaM (zar zcR (pix (pv 0)) zaf) zaf) zaf) (zlz (pv 0) zaf ziI))
     (zae (pst 3 zdj.nd (zar zdl (zar zcR (zar zaM (zar zaM (zar zcR (zar zdl (pix (pv 0)) zaf) zaf) (zar zdp (pix (pv 0)) zaf)) zaf) zaf) zaf))
     (zag (zaq (zar zdl (zar zdp (pv 3) zaf) (pv 1))))))),?_⟩
 walk_at "cl"
 rw [show start zf3 [x0,x1] = [some x0,some x1,none,none] from rfl]
 obtain ⟨p,k,m,rfl,rfl,⟨hk0,x,y,hp⟩,hm,hbm,q⟩:=h
 walk_at "gg"
 all_goals
   exact q _ _ (Int.emod_nonneg _ (by omega)) (Int.emod_lt_of_pos _ hm) (by walk_at "exc") (Exc.keep (p:=p) (by walk_at "exc") hp) ⟨hk0,_,_,by assumption⟩
def zbB (a d j : Nat) : List (List Int):=((List.range j).filter fun (b : Nat)=>decide (b ≠ a)).map fun (b : Nat)=>[(a : Int),(b : Int),(d : Int)]
theorem zff (a d j : Nat) : zbB a d (j + 1) = zbB a d j ++ if j = a then [] else [[(a : Int),(j : Int),(d : Int)]]:=by
 unfold zbB
 rw [List.range_succ,List.filter_append,List.map_append]
 congr 1
 by_cases h : j = a <;> simp [h]
theorem zen (a d j : Nat) : (zbB a d j).length <= j:=by
 unfold zbB
 rw [List.length_map]
 have:=List.length_filter_le (fun (b : Nat)=>decide (b ≠ a)) (List.range j)
 rw [List.length_range] at this
 exact this
theorem zeh {a d j : Nat} {t : List Int} (h : t ∈ zbB a d j) : ∃ b,b < j /\ b ≠ a /\ t = [(a : Int),(b : Int),(d : Int)]:=by
 obtain ⟨b,hb,rfl⟩:=List.mem_map.mp h
 obtain ⟨h1,h2⟩:=List.mem_filter.mp hb
 exact ⟨b,List.mem_range.mp h1,of_decide_eq_true h2,rfl⟩
theorem zhZ (a d j : Nat) : (zbB a d j).Nodup:=by
 unfold zbB List.Nodup
 rw [List.pairwise_map]
 exact (List.nodup_range.filter _).imp fun {x y} h e=>h (Int.ofNat.inj (by simpa using e))
structure zdc (n d a : Nat) (L : List (List Int)) : Prop where
 ok : ∀ t ∈ L,zeC n t
 nd : L.Nodup
 lt : ∀ t ∈ L,t.getD 2 0 * 8 + t.getD 0 0 < (d : Int) * 8 + a
 len : L.length <= 56 * d + 7 * a
theorem zdc.row {n d a : Nat} {L : List (List Int)} (h : zdc n d a L) (n8 : n <= 8) (ha : a < n) (hd : d <= 4) : zdc n d (a + 1) (L ++ zbB a d n):=by
 refine ⟨fun t ht=>?_,List.nodup_append.mpr ⟨h.nd,zhZ a d n,fun x hx y hy e=>?_⟩,fun t ht=>?_,?_⟩
 . rcases List.mem_append.mp ht with z | z
   . exact h.ok t z
   . obtain ⟨b,h1,h2,rfl⟩:=zeh z
     exact ⟨a,b,d,rfl,ha,h1,fun e=>h2 e.symm,hd⟩
 . subst e
   obtain ⟨b,h1,h2,rfl⟩:=zeh hy
   have:=h.lt _ hx
   simp at this
 . rcases List.mem_append.mp ht with z | z
   . have:=h.lt t z; omega
   . obtain ⟨b,h1,h2,rfl⟩:=zeh z
     simp
     omega
 . rw [List.length_append]
   have h1:=h.len
   have : (zbB a d n).length <= 7:=by
     have h2:=zen a d n
     rcases Nat.lt_or_ge n 8 with z | z
     . omega
     . have e : n = 8:=by omega
       subst e
       have : a = 0 \/ a = 1 \/ a = 2 \/ a = 3 \/ a = 4 \/ a = 5 \/ a = 6 \/ a = 7:=by omega
       rcases this with rfl | rfl | rfl | rfl | rfl | rfl | rfl | rfl <;> simp [zbB] <;> decide
   omega
theorem zdc.up {n d : Nat} {L : List (List Int)} (h : zdc n d n L) (n8 : n <= 8) : zdc n (d + 1) 0 L :=
 ⟨h.ok,h.nd,fun t ht=>by have:=h.lt t ht; omega,by have:=h.len; omega⟩
def zfd (K : PySem.W.Frag) : Sp:=fun vs H Q _=>∃ x0 x1 x2,vs = [x0,x1,x2] /\ ∃ (p : Addr) (k : Int) (n : Nat) (g : Bool),x0 = .ref p /\ x1 = .int (n : Int) /\ x2 = .bl g /\ Pen H p k /\ n <= 8 /\ ∀ (l : Addr) (H' : Hp) (us : List V) (ts : List (List Int)),Exc p H H' -> zaI H H' -> Pen H' p k -> H' l = some (.lst us) -> IsAll K H' us (ts.map TZ) -> (∀ t ∈ ts,zeC n t) -> ts.Nodup -> ts.length <= 60 -> Q (.ref l) H'
theorem ziV {K : PySem.W.Frag} {H : Hp} {Q : VK} {E : XK} {p : Addr} {k : Int} {n : Nat} {g : Bool} (h : Pen H p k) (h8 : n <= 8) (q : ∀ (l : Addr) (H' : Hp) (us : List V) (ts : List (List Int)),Exc p H H' -> zaI H H' -> Pen H' p k -> H' l = some (.lst us) -> IsAll K H' us (ts.map TZ) -> (∀ t ∈ ts,zeC n t) -> ts.Nodup -> ts.length <= 60 -> Q (.ref l) H') : zfd K [.ref p,.int (n : Int),.bl g] H Q E:=⟨_,_,_,rfl,p,k,n,g,rfl,rfl,rfl,h,h8,q⟩
set_option maxHeartbeats 4000000 in
theorem zio (T : Txt K mg a) : za5 P w K mg base CX0 2 a.law_ties a.fd_law_ties zcN (zfd K):=by
 refine T.d_law_ties.F.ok zaP ?_ ?_
 walk_at "b3"
 refine ⟨_,(zae (pst 3 zaP.nd (zbb zab))
     (zae (zd2 PassesOwn.never rfl (zbw rfl T.z_range (zaa zaf zab)) (zaj (i:=4) zaP.nd rfl (Or.inr rfl)) (zag (zd2 PassesOwn.never rfl (zbw rfl T.z_range (zaa (pv 1) zab)) (zaj (i:=5) zaP.nd rfl (Or.inr rfl)) (zag (pst 3 zaP.nd (zar zaM (pv 3) (zaz rfl (zau.by (N':=["_law_b","_law_a","_law_delay"]) (src:=[none,some 5,some 4]) rfl (show zam _ (zac zcT).names zd9 ["_law_b","_law_a","_law_delay"] [none,some 5,some 4] = true from by decide +kernel)) (zbw rfl T.z_range (zaa (pv 1) zab)) (fun _ _ _ _ _=>(zaj (i:=0) (show (["_law_b","_law_a","_law_delay"] : List Str).Nodup from by decide) rfl (Or.inl rfl))) (fun _ _ _ _ _=>(zjP (zbg (show OpR _ (compareOp .NotEq) (zeW K) from zc7 hu) (pv 0) (pv 1) (zaO _)))) (fun _ _ _ _ _=>by exact (show PE _ _ (zjW K _) from zdK (zaa (pv 1) (zaa (pv 0) (zaa (pv 2) zab))))))))))))
     (zae (pst 6 zaP.nd (zfk zcq (zbb (zaa zaf (zaa zaf zab))) (pcl (zaQ T) hr T.d_law_draw (zaa (pv 0) (zaa zaf zab))) (fun _ _=>rfl)))
     (zae (pst 7 zaP.nd (zbb zab))
     (zae (zd2 PassesOwn.never rfl (zbw rfl T.z_range (zaa (zai (show zah _ (.builtin "min") zkq from zg5 rfl) rfl T.z_min zll (zaa (zai (show zah _ (.builtin "len") (zce K) from zaw) rfl T.z_len zaS (zaa (pv 3) zab)) (zaa (pcl (zaQ T) hr T.d_law_draw (zaa (pv 0) (zaa (zfk zcq (zbb (zaa zaf (zaa zaf zab))) (zao ze1 rfl T.z_int zf6 (zaa (pv 2) zab)) (fun _ _=>rfl)) zab))) zab))) zab)) (zaj (i:=8) zaP.nd rfl (Or.inl rfl)) (zag (zfx (zc3 PySem.F.plainAttrs_list PySem.F.slot_list_append PySem.F.type_list_append zcB (pv 7) (zaa (zc3 PySem.F.plainAttrs_list PySem.F.slot_list_pop PySem.F.type_list_pop zm7 (pv 3) (zaa (pcl (zaQ T) hr T.d_law_draw (zaa (pv 0) (zaa (zar zaM zaf (zar zdp (zar zm5 (zai (show zah _ (.builtin "len") (zce K) from zaw) rfl T.z_len zaS (zaa (pv 3) zab)) zaf) (pv 6))) zab))) zab)) zab)))))
     (zag (zaq (pv 7)))))))),?_⟩
 walk_at "cl"
 rw [show start zd9 [x0,x1,x2] = [some x0,some x1,some x2,none,none,none,none,none,none] from rfl]
 obtain ⟨p,k,n,g,rfl,rfl,rfl,hp,h8,q⟩:=h
 walk_at "gg"
 refine zeY (by simp) (fun ll0 H1 n1 S1 e1=>?_)
 walk_at "gg"
 refine zdM (n:=5) (by decide) (by decide) (fun d σ H'=>∃ (o4 o5 : Option V) (ll : Addr) (us : List V) (L : List (List Int)),σ = [some (.ref p),some (.int (n : Int)),some (.bl g),some (.ref ll),o4,o5,none,none,none] /\ zad H H' /\ H ll = none /\ H' ll = some (.lst us) /\ IsAll K H' us (L.map TZ) /\ zdc n d 0 L)
   ⟨_,_,ll0,[],[],rfl,S1,n1,e1,.nil,⟨by simp,List.nodup_nil,by simp,by simp⟩⟩ ?_ ?_
 . rintro d σ H2 hd ⟨o4,o5,ll,us,L,rfl,S2,nl,e2,t2,T2⟩
   have hd5 : d < 5:=hd
   walk_at "gg"
   refine zdM (n:=(n : Int)) (by omega) (by omega) (fun a σ H'=>∃ (o5 : Option V) (ll : Addr) (us : List V) (L : List (List Int)),σ = [some (.ref p),some (.int (n : Int)),some (.bl g),some (.ref ll),some (.int (d : Int)),o5,none,none,none] /\ zad H H' /\ H ll = none /\ H' ll = some (.lst us) /\ IsAll K H' us (L.map TZ) /\ zdc n d a L)
     ⟨_,ll,us,L,rfl,S2,nl,e2,t2,T2⟩ ?_ ?_
   . rintro a σ H3 ha ⟨o5,ll,us,L,rfl,S3,nl,e3,t3,T3⟩
     have ha : a < n:=by omega
     walk_at "gg"
     refine zd6 (n:=(n : Int)) (by omega) (by omega) (fun D j ys σ' H'=>(∃ o,σ' = [o,some (.int (a : Int)),some (.int (d : Int))]) /\ H3 D = none /\ zad H3 H' /\ H' D = some (.lst ys) /\ IsAll K H' ys ((zbB a d j).map TZ)) (fun D H' n s e=>⟨⟨_,rfl⟩,n,s,e,.nil⟩) ?_ ?_
     . rintro D j ys σ' H4 hj ⟨⟨o,rfl⟩,nD,S4,eD,t4⟩
       have hj : j < n:=by omega
       have hyl : ys.length <= j:=by
         have:=t4.length
         rw [List.length_map] at this
         have:=zen a d j
         omega
       walk_at "gg"
       . rename_i z
         refine zdL (ds:=[.int (a : Int),.int (j : Int),.int (d : Int)]) (by simp) (.cons (zaK.mpr rfl) (.cons (zaK.mpr rfl) (.cons (zaK.mpr rfl) .nil))) (fun v5 H5 S5 i5=>?_)
         refine zcI (S5 _ _ eD) (by omega) (fun H6 E6 e6=>⟨⟨_,rfl⟩,nD,(S4.trans S5).grow nD E6,e6,?_⟩)
         have k6:=E6.keep (S5 _ _ eD)
         rw [zff,if_neg (by intro e; exact z (by omega)),List.map_append]
         exact (IsAll.keep (S5.keep.trans k6) _ _ (zaX _) t4).append (.cons (Is.thruI (ns:=[(a : Int),(j : Int),(d : Int)]) i5 k6) .nil)
       . rename_i z
         refine ⟨ys,⟨_,rfl⟩,nD,S4,eD,?_⟩
         rw [zff,if_pos (by omega),List.append_nil]
         exact t4
     . rintro D ys σ' H4 ⟨_,nD,S4,eD,t4⟩
       rw [Int.toNat_natCast] at t4
       have hyl : ys.length <= n:=by
         have:=t4.length
         rw [List.length_map] at this
         have:=zen a d n
         omega
       have hul : us.length = L.length:=by rw [t3.length,List.length_map]
       have hLl:=T3.len
       walk_at "gg"
       refine zfv (S4 _ _ e3) eD (Nat.le_of_lt (zbC (by omega))) (fun l5 H5 n5 S5 e5=>?_)
       have S35:=S4.trans S5
       walk_at "gg"
       refine ⟨_,l5,us ++ ys,L ++ zbB a d n,rfl,S3.trans S35,zkA (S3.trans S4) n5,e5,?_,T3.row h8 ha (by omega)⟩
       rw [List.map_append]
       exact (IsAll.same S35 _ _ t3).append (IsAll.same S5 _ _ t4)
   . rintro σ H3 ⟨o5,ll,us,L,rfl,S3,nl,e3,t3,T3⟩
     refine ⟨_,_,ll,us,L,rfl,S3,nl,e3,t3,?_⟩
     exact T3.up h8
 . rintro σ H2 ⟨o4,o5,ll,us,L,rfl,S2,nl,e2,t2,T2⟩
   have hLl:=T2.len
   have hul : us.length = L.length:=by rw [t2.length,List.length_map]
   have P2:=hp.same S2
   have nlp : ll ≠ p:=Pen.ne nl hp
   walk_at "ga"
   rename_i l3 H3 n3 S3 e3 r4 H4 r40 r41 E4 K4 P4 near hnear lt H5 n5 S5 e5
   have nltp : lt ≠ p:=Pen.ne n5 P4
   have E25 : Exc p H2 H5:=S3.exc.trans (E4.trans S5.exc)
   have K25 : zaI H2 H5:=S3.keep.trans (K4.trans S5.keep)
   have el5:=E25.at nlp e2
   have t5 : IsAll K H5 us (L.map TZ):=IsAll.keep K25 _ _ (zaX _) t2
   have P5:=P4.same S5
   have E05 : Exc p H H5:=S2.exc.trans E25
   have K05 : zaI H H5:=S2.keep.trans K25
   have nlt0 : H lt = none:=by
     cases z : H lt with
     | none=>rfl
     | some o=>rw [(S2.exc.trans (S3.exc.trans E4)) lt o nltp z] at n5; cases n5
   have nll : ll ≠ lt:=fun z=>by
     subst z
     rw [(S3.exc.trans E4).at nlp e2] at n5
     cases n5
   clear S3 E4 K4 P4 S5 e3 n3 E25 K25 n5
   refine zcj (.of el5) ?_
   walk_at "ga"
   rename_i l6 H6 n6 S6 e6 m hm r7 H7 r70 r71 E7 K7 P7 c7 c71 c72 c73
   have E57 : Exc p H5 H7:=S6.exc.trans E7
   have K57 : zaI H5 H7:=S6.keep.trans K7
   have el7:=E57.at nlp el5
   have et7:=E57.at nltp e5
   have t7 : IsAll K H7 us (L.map TZ):=IsAll.keep K57 _ _ (zaX _) t5
   have E07:=E05.trans E57
   have K07:=K05.trans K57
   have hm61 : m <= 61:=by omega
   clear S6 E7 K7 e6 n6 E57 K57 el5 e5 t5 E05 K05 P5
   refine zdM (n:=c7) (by omega) (by omega) (fun i σ H'=>∃ (o8 : Option V) (us vs : List V) (L T : List (List Int)),σ = [some (.ref p),some (.int (n : Int)),some (.bl g),some (.ref ll),o4,o5,some (.int near),some (.ref lt),o8] /\ (∀ b o,b ≠ p -> H b = some o -> H' b = some o) /\ zaI H H' /\ Pen H' p k /\ H' ll = some (.lst us) /\ H' lt = some (.lst vs) /\ IsAll K H' us (L.map TZ) /\ IsAll K H' vs (T.map TZ) /\ (∀ t ∈ T ++ L,zeC n t) /\ (T ++ L).Nodup /\ T.length = i /\ c7 <= (L.length : Int) + i /\ L.length <= 280)
     ⟨_,us,[],L,[],rfl,E07,K07,P7,el7,et7,t7,.nil,T2.ok,T2.nd,rfl,by omega,by omega⟩ ?_ ?_
   . rintro i σ H8 hi ⟨o8,us,vs,L,T,rfl,X8,K8,P8,el8,et8,tl8,tt8,ok8,nd8,hT8,hc8,hL8⟩
     have hul : us.length = L.length:=by rw [tl8.length,List.length_map]
     have hvl : vs.length = T.length:=by rw [tt8.length,List.length_map]
     have hi60 : i < 61:=by omega
     have hL1 : 1 <= L.length:=by omega
     walk_at "gg"
     refine zjs (.of et8) ?_
     walk_at "gg"
     refine zjs (.of el8) ?_
     walk_at "gg"
     refine zcj (.of el8) ?_
     rw [hul]
     have hq : 0 <= ((L.length : Int) - 1).fdiv near /\ ((L.length : Int) - 1).fdiv near <= (L.length : Int) - 1:=by
       rcases hnear with rfl | rfl
       . rw [Int.fdiv_one]; omega
       . rw [Int.fdiv_eq_ediv_of_nonneg _ (by decide)]; omega
     generalize hqq : ((L.length : Int) - 1).fdiv near = qq at hq
     walk_at "gg"
     refine zlV ⟨by omega,(Bd.of128 (by omega) (by omega)).mono (by decide)⟩ ?_
     rw [hqq]
     walk_at "gg"
     rename_i r9 H9 r90 r91 E9 K9 P9
     have el9:=E9.at nlp el8
     have et9:=E9.at nltp et8
     refine zmW el9 r90 (by omega) (by omega) (fun y H10 hy E10 e10=>?_)
     have hr : r9.toNat < L.length:=by omega
     have K10:=E10.keep el9
     have et10:=E10.at (Ne.symm nll) et9
     walk_at "gg"
     refine zdG et10 (by omega) (fun H11 E11 e11=>?_)
     have K11:=E11.keep et10
     have K811:=K9.trans (K10.trans K11)
     walk_at "gg"
     obtain ⟨hj,iy⟩:=zbt tl8 hy
     have iy' : Is K H8 y (TZ L[r9.toNat]):=by
       rw [List.getD_eq_getElem?_getD,List.getElem?_map,List.getElem?_eq_getElem hr] at iy
       exact iy
     have pm : (L[r9.toNat] :: L.eraseIdx r9.toNat).Perm L:=L2.erase_perm L r9.toNat hr
     have pm2 : ((T ++ [L[r9.toNat]]) ++ L.eraseIdx r9.toNat).Perm (T ++ L):=by
       rw [List.append_assoc]
       exact List.Perm.append_left T pm
     refine ⟨_,us.eraseIdx r9.toNat,vs ++ [y],L.eraseIdx r9.toNat,T ++ [L[r9.toNat]],rfl,fun b o hb h=>?_,K8.trans K811,?_,E11.at nll e10,e11,?_,?_,fun t ht=>ok8 t (pm2.mem_iff.mp ht),pm2.nodup_iff.mpr nd8,by rw [List.length_append,hT8]; rfl,?_,?_⟩
     . exact E11 b o (zaA h nlt0) (E10 b o (zaA h nl) (E9 b o hb (X8 b o hb h)))
     . exact (P9.exc E10 (Ne.symm nlp)).exc E11 (Ne.symm nltp)
     . rw [<- zeH]
       exact IsAll.keep K811 _ _ (by rw [zeH]; exact zaX _) (tl8.erase _)
     . rw [List.map_append]
       exact (IsAll.keep K811 _ _ (zaX _) tt8).append (.cons (iy'.thruI K811) .nil)
     . rw [List.length_eraseIdx,if_pos hr]; omega
     . rw [List.length_eraseIdx,if_pos hr]; omega
   . rintro σ H8 ⟨o8,us,vs,L,T,rfl,X8,K8,P8,el8,et8,tl8,tt8,ok8,nd8,hT8,hc8,hL8⟩
     walk_at "gg"
     exact q lt H8 vs T X8 K8 P8 et8 tt8 (fun t ht=>ok8 t (List.mem_append_left _ ht)) (List.nodup_append.mp nd8).1 (by rw [hT8]; omega)
def zgl (K : PySem.W.Frag) : Sp:=fun vs H Q _=>∃ x0 x1,vs = [x0,x1] /\ ∃ (p : Addr) (k m : Int),x0 = .ref p /\ x1 = .int m /\ Pen H p k /\ 1 <= m /\ m <= 8 /\ ∀ v H' rs us ts,Exc p H H' -> zaI H H' -> Pen H' p k -> Is K H' v (zdQ rs us ts) -> zbJ rs us ts -> Q v H'
theorem zjf {K : PySem.W.Frag} {H : Hp} {Q : VK} {E : XK} {p : Addr} {k m : Int} (h : Pen H p k) (h1 : 1 <= m) (h8 : m <= 8) (q : ∀ v H' rs us ts,Exc p H H' -> zaI H H' -> Pen H' p k -> Is K H' v (zdQ rs us ts) -> zbJ rs us ts -> Q v H') : zgl K [.ref p,.int m] H Q E:=⟨_,_,rfl,p,k,m,rfl,rfl,h,h1,h8,q⟩
structure zks (rs : List Int) (us : List (List Int)) : Prop where
 l : us.length <= rs.length
 u : ∀ i,i < us.length -> ((us.getD i []).length : Int) = rs.getD i 0 /\ ∀ x ∈ us.getD i [],0 <= x /\ x <= 60
theorem zmy {α : Type} {xs : List α} {x d : α} {i : Nat} (h : i < xs.length + 1) : (xs ++ [x]).getD i d = if i < xs.length then xs.getD i d else x:=by
 rw [List.getD_eq_getElem?_getD,List.getElem?_append]
 split
 . rw [List.getD_eq_getElem?_getD]
 . have : i - xs.length = 0:=by omega
   rw [this]; rfl
theorem zks.add {rs : List Int} {us : List (List Int)} {u : List Int} (h : zks rs us) (hl : us.length < rs.length) (h1 : (u.length : Int) = rs.getD us.length 0) (h2 : ∀ x ∈ u,0 <= x /\ x <= 60) : zks rs (us ++ [u]):=by
 refine ⟨by rw [List.length_append]; exact hl,fun i hi=>?_⟩
 rw [List.length_append,List.length_singleton] at hi
 rw [zmy hi]
 split
 . rename_i z; exact h.u i z
 . rename_i z
   have e : i = us.length:=by omega
   subst e
   exact ⟨h1,h2⟩
set_option maxHeartbeats 4000000 in
theorem zjF (T : Txt K mg a) : za5 P w K mg base CX0 3 a.law_web a.fd_law_web zdy (zgl K):=by
 refine T.d_law_web.F.ok zbo ?_ ?_
 walk_at "b2"
 refine ⟨_,(zae (pst 2 zbo.nd (zb0 (show OpR _ (compareOp .Eq) (zgA K) from ze2 hu) (pcl (zaQ T) hr T.d_law_draw (zaa (pv 0) (zaa zaf zab))) zaf (zaO _)))
     (zae (pst 3 zbo.nd (zar zaM zaf (pcl (zaQ T) hr T.d_law_draw (zaa (pv 0) (zaa (zfk zcq (zbb (zaa (pv 1) (zaa zaf zab))) (zao ze1 rfl T.z_int zf6 (zaa (pv 2) zab)) (fun _ _=>rfl)) zab)))))
     (zae (zeb (i:=4) zbo.nd rfl (Or.inl rfl) rfl (zau.by (N':=["_law_k","_law_pen_here","_law_great"]) (src:=[none,some 0,some 2]) rfl (show zam _ (zac zcz).names zdD ["_law_k","_law_pen_here","_law_great"] [none,some 0,some 2] = true from by decide +kernel)) (zbw rfl T.z_range (zaa (pv 3) zab)) (fun _ _ _ _ _=>(zaj (i:=0) (show (["_law_k","_law_pen_here","_law_great"] : List Str).Nodup from by decide) rfl (Or.inl rfl))) (fun _ _ _ _ _=>zax) (fun _ _ _ _ _=>by exact (zar zaM zaf (pcl (zaQ (K:=K) (mg:=mg) (a:=a) T) hr T.d_law_draw (zaa (pv 1) (zaa (zfk (show IxR _ (rIx K) from zcq) (zn4 (K:=K) rfl (zaa zaf (zaa zaf zab))) (zao ze1 rfl T.z_int zf6 (zaa (pv 2) zab)) (fun _ _=>rfl)) zab))))))
     (zae (pst 5 zbo.nd (zbb zab))
     (zae (zd2 PassesOwn.never rfl (zbj (pv 4)) (zaj (i:=6) zbo.nd rfl (Or.inl rfl)) (zae (pst 7 zbo.nd (zfk zcq (zbb (zaa zaf (zaa (zai (show zah _ (.builtin "min") zkq from zg5 rfl) rfl T.z_min zll (zaa (zar zaM (pv 6) zaf) (zaa zaf zab))) (zaa zaf (zaa zaf zab))))) (pcl (zaQ T) hr T.d_law_draw (zaa (pv 0) (zaa zaf zab))) (fun _ _=>rfl)))
     (zag (zfx (zc3 PySem.F.plainAttrs_list PySem.F.slot_list_append PySem.F.type_list_append zcB (pv 5) (zaa (zao (show zah _ (.type "tuple") (zay K) from zaB) rfl T.z_tuple zaV (zaa (zaz rfl (zau.by (N':=["_law_p","_law_pen_here","_law_high"]) (src:=[none,some 0,some 7]) rfl (show zam _ (zac zcz).names zdD ["_law_p","_law_pen_here","_law_high"] [none,some 0,some 7] = true from by decide +kernel)) (zbw rfl T.z_range (zaa (pv 6) zab)) (fun _ _ _ _ _=>(zaj (i:=0) (show (["_law_p","_law_pen_here","_law_high"] : List Str).Nodup from by decide) rfl (Or.inl rfl))) (fun _ _ _ _ _=>zax) (fun _ _ _ _ _=>by exact (pcl (zaQ (K:=K) (mg:=mg) (a:=a) T) hr T.d_law_draw (zaa (pv 1) (zaa (pv 2) zab))))) zab)) zab))))))
     (zag (zaq (zdK (zaa (zao (show zah _ (.type "tuple") (zay K) from zaB) rfl T.z_tuple zaV (zaa (pv 4) zab)) (zaa (zao (show zah _ (.type "tuple") (zay K) from zaB) rfl T.z_tuple zaV (zaa (pv 5) zab)) (zaa (zao (show zah _ (.type "tuple") (zay K) from zaB) rfl T.z_tuple zaV (zaa (pcl (zio T) hr T.d_law_ties (zaa (pv 0) (zaa (pv 3) (zaa (pv 2) zab)))) zab)) zab))))))))))),?_⟩
 walk_at "cl"
 rw [show start zdD [x0,x1] = [some x0,some x1,none,none,none,none,none,none] from rfl]
 obtain ⟨p,k,m,rfl,rfl,hp,m1,m8,q⟩:=h
 walk_at "ga"
 rename_i r1 H1 r10 r11 E1 K1 P1 l2 H2 n2 S2 e2 z hz r3 H3 r30 r31 E3 K3 P3
 generalize decide (r1 = 5) = g at *
 obtain ⟨n,hn⟩ : ∃ n : Nat,1 + r3 = (n : Int):=⟨(1 + r3).toNat,by omega⟩
 rw [hn]
 have n1 : 1 <= n:=by omega
 have n8 : n <= 8:=by omega
 have E03 : Exc p H H3:=E1.trans (S2.exc.trans E3)
 have K03 : zaI H H3:=K1.trans (S2.keep.trans K3)
 clear E1 K1 P1 S2 e2 n2 E3 K3 hz r10 r11 r30 r31 hn
 refine zd6 (n:=(n : Int)) (by omega) (by omega) (fun D i ys σ' H'=>(∃ o,σ' = [o,some (.ref p),some (.bl g)]) /\ H3 D = none /\ Exc p H3 H' /\ zaI H3 H' /\ Pen H' p k /\ ∃ rs : List Int,H' D = some (.lst (rs.map V.int)) /\ rs.length = i /\ ∀ r ∈ rs,1 <= r /\ r <= 60) (fun D H' n s e=>⟨⟨_,rfl⟩,n,s.exc,s.keep,P3.same s,[],e,rfl,by simp⟩) ?_ ?_
 . rintro D i ys σ' H4 hi ⟨⟨o,rfl⟩,nD,E4,K4,P4,rs,eD,hl,hr⟩
   have hi8 : i < n:=by omega
   have nDp : D ≠ p:=Pen.ne nD P3
   walk_at "ga"
   rename_i l5 H5 n5 S5 e5 z5 hz5 r6 H6 r60 r61 E6 K6 P6
   have eD6:=E6.at nDp (S5 _ _ eD)
   refine zcI eD6 (by rw [List.length_map]; omega) (fun H7 E7 e7=>⟨⟨_,rfl⟩,nD,fun b o hb h=>?_,K4.trans (S5.keep.trans (K6.trans (E7.keep eD6))),P6.exc E7 (Ne.symm nDp),rs ++ [1 + r6],by rw [List.map_append]; exact e7,by rw [List.length_append,hl]; rfl,fun r hm=>?_⟩)
   . exact E7 b o (zaA h nD) (E6 b o hb (S5 b o (E4 b o hb h)))
   . rcases List.mem_append.mp hm with h | h
     . exact hr r h
     . rw [List.mem_singleton.mp h]; omega
 . rintro ls ys σ' H4 ⟨_,nls,E4,K4,P4,rs,els,hl,hr⟩
   rw [Int.toNat_natCast] at hl
   have nlsp : ls ≠ p:=Pen.ne nls P3
   have E04:=E03.trans E4
   have K04:=K03.trans K4
   have nls0 : H ls = none:=by
     cases z : H ls with
     | none=>rfl
     | some o=>rw [E03 ls o nlsp z] at nls; cases nls
   clear E4 K4 P3 nls E03 K03
   walk_at "ga"
   rename_i lu H5 n5 S5 e5
   have nlup : lu ≠ p:=Pen.ne n5 P4
   have nlu : ls ≠ lu:=fun z=>by subst z; rw [els] at n5; cases n5
   have nlu0 : H lu = none:=by
     cases z : H lu with
     | none=>rfl
     | some o=>rw [E04 lu o nlup z] at n5; cases n5
   have els5:=S5 _ _ els
   refine zgY (SqL.of els5) (fun i σ H'=>∃ (o6 o7 : Option V) (us : List V) (u : List (List Int)),σ = [some (.ref p),some (.int m),some (.bl g),some (.int (n : Int)),some (.ref ls),some (.ref lu),o6,o7] /\ (∀ b o,b ≠ p -> H b = some o -> H' b = some o) /\ zaI H H' /\ Pen H' p k /\ H' ls = some (.lst (rs.map V.int)) /\ H' lu = some (.lst us) /\ IsAll K H' us (u.map TZ) /\ u.length = i /\ zks rs u)
     ⟨_,_,[],[],rfl,E04.trans S5.exc,K04.trans S5.keep,P4.same S5,els5,e5,.nil,rfl,⟨by simp,by simp⟩⟩ (fun i σ H' _ ⟨_,_,_,_,_,_,_,_,e,_⟩=>.of e) ?_ ?_
   . rintro i x σ H6 hx ⟨o6,o7,us,u,rfl,X6,K6,P6,els6,elu6,t6,hu6,U6⟩
     obtain ⟨hi,rfl⟩:=int_at hx
     have hul : us.length = u.length:=by rw [t6.length,List.length_map]
     have hri:=hr (rs.getD i 0) (GM.getD_mem hi)
     generalize hri' : rs.getD i 0 = r at *
     obtain ⟨c,rfl⟩:=Int.eq_ofNat_of_zero_le (show 0 <= r by omega)
     walk_at "ga"
     rename_i b1 b2 b3 b4 l7 H7 n7 S7 e7 r8 H8 r80 r81 E8 K8 P8 hi9 hhi9
     have h9 : 1 <= hi9 /\ hi9 <= 61:=by omega
     have X8 : ∀ b o,b ≠ p -> H b = some o -> H8 b = some o:=fun b o hb h=>E8 b o hb (S7 b o (X6 b o hb h))
     have K68:=S7.keep.trans K8
     have els8:=E8.at nlsp (S7 _ _ els6)
     have elu8:=E8.at nlup (S7 _ _ elu6)
     have t8 : IsAll K H8 us (u.map TZ):=IsAll.keep K68 _ _ (zaX _) t6
     have K08:=K6.trans K68
     clear S7 E8 K8 e7 n7 hhi9 r80 r81 t6 X6 K6 P6 els6 elu6 K68
     refine zjs (.of elu8) ?_
     walk_at "gg"
     refine zd6 (n:=(c : Int)) (by omega) (by omega) (fun D j ys σ' H'=>(∃ o,σ' = [o,some (.ref p),some (.int hi9)]) /\ H8 D = none /\ Exc p H8 H' /\ zaI H8 H' /\ Pen H' p k /\ ∃ ws : List Int,H' D = some (.lst (ws.map V.int)) /\ ws.length = j /\ ∀ x ∈ ws,0 <= x /\ x <= 60) (fun D H' n s e=>⟨⟨_,rfl⟩,n,s.exc,s.keep,P8.same s,[],e,rfl,by simp⟩) ?_ ?_
     . rintro D j ys σ' H9 hj ⟨⟨o,rfl⟩,nD,E9,K9,P9,ws,eD,hwl,hw⟩
       have nDp : D ≠ p:=Pen.ne nD P8
       walk_at "gg"
       rename_i r10 H10 r100 r101 E10 K10 P10
       have eD10:=E10.at nDp eD
       refine zcI eD10 (by rw [List.length_map]; omega) (fun H11 E11 e11=>⟨⟨_,rfl⟩,nD,fun b o hb h=>?_,K9.trans (K10.trans (E11.keep eD10)),P10.exc E11 (Ne.symm nDp),ws ++ [r10],by rw [List.map_append]; exact e11,by rw [List.length_append,hwl]; rfl,fun x hm=>?_⟩)
       . exact E11 b o (zaA h nD) (E10 b o hb (E9 b o hb h))
       . rcases List.mem_append.mp hm with h | h
         . exact hw x h
         . rw [List.mem_singleton.mp h]; omega
     . rintro D ys σ' H9 ⟨_,nD,E9,K9,P9,ws,eD,hwl,hw⟩
       rw [Int.toNat_natCast] at hwl
       have nDp : D ≠ p:=Pen.ne nD P8
       walk_at "gg"
       refine zdF (.of eD) (fun l10 H10 n10 S10 e10=>?_)
       have elu10:=S10 _ _ (E9.at nlup elu8)
       walk_at "gg"
       refine zdG elu10 (by omega) (fun H11 E11 e11=>?_)
       have K11:=E11.keep elu10
       have K811:=K9.trans (S10.keep.trans K11)
       walk_at "gg"
       refine ⟨_,_,us ++ [.ref l10],u ++ [ws],rfl,fun b o hb h=>?_,K08.trans K811,(P9.same S10).exc E11 (Ne.symm nlup),E11.at nlu (S10 _ _ (E9.at nlsp els8)),e11,?_,by rw [List.length_append,hu6]; rfl,U6.add (by omega) (by rw [hwl,hu6,hri']) hw⟩
       . exact E11 b o (zaA h nlu0) (S10 b o (E9 b o hb (X8 b o hb h)))
       . rw [List.map_append]
         exact (IsAll.keep K811 _ _ (zaX _) t8).append (.cons (Is.thruI (zck.mpr ⟨l10,rfl,.of e10⟩) K11) .nil)
   . rintro σ H6 ⟨o6,o7,us,u,rfl,X6,K6,P6,els6,elu6,t6,hu6,U6⟩
     rw [List.length_map] at hu6
     walk_at "gg"
     refine zdF (.of els6) (fun l7 H7 n7 S7 e7=>?_)
     have i7 : Is K H7 (.ref l7) (TZ rs):=zck.mpr ⟨l7,rfl,.of e7⟩
     walk_at "gg"
     refine zby (zav.mpr ⟨lu,us,rfl,.of (S7 _ _ elu6),IsAll.same S7 _ _ t6⟩) (fun w8 H8 S8 i8=>?_)
     walk_at "gg"
     refine ziV ((P6.same S7).same S8) n8 (fun l9 H9 vs ts E9 K9 P9 e9 t9 hok hnd h60=>?_)
     walk_at "gg"
     refine zby (zav.mpr ⟨l9,vs,rfl,.of e9,t9⟩) (fun w10 H10 S10 i10=>?_)
     walk_at "gg"
     have K810:=K9.trans S10.keep
     have i8 : Is K H8 w8 (TTr u):=i8
     have i10 : Is K H10 w10 (TTr ts):=i10
     refine zdL (ds:=[TZ rs,TTr u,TTr ts]) (by simp) (.cons ((i7.by S8).thruI K810) (.cons (i8.byK K810 (zhu _)) (.cons i10 .nil))) (fun v11 H11 S11 i11=>?_)
     have X11 : Exc p H H11:=fun b o hb h=>S11 b o (S10 b o (E9 b o hb (S8 b o (S7 b o (X6 b o hb h)))))
     refine q v11 H11 rs u ts X11 (K6.trans (S7.keep.trans (S8.keep.trans (K810.trans S11.keep)))) ((P9.same S10).same S11) i11 ⟨by omega,by omega,hr,hu6,fun i hi=>U6.u i (by omega),h60,?_,hnd⟩
     rw [hl]
     exact hok
def zfn (K : PySem.W.Frag) : Sp:=fun vs H Q _=>∃ x0,vs = [x0] /\ ∃ (rs : List Int) (us ts : List (List Int)),Is K H x0 (zdQ rs us ts) /\ zbJ rs us ts /\ zgs rs us ts /\ ∀ H' ts',zad H H' -> ts'.Perm ts -> zaR ts' -> Q (.str (zeF rs us ts')) H'
theorem ziP {K : PySem.W.Frag} {H : Hp} {Q : VK} {E : XK} {rs : List Int} {us ts : List (List Int)} {v : V} (h : Is K H v (zdQ rs us ts)) (ok : zbJ rs us ts) (ws : zgs rs us ts) (q : ∀ H' ts',zad H H' -> ts'.Perm ts -> zaR ts' -> Q (.str (zeF rs us ts')) H') : zfn K [v] H Q E:=⟨_,rfl,rs,us,ts,h,ok,ws,q⟩
theorem zgN {K : PySem.W.Frag} {H : Hp} {Q : VK} {a : Addr} {src : List (Option Nat)} {σ : L2.St} {zs : List Int} (hs : SqT K H a (zs.map V.int)) (hsrc : zas src σ = none :: []) (hl : zs.length <= 100) (hb : ∀ z ∈ zs,0 <= z /\ z < 100) (q : ∀ D H',H D = none -> zad H H' -> H' D = some (.lst ((zs.map zS).map V.str)) -> Q (.ref D) H') : zgh K (zcv 0) ze6 (tCB zgD (zgG (zgv 0) zkI)) src σ (.ref a) H Q:=by
 refine zeA hs (o0:=none) (tl:=[]) hsrc (fun j y _=>y = .str (zS (zs.getD j 0))) ?_ ?_
 . intro D j x ys o H1 hx inv
   obtain ⟨hj,rfl⟩:=L2.int_at hx
   obtain ⟨b0,b1⟩:=hb _ (zdJ hj)
   walk_at "gg"
   refine zjQ (by have:=zdH (show (zs.getD j 0).natAbs < 1000000 by omega); omega) ?_
   rw [zou b0]
   walk_at "gg"
   exact zaF inv (by omega) (fun _ _ _ _ _ h=>h) ⟨_,rfl⟩ (zad.refl _) rfl
 . intro D ys H1 n1 S1 e1 l1 r1
   have ey : ys = (zs.map zS).map V.str:=by
     refine List.ext_getElem (by rw [l1]; simp) fun i h1 h2=>?_
     have:=r1 i ys[i] (List.getElem?_eq_getElem h1)
     rw [this]
     rw [List.length_map,List.length_map] at h2
     simp [List.getD_eq_getElem?_getD,List.getElem?_eq_getElem h2]
   rw [ey] at e1
   exact q D H1 n1 S1 e1
set_option maxHeartbeats 4000000 in
theorem ziv (T : Txt K mg a) : za5 P w K mg base CX0 1 a.law_text a.fd_law_text zcJ (zfn K):=by
 refine T.d_law_text.F.ok zbH ?_ ?_
 walk_at "b1"
 have hgd:=hr.gd
 refine ⟨_,(zae (pst 1 zbH.nd (zbb zab))
     (zae (zd2 PassesOwn.never rfl (zfA rfl T.z_zip (zaa (pix (pv 0)) (zaa (pix (pv 0)) zab))) (zhQ (n:=2) rfl (zbM (zaj (i:=2) zbH.nd rfl (Or.inl rfl)) (zbM (zaj (i:=3) zbH.nd rfl (Or.inl rfl)) zfs))) (zag (zfx (zc3 PySem.F.plainAttrs_list PySem.F.slot_list_append PySem.F.type_list_append zcB (pv 1) (zaa (zar zaM zaH (zc3 PySem.F.plainAttrs_str PySem.F.slot_str_join PySem.F.type_str_join (show MtM _ "str.join" (zd4 K) from zdr) zaH (zaa (zaz rfl (zau.by (N':=["_law_one"]) (src:=[none]) rfl (show zam _ (zac zb6).names zcW ["_law_one"] [none] = true from by decide +kernel)) (zhB (zar (show OpR _ (binaryOp .Add) (zjV K) from zjR) (zdK (zaa (pv 2) zab)) (pv 3))) (fun _ _ _ _ _=>(zaj (i:=0) (show (["_law_one"] : List Str).Nodup from by decide) rfl (Or.inl rfl))) (fun _ _ _ _ _=>zax) (fun _ _ _ _ _=>(zao (show zah _ (.type "str") zgD from zeI) rfl T.z_str zhU (zaa (pv 0) zab)))) zab))) zab)))))
     (zae (zd2 PassesOwn.never rfl (zbj (zai (show zah _ (.builtin "sorted") (zhW K) from zfU) rfl T.z_sorted zgT (zaa (pix (pv 0)) zab))) (zaj (i:=4) zbH.nd rfl (Or.inl rfl)) (zag (zfx (zc3 PySem.F.plainAttrs_list PySem.F.slot_list_append PySem.F.type_list_append zcB (pv 1) (zaa (zar zaM zaH (zc3 PySem.F.plainAttrs_str PySem.F.slot_str_join PySem.F.type_str_join (show MtM _ "str.join" (zd4 K) from zdr) zaH (zaa (zaz rfl (zau.by (N':=["_law_one"]) (src:=[none]) rfl (show zam _ (zac zb6).names zcW ["_law_one"] [none] = true from by decide +kernel)) (zhB (pv 4)) (fun _ _ _ _ _=>(zaj (i:=0) (show (["_law_one"] : List Str).Nodup from by decide) rfl (Or.inl rfl))) (fun _ _ _ _ _=>zax) (fun _ _ _ _ _=>(zao (show zah _ (.type "str") zgD from zeI) rfl T.z_str zhU (zaa (pv 0) zab)))) zab))) zab)))))
     (zag (zaq (zc3 PySem.F.plainAttrs_str PySem.F.slot_str_join PySem.F.type_str_join (show MtM _ "str.join" (zd4 K) from zdr) zaH (zaa (pv 1) zab))))))),?_⟩
 walk_at "cl"
 rw [show start zcW [x0] = [some x0,none,none,none,none] from rfl]
 obtain ⟨rs,us,ts,hw,ok,ws,q⟩:=h
 walk_at "gg"
 refine zeY (by simp) (fun l1 H1 n1 S1 e1=>?_)
 walk_at "gg"
 refine zhw (hw.by S1) (fun w0 i0=>?_)
 walk_at "gg"
 refine zhJ (hw.by S1) (fun w1 i1=>?_)
 walk_at "gg"
 obtain ⟨a0,rfl,s0⟩:=zck.mp i0
 obtain ⟨a1,xs1,rfl,s1,t1⟩:=zaC.mp i1
 have lx1:=t1.length
 rw [List.length_map] at lx1
 have h8:=ws.n
 have hus:=ws.l
 have htl:=ok.tl
 refine ⟨true,true,zkR (t:=true) (u:=true) s0 s1 (by rw [List.length_map,lx1]; exact hus) (fun i σ H'=>(∃ o1 o2 o3,σ = [some x0,some (.ref l1),o1,o2,o3]) /\ Exc l1 H1 H' /\ H' l1 = some (.lst (((List.zipWith zh7 rs us).take i).map V.str))) ⟨⟨_,_,_,rfl⟩,Exc.refl _ _,e1⟩ ?_ ?_ ?_⟩
 . rintro i σ H2 _ ⟨_,E2,e2⟩
   exact ⟨(E2.keep e1).sqT s0,(E2.keep e1).sqT s1⟩
 . rintro i x y σ H2 c H3 hx hy ⟨⟨o1,o2,o3,rfl⟩,E2,e2⟩ nc S3 ec
   obtain ⟨hi,rfl⟩:=L2.int_at hx
   have hj : i < us.length:=by omega
   obtain ⟨_,iy⟩:=zbt t1 hy
   have iy : Is K H1 y (TZ (us.getD i [])):=by
     rw [List.getD_eq_getElem?_getD,List.getElem?_map,List.getElem?_eq_getElem hj] at iy
     rw [List.getD_eq_getElem?_getD,List.getElem?_eq_getElem hj]
     exact iy
   have iy3:=(iy.byK (E2.keep e1) (zej _)).by S3
   obtain ⟨g1,g2⟩:=ws.u (us.getD i []) (by rw [List.getD_eq_getElem?_getD,List.getElem?_eq_getElem hj]; exact List.getElem_mem hj)
   have g0:=ws.r _ (zdJ hi)
   refine zfz (.of ec) rfl ?_
   walk_at "gg"
   have e3:=S3 _ _ e2
   refine ⟨.inl ⟨rfl,_,.of e3⟩,?_⟩
   walk_at "gg"
   refine zgg ?_
   walk_at "gg"
   refine zdL (ds:=[.int (rs.getD i 0)]) (by simp) (.cons (zaK.mpr rfl) .nil) (fun v4 H4 S4 i4=>?_)
   walk_at "gg"
   refine zij i4 (iy3.by S4) (by rw [List.length_map]; simp only [List.length_singleton]; omega) (fun v5 H5 S5 i5=>?_)
   obtain ⟨a5,rfl,s5⟩:=zck.mp (show Is K H5 v5 (TZ (rs.getD i 0 :: us.getD i [])) from i5)
   walk_at "gg"
   have gz : ∀ z ∈ rs.getD i 0 :: us.getD i [],0 <= z /\ z < 100:=fun z hz=>by
     rcases List.mem_cons.mp hz with rfl | hz
     . exact g0
     . exact g2 z hz
   refine zgN s5 rfl (by rw [List.length_cons]; omega) gz (fun D6 H6 n6 S6 e6=>?_)
   walk_at "gg"
   refine zdb (B:=2) (.of e6) (fun y hy=>?_) ?_ ?_
   . obtain ⟨z,hz',rfl⟩:=List.mem_map.mp hy
     exact zhE (gz z hz').1 (gz z hz').2
   . rw [List.length_map,zik,List.length_cons]
     show ((us.getD i []).length + 1) * 2 + ((us.getD i []).length + 1) * 1 <= _
     omega
   have wl:=zbI gz
   rw [List.length_cons] at wl
   refine .inr (.inr ⟨_,zap (rs.getD i 0 :: us.getD i []),rfl,rfl,?_,?_⟩)
   . rw [show (PySem.Str.ofString "worm ").length = 5 by decide]
     have : 1000 <= sizeLine:=by decide
     omega
   have e7:=S6 _ _ (S5 _ _ (S4 _ _ e3))
   walk_at "gg"
   refine zdG e7 (by simp; omega) (fun H7 E7 e8=>⟨⟨_,_,_,rfl⟩,?_,?_⟩)
   . exact (fun b o nb hb=>E7 b o nb (S6 _ _ (S5 _ _ (S4 _ _ (S3 _ _ (E2 b o nb hb))))))
   . rw [e8,List.take_add_one,List.getElem?_zipWith,List.getElem?_eq_getElem hi,List.getElem?_eq_getElem hj,List.map_append]
     rw [List.getD_eq_getElem?_getD,List.getElem?_eq_getElem hi,List.getD_eq_getElem?_getD,List.getElem?_eq_getElem hj]
     rfl
 . rintro σ H2 ⟨⟨o1,o2,o3,rfl⟩,E2,e2⟩
   show tl_ _ _ _
   walk_at "tl"
   walk_at "gg"
   have k2:=E2.keep e1
   have et : (List.zipWith zh7 rs us).take (rs.map V.int).length = List.zipWith zh7 rs us:=List.take_of_length_le (by rw [List.length_zipWith,List.length_map]; omega)
   rw [et] at e2
   refine zhK ((hw.by S1).byK k2 (zlw _ _ _)) (fun w2 i2=>?_)
   walk_at "gg"
   refine zh9 (.inr i2) (by omega) ok.nd (fun k hk z=>?_) (fun l8 H8 us8 js n8 S8 e8 pm so t8=>?_)
   . obtain ⟨x,y,c,e,_⟩:=ok.t k hk
     rw [e] at z; cases z
   have jl:=pm.length_eq
   have l8':=t8.length
   rw [List.length_map] at l8'
   have n81 : l8 ≠ l1:=fun z=>by rw [z,e2] at n8; cases n8
   have e28:=S8 _ _ e2
   refine zgY (.of e8) (fun i σ H'=>(∃ o1 o2 o3,σ = [some x0,some (.ref l1),o1,o2,o3]) /\ Exc l1 H8 H' /\ H' l1 = some (.lst ((List.zipWith zh7 rs us ++ (js.map znl).take i).map V.str))) ⟨⟨_,_,_,rfl⟩,Exc.refl _ _,by rw [List.take_zero,List.append_nil]; exact e28⟩ ?_ ?_ ?_
   . rintro i σ H9 _ ⟨_,E9,e9⟩
     exact .of (E9 _ _ n81 e8)
   . rintro i x σ H9 hx ⟨⟨p1,p2,p3,rfl⟩,E9,e9⟩
     obtain ⟨hj,ix⟩:=zbt t8 hx
     rw [List.length_map] at hj
     rw [List.getD_eq_getElem?_getD,List.getElem?_map,List.getElem?_eq_getElem hj] at ix
     have ix : Is K H8 x (TZ js[i]):=ix
     obtain ⟨a9,rfl,s9⟩:=zck.mp (ix.byK (E9.keep e28) (zej _))
     obtain ⟨g1,gz⟩:=ws.t js[i] (pm.mem_iff.mp (List.getElem_mem hj))
     walk_at "gg"
     refine ⟨.inl ⟨rfl,_,.of e9⟩,?_⟩
     walk_at "gg"
     refine zgg ?_
     walk_at "gg"
     refine zgN s9 rfl (by omega) gz (fun D10 H10 n10 S10 e10=>?_)
     walk_at "gg"
     refine zdb (B:=2) (.of e10) (fun y hy=>?_) ?_ ?_
     . obtain ⟨z,hz',rfl⟩:=List.mem_map.mp hy
       exact zhE (gz z hz').1 (gz z hz').2
     . rw [List.length_map,zik]
       show js[i].length * 2 + js[i].length * 1 <= _
       omega
     have wl:=zbI gz
     refine .inr (.inr ⟨_,zap js[i],rfl,rfl,?_,?_⟩)
     . rw [show (PySem.Str.ofString "tie ").length = 4 by decide]
       have : 1000 <= sizeLine:=by decide
       omega
     walk_at "gg"
     refine zdG (S10 _ _ e9) (by simp; omega) (fun H11 E11 e11=>⟨⟨_,_,_,rfl⟩,?_,?_⟩)
     . exact (fun b o nb hb=>E11 b o nb (S10 _ _ (E9 b o nb hb)))
     . rw [e11,List.take_add_one,List.getElem?_map,List.getElem?_eq_getElem hj,<- List.append_assoc,List.map_append (l₁:=_ ++ _)]
       rfl
   . rintro σ H9 ⟨⟨p1,p2,p3,rfl⟩,E9,e9⟩
     show tl_ _ _ _
     walk_at "tl"
     walk_at "gg"
     refine zgg ?_
     walk_at "gg"
     rw [show (js.map znl).take us8.length = js.map znl from List.take_of_length_le (by rw [List.length_map]; omega)] at e9
     refine zdb (B:=400) (.of e9) (fun y hy=>?_) ?_ ?_
     . have wj : zgs rs us js:=⟨ws.l,ws.n,ws.r,ws.u,by rw [jl]; exact ws.tl,fun t ht=>ws.t t (pm.mem_iff.mp ht)⟩
       exact (zhc wj (fun t ht z=>by
         obtain ⟨x,y,c,e,_⟩:=ok.t t (pm.mem_iff.mp ht)
         rw [e] at z; cases z) y hy).1
     . simp only [List.length_append,List.length_map,List.length_zipWith,zjD]
       omega
     . exact q _ js (((S1.grow n1 E2).trans S8).grow n1 E9) pm so
theorem zkd {d : PyData} {ns : List Int} (h : zbT d ns) (hb : ∀ n ∈ ns,n.natAbs < 1000000) (hl : ns.length <= 60) : Rp 2 1320 d:=by
 have go : ∀ x ∈ ns.map PyData.int,Rp 1 21 x:=fun x hx=>by
   obtain ⟨n,hn,rfl⟩:=List.mem_map.mp hx
   exact zpQ (hb n hn)
 rcases h with rfl | rfl
 . exact zjb (k:=60) go (by rw [List.length_map]; exact hl)
 . exact zjg (k:=60) go (by rw [List.length_map]; exact hl)
theorem zjZ {d : PyData} {ds : List PyData} {rows : List (List Int)} (h : zbv d ds) (hr : zcr ds rows) (hb : ∀ r ∈ rows,r.length <= 60 /\ ∀ n ∈ r,n.natAbs < 1000000) (hl : rows.length <= 60) : Rp 3 79260 d:=by
 have go : ∀ x ∈ ds,Rp 2 1320 x:=fun x hx=>by
   obtain ⟨i,hi,rfl⟩:=List.getElem_of_mem hx
   have hi' : i < rows.length:=by rw [<- hr.1]; exact hi
   have:=hr.2 i hi'
   rw [List.getD_eq_getElem?_getD,List.getElem?_eq_getElem hi] at this
   have hm:=hb _ (getD_mem (d:=[]) hi')
   exact zkd this hm.2 hm.1
 rcases h with rfl | rfl
 . exact zjb (k:=60) go (by rw [hr.1]; exact hl)
 . exact zjg (k:=60) go (by rw [hr.1]; exact hl)
theorem zlH {rs : List Int} {us ts : List (List Int)} (ok : zbJ rs us ts) : (∀ n ∈ rs,n.natAbs < 1000000) /\ (∀ r ∈ us,r.length <= 60 /\ ∀ n ∈ r,n.natAbs < 1000000) /\ (∀ r ∈ ts,r.length <= 60 /\ ∀ n ∈ r,n.natAbs < 1000000):=by
 refine ⟨fun n hn=>by have:=ok.r n hn; omega,fun r hr=>?_,fun r hr=>?_⟩
 . obtain ⟨i,hi,rfl⟩:=List.getElem_of_mem hr
   have hi' : i < rs.length:=by rw [<- ok.ul]; exact hi
   have h1:=ok.u i hi'
   have h2:=ok.ri hi'
   rw [List.getD_eq_getElem?_getD,List.getElem?_eq_getElem hi] at h1
   have h1 : ((us[i].length : Nat) : Int) = rs.getD i 0 /\ ∀ x ∈ us[i],0 <= x /\ x <= 60:=h1
   refine ⟨by omega,fun n hn=>?_⟩
   have:=h1.2 n hn
   omega
 . obtain ⟨a,b,d,rfl,ha,hb,_,hd⟩:=ok.t r hr
   have:=ok.n8
   refine ⟨by simp,fun n hn=>?_⟩
   simp only [List.mem_cons,List.not_mem_nil,or_false] at hn
   rcases hn with rfl | rfl | rfl <;> omega
theorem zmh {rs : List Int} {us ts : List (List Int)} {d0 d1 d2 : PyData} {e1 e2 : List PyData} (ok : zbJ rs us ts) (h0 : zbT d0 rs) (h1 : zbv d1 e1) (w1 : zcr e1 us) (h2 : zbv d2 e2) (w2 : zcr e2 ts) : Rp 4 237783 (.list [d0,d1,d2]) /\ Rp 4 237783 (.tuple [d0,d1,d2]):=by
 obtain ⟨b0,b1,b2⟩:=zlH ok
 have hn:=ok.n8
 have go : ∀ x ∈ [d0,d1,d2],Rp 3 79260 x:=fun x hx=>by
   simp only [List.mem_cons,List.not_mem_nil,or_false] at hx
   rcases hx with rfl | rfl | rfl
   . exact (zkd h0 b0 (by omega)).mono (by decide) (by decide)
   . exact zjZ h1 w1 b1 (by rw [ok.ul]; omega)
   . exact zjZ h2 w2 b2 ok.tl
 exact ⟨zjb (k:=3) go (by simp),zjg (k:=3) go (by simp)⟩
theorem zlC {rs : List Int} {us ts : List (List Int)} (ok : zbJ rs us ts) : Rp 4 237783 (zdQ rs us ts):=(zmh ok (.inr rfl) (.inr rfl) (zcs us) (.inr rfl) (zcs ts)).2
theorem zeE {rs : List Int} {us ts : List (List Int)} (ok : zbJ rs us ts) : zgs rs us ts:=by
 have hr : ∀ z ∈ rs,0 <= z /\ z < 100:=fun z hz=>by have:=ok.r z hz; omega
 refine ⟨ok.ul.symm,ok.n8,hr,fun x hx=>?_,by have:=ok.tl; omega,fun t ht=>?_⟩
 . obtain ⟨i,hi,rfl⟩:=List.mem_iff_getElem.mp hx
   have hi' : i < rs.length:=by rw [<- ok.ul]; exact hi
   obtain ⟨h1,h2⟩:=ok.u i hi'
   have:=ok.ri hi'
   rw [List.getD_eq_getElem?_getD,List.getElem?_eq_getElem hi] at h1 h2
   have h1 : ((us[i]).length : Int) = rs.getD i 0:=h1
   exact ⟨by omega,fun z hz=>by have:=h2 z hz; omega⟩
 . obtain ⟨a,b,d,rfl,ha,hb,_,hd⟩:=ok.t t ht
   have:=ok.n8
   refine ⟨by simp,fun z hz=>?_⟩
   simp only [List.mem_cons,List.not_mem_nil,or_false] at hz
   rcases hz with rfl | rfl | rfl <;> omega
def Asc (x : PySem.Str) : Prop:=∀ c ∈ x.cps.toList,c < 128
theorem Asc.app {x y : PySem.Str} (h1 : Asc x) (h2 : Asc y) : Asc (x ++ y):=by
 intro c hc
 have hc : c ∈ (x.cps ++ y.cps).toList:=hc
 rw [Array.toList_append,List.mem_append] at hc
 rcases hc with hc | hc
 . exact h1 c hc
 . exact h2 c hc
theorem Asc.join {x : PySem.Str} (hx : Asc x) : ∀ {ts : List PySem.Str},(∀ t ∈ ts,Asc t) -> Asc (PySem.Str.join x ts)
 | [],_=>fun c hc=>by
   have hc : c ∈ ([] : List Nat):=hc
   cases hc
 | [t],h=>h t (by simp)
 | t :: u :: r,h=>by
   have ih:=Asc.join hx (ts:=u :: r) (fun y hy=>h y (List.mem_cons_of_mem _ hy))
   exact ((h t (by simp)).app hx).app ih
theorem Asc.num (z : Int) : Asc (zS z):=by
 intro c hc
 have:=zga z.toNat
 rw [<- Array.all_toList,List.all_eq_true] at this
 exact of_decide_eq_true (this c hc)
theorem Asc.ok {x : PySem.Str} (h : Asc x) : PyData.strOk x = true:=by
 refine zfH ?_
 rw [<- Array.all_toList,List.all_eq_true]
 exact fun c hc=>decide_eq_true (h c hc)
theorem Asc.wholes (zs : List Int) : Asc (zap zs):=Asc.join (x:=PySem.Str.ofString " ") (by unfold Asc; decide) fun t ht=>by
 obtain ⟨z,_,rfl⟩:=List.mem_map.mp ht
 exact Asc.num z
theorem zdC (rs : List Int) (us ts : List (List Int)) : PyData.strOk (zeF rs us ts) = true:=by
 refine Asc.ok (Asc.join (x:=PySem.Str.ofString "\n") (by unfold Asc; decide) fun t ht=>?_)
 unfold zbp at ht
 rcases List.mem_append.mp ht with ht | ht
 . obtain ⟨i,hi,rfl⟩:=List.mem_iff_getElem.mp ht
   rw [List.getElem_zipWith]
   exact Asc.app (by unfold Asc; decide) (Asc.wholes _)
 . obtain ⟨t,_,rfl⟩:=List.mem_map.mp ht
   exact Asc.app (by unfold Asc; decide) (Asc.wholes _)
def zh2 (K : PySem.W.Frag) : Sp:=fun vs H Q _=>∃ x0,vs = [x0] /\ ∃ (a : Addr) (ns : List Int),x0 = .ref a /\ SqF K H a (ns.map V.int) /\ ns.length <= 63 /\ ∀ H',Q (.bl true) H'
set_option maxHeartbeats 4000000 in
theorem zo5 (T : Txt K mg a) : za5 P w K mg base CX0 8 a.law a.fd_law zj0 (zh2 K):=by
 refine T.d_law.F.ok zgj ?_ ?_
 walk_at "b1"
 have hgd:=hr.gd
 refine ⟨_,(zae (zd2 PassesOwn.never rfl (zbw rfl T.z_range (zaa zaf zab)) (zaj (i:=1) zgj.nd rfl (Or.inl rfl)) (zae (pst 2 zgj.nd (pcl (zjF T) hr T.d_law_web (zaa (pcl (zi7 T) hr T.d_law_pen (zaa (pv 0) (zaa (pv 1) zab))) (zaa zaf zab))))
     (zae (pst 3 zgj.nd (pcx (zgW T) hr T.d_web_of zj7 (zaa (pix (pv 2)) (zaa (pix (pv 2)) (zaa (pix (pv 2)) zab)))))
     (zae (pst 4 zgj.nd (pcl (ziv T) hr T.d_law_text (zaa (pv 2) zab)))
     (zag (zbU (PW.pt (zdW (zbg (show OpR _ (compareOp .NotEq) (zeW K) from zc7 hu) (pcl (ze5 T) hr T.d_show_web (zaa (pv 3) zab)) (pv 4) (zaO _)) (zdW (zbg (show OpR _ (compareOp .NotEq) rNe from zp8) (zai (show zah _ (.builtin "repr") (zjT K) from zfQ hgd hu) rfl T.z_repr zkf (zaa (pcx (zfg T) hr T.d_read_web zj7 (zaa (pv 4) zab)) zab)) (zai (show zah _ (.builtin "repr") (zjT K) from zfQ hgd hu) rfl T.z_repr zkf (zaa (pv 3) zab)) (zaO _)) (zd3 (zbg (show OpR _ (compareOp .NotEq) (zeW K) from zc7 hu) (pcl (ze5 T) hr T.d_show_web (zaa (pcx (zfg T) hr T.d_read_web zj7 (zaa (pv 4) zab)) zab)) (pv 4) (zaO _)))))) (zag (zaq zes)) zaL))))))
     (zag (zaq zes))),?_⟩
 walk_at "cl"
 rw [show start zoE [x0] = [some x0,none,none,none,none] from rfl]
 obtain ⟨a',ns0,rfl,hs,hl,q⟩:=h
 walk_at "gg"
 refine zdM (by decide) (by decide) (fun i σ H'=>(∃ o1 o2 o3 o4,σ = [some (.ref a'),o1,o2,o3,o4]) /\ zaI H H') ⟨⟨_,_,_,_,rfl⟩,zaI.refl _⟩ ?_ ?_
 . rintro i σ H1 hi ⟨⟨o1,o2,o3,o4,rfl⟩,K1⟩
   walk_at "gg"
   refine zjI (K1.sqF hs) hl (by omega) (by omega) (fun p H2 hp2 S2 p2=>?_)
   walk_at "gg"
   refine zjf p2 (by decide) (by decide) (fun vd H3 rs us ts E3 K3 P3 id3 ok=>?_)
   have K03 : zaI H H3:=K1.trans (S2.keep.trans K3)
   walk_at "gg"
   refine zhw id3 (fun y0 j0=>?_)
   walk_at "gg"
   refine zhJ id3 (fun y1 j1=>?_)
   walk_at "gg"
   refine zhK id3 (fun y2 j2=>?_)
   walk_at "gg"
   refine zg9 (zml j0 j1 j2 ok) (fun vw H4 ts1 S4 pm1 so1 iw=>?_)
   walk_at "gg"
   refine ziP (id3.by S4) ok (zeE ok) (fun H5 ts2 S5 pm2 so2=>?_)
   have e12 : ts2 = ts1:=zaR.uniq so2 so1 (pm2.trans pm1.symm)
   subst e12
   have ok':=ok.perm pm2
   have K05 : zaI H H5:=K03.trans (S4.trans S5).keep
   walk_at "gg"
   refine zfp (iw.by S5) (zeE ok') (fun H6 S6=>?_)
   walk_at "gg"
   refine zgk (zdC _ _ _) (zdC _ _ _) ?_
   rw [beq_self_eq_true]
   walk_at "gg"
   refine zfi ok' (zeE ok') so2 (fun v7 H7 S7 i7=>?_)
   walk_at "gg"
   refine zj8 i7 rfl (zlC ok') (by decide) (by decide) ?_
   walk_at "gg"
   refine zj8 ((iw.by S5).by (S6.trans S7)) rfl (zlC ok') (by decide) (by decide) ?_
   refine zjO ?_
   walk_at "gg"
   refine zfi ok' (zeE ok') so2 (fun v8 H8 S8 i8=>?_)
   walk_at "gg"
   refine zfp i8 (zeE ok') (fun H9 S9=>?_)
   walk_at "gg"
   refine zgk (zdC _ _ _) (zdC _ _ _) ?_
   rw [beq_self_eq_true]
   walk_at "gg"
   exact ⟨⟨_,_,_,_,rfl⟩,K05.trans (S6.trans (S7.trans (S8.trans S9))).keep⟩
 . rintro σ H1 ⟨⟨o1,o2,o3,o4,rfl⟩,K1⟩
   show tl_ _ _ _
   walk_at "tl"
   walk_at "gg"
   exact q _
end
end G
namespace G
open PySem PySem.Spec PyProof.Rows L2 GM
theorem zoD {us : List Value} (h : us.length = 1) : ∃ a,us = [a]:=by
 cases us with
 | nil=>cases h
 | cons a t=>exact ⟨a,by rw [List.length_eq_zero_iff.mp (Nat.succ.inj h)]⟩
theorem zoK {us : List Value} (h : us.length = 2) : ∃ a0 a1,us = [a0,a1]:=by
 cases us with
 | nil=>cases h
 | cons a0 t =>
   obtain ⟨a1,e⟩:=zoD (Nat.succ.inj h)
   exact ⟨a0,a1,by rw [e]⟩
theorem zqd {us : List Value} (h : us.length = 3) : ∃ a0 a1 a2,us = [a0,a1,a2]:=by
 cases us with
 | nil=>cases h
 | cons a0 t =>
   obtain ⟨a1,a2,e⟩:=zoK (Nat.succ.inj h)
   exact ⟨a0,a1,a2,by rw [e]⟩
inductive FnK (K : PySem.W.Frag) (n : Str) (st : Stmt) (f : Addr) : Prop
 | mk {od an : Option Addr} {sl : Array (Option Value)} {oc kV dc pm cd ct : Value} (a : PySem.W.nsIn K mainGlobals n = some (some (.ref f))) (l : K.lookup f = some ⟨oc,od,.func (PySem.W.fnOf n n (zdz st) (zch st) (zac st) .none kV dc pm an cd ct),sl⟩) (c : PySem.W.codeIn K cd n = true) (k : PySem.W.keepIn K (.ref f) = true) : FnK K n st f
theorem FnK.dn {K : PySem.W.Frag} {h : Heap} {mg : Str -> Option Value} {n : Str} {st : Stmt} {f : Addr} {ps : List Str} (A : FnK K n st f) (X : K.In h) (G : h.Ns mainGlobals mg)
   (b : ∀ (kV doc pm : Value) (an : Option Addr) (cdv ct : Value) (us : List Value),us.length = ps.length -> bindArgs (PySem.W.fnOf n n (zdz st) (zch st) (zac st) .none kV doc pm an cdv ct) ⟨us,[]⟩ = pure (ps.zip us)) : ∃ fd,Dn K mg n st ps f fd:=by
 obtain ⟨a,l,c,k⟩:=A
 have F:=zmv (st:=st) l c k
 exact ⟨_,F,PySem.W.mg_of X G a,F.binds b⟩
set_option hygiene false in
local macro_rules | `(tactic| walk_at "bd")=>`(tactic| (intro _ _ _ _ _ _ us hl; first | (obtain ⟨_,rfl⟩:=zoD hl; rfl) | (obtain ⟨_,_,rfl⟩:=zoK hl; rfl) | (obtain ⟨_,_,_,rfl⟩:=zqd hl; rfl)))
set_option maxHeartbeats 8000000 in
theorem all_mk {l : PySem.W.OpenLaw} {w : World} {K : PySem.W.Frag} {h : Heap} {mg : Str -> Option Value} {fa : Addr} (X : K.In h) (G : h.Ns mainGlobals mg) (hfa : mg "law" = some (.ref fa))
   {f0 f1 f2 f3 f4 f5 f6 f7 f8 f9 f10 f11 f12 f13 f14 f15 f16 f17 f18 f19 f20 f21 f22 f23 : Addr}
   {e0 : Addr}
   {e1 : Addr}
   {tk0 : Tok}
   {tk1 : Tok}
   {tk2 : Tok}
   {tk3 : Tok}
   {tk4 : Tok}
   {tk5 : Tok}
   {tk6 : Tok}
   (a0 : FnK K "is_whole" zed f0)
   (a1 : FnK K "is_whole_from" zbR f1)
   (a2 : FnK K "is_listed" zdi f2)
   (a3 : FnK K "are_whole_from" za9 f3)
   (a4 : FnK K "are_rounds" zc1 f4)
   (a5 : FnK K "are_ups" zdE f5)
   (a6 : FnK K "is_tie" zfI f6)
   (a7 : FnK K "are_ties" zb7 f7)
   (a8 : FnK K "web_of" zdm f8)
   (a9 : FnK K "show_wholes" zbF f9)
   (a10 : FnK K "show_web" zbn f10)
   (a11 : FnK K "is_whole_text" zbi f11)
   (a12 : FnK K "wholes_in" zbK f12)
   (a13 : FnK K "parts_of" zd5 f13)
   (a14 : FnK K "lines_of" zcX f14)
   (a15 : FnK K "lines_with" zbY f15)
   (a16 : FnK K "are_ties_in_order" zaE f16)
   (a17 : FnK K "read_web" zbz f17)
   (a18 : FnK K "_law_pen" zeJ f18)
   (a19 : FnK K "_law_draw" zd8 f19)
   (a20 : FnK K "_law_ties" zcT f20)
   (a21 : FnK K "_law_web" zcz f21)
   (a22 : FnK K "_law_text" zb6 f22)
   (a23 : FnK K "law" zkb f23)
   (n_NoWeb : PySem.W.nsIn K mainGlobals "NoWeb" = some (some (.ref e0)))
   (n_NoText : PySem.W.nsIn K mainGlobals "NoText" = some (some (.ref e1)))
   (z_all : PySem.W.nsIn K mainGlobals "all" = some none)
   (z_bool : PySem.W.nsIn K mainGlobals "bool" = some none)
   (z_int : PySem.W.nsIn K mainGlobals "int" = some none)
   (z_isinstance : PySem.W.nsIn K mainGlobals "isinstance" = some none)
   (z_len : PySem.W.nsIn K mainGlobals "len" = some none)
   (z_list : PySem.W.nsIn K mainGlobals "list" = some none)
   (z_min : PySem.W.nsIn K mainGlobals "min" = some none)
   (z_range : PySem.W.nsIn K mainGlobals "range" = some none)
   (z_repr : PySem.W.nsIn K mainGlobals "repr" = some none)
   (z_set : PySem.W.nsIn K mainGlobals "set" = some none)
   (z_sorted : PySem.W.nsIn K mainGlobals "sorted" = some none)
   (z_str : PySem.W.nsIn K mainGlobals "str" = some none)
   (z_tuple : PySem.W.nsIn K mainGlobals "tuple" = some none)
   (z_zip : PySem.W.nsIn K mainGlobals "zip" = some none)
   (h_x_NoWeb : PySem.W.excIn K e0 zia "ValueError.__new__" = true)
   (h_x_NoText : PySem.W.excIn K e1 zia "ValueError.__new__" = true)
   (q0 : PySem.W.nsIn K mainGlobals "MOST_WORMS" = some (some (.int 8 tk0)))
   (q1 : PySem.W.nsIn K mainGlobals "MOST_ROUND" = some (some (.int 60 tk1)))
   (q2 : PySem.W.nsIn K mainGlobals "MOST_UP" = some (some (.int 60 tk2)))
   (q3 : PySem.W.nsIn K mainGlobals "MOST_TIES" = some (some (.int 60 tk3)))
   (q4 : PySem.W.nsIn K mainGlobals "MOST_DELAY" = some (some (.int 4 tk4)))
   (q5 : PySem.W.nsIn K mainGlobals "FIGURES" = some (some (.str "0123456789" tk5)))
   (q6 : PySem.W.nsIn K mainGlobals "WHOLE_FIGURES" = some (some (.int 2 tk6)))
   : ∃ fd : FuncData,(∀ (s : Shared) (v : Value),BindsTo s fd ⟨[v],[]⟩ [("_law_script",v)]) /\ ∀ base : Heap,K.In base -> base.Ns mainGlobals mg -> za5 l.prog w K mg base CX0 8 fa fd ["_law_script"] (zh2 K):=by
 obtain ⟨aL,lL,cL,kL⟩:=a23
 cases hfa.symm.trans (PySem.W.mg_of X G aL)
 have FL:=zmv (st:=zkb) lL cL kL
 have D23 : Dn K mg _ _ zj0 _ _:=⟨FL,PySem.W.mg_of X G aL,FL.binds (by walk_at "bd")⟩
 have ⟨_,D0⟩:=a0.dn (ps:=zcH) X G (by walk_at "bd")
 have ⟨_,D1⟩:=a1.dn (ps:=zbh) X G (by walk_at "bd")
 have ⟨_,D2⟩:=a2.dn (ps:=zcn) X G (by walk_at "bd")
 have ⟨_,D3⟩:=a3.dn (ps:=zba) X G (by walk_at "bd")
 have ⟨_,D4⟩:=a4.dn (ps:=zbX) X G (by walk_at "bd")
 have ⟨_,D5⟩:=a5.dn (ps:=zdx) X G (by walk_at "bd")
 have ⟨_,D6⟩:=a6.dn (ps:=zeD) X G (by walk_at "bd")
 have ⟨_,D7⟩:=a7.dn (ps:=zcU) X G (by walk_at "bd")
 have ⟨_,D8⟩:=a8.dn (ps:=zez) X G (by walk_at "bd")
 have ⟨_,D9⟩:=a9.dn (ps:=zbG) X G (by walk_at "bd")
 have ⟨_,D10⟩:=a10.dn (ps:=zcZ) X G (by walk_at "bd")
 have ⟨_,D11⟩:=a11.dn (ps:=zbl) X G (by walk_at "bd")
 have ⟨_,D12⟩:=a12.dn (ps:=zcm) X G (by walk_at "bd")
 have ⟨_,D13⟩:=a13.dn (ps:=zcM) X G (by walk_at "bd")
 have ⟨_,D14⟩:=a14.dn (ps:=zcV) X G (by walk_at "bd")
 have ⟨_,D15⟩:=a15.dn (ps:=zb1) X G (by walk_at "bd")
 have ⟨_,D16⟩:=a16.dn (ps:=zaN) X G (by walk_at "bd")
 have ⟨_,D17⟩:=a17.dn (ps:=zcK) X G (by walk_at "bd")
 have ⟨_,D18⟩:=a18.dn (ps:=zdO) X G (by walk_at "bd")
 have ⟨_,D19⟩:=a19.dn (ps:=zcO) X G (by walk_at "bd")
 have ⟨_,D20⟩:=a20.dn (ps:=zcN) X G (by walk_at "bd")
 have ⟨_,D21⟩:=a21.dn (ps:=zdy) X G (by walk_at "bd")
 have ⟨_,D22⟩:=a22.dn (ps:=zcJ) X G (by walk_at "bd")
 have T : Txt K mg ⟨f0,_,f1,_,f2,_,f3,_,f4,_,f5,_,f6,_,f7,_,f8,_,f9,_,f10,_,f11,_,f12,_,f13,_,f14,_,f15,_,f16,_,f17,_,f18,_,f19,_,f20,_,f21,_,f22,_,_,_,e0,e1⟩:=⟨D0,
   D1,
   D2,
   D3,
   D4,
   D5,
   D6,
   D7,
   D8,
   D9,
   D10,
   D11,
   D12,
   D13,
   D14,
   D15,
   D16,
   D17,
   D18,
   D19,
   D20,
   D21,
   D22,
   D23,
   PySem.W.mg_none_of X G z_all,
   PySem.W.mg_none_of X G z_bool,
   PySem.W.mg_none_of X G z_int,
   PySem.W.mg_none_of X G z_isinstance,
   PySem.W.mg_none_of X G z_len,
   PySem.W.mg_none_of X G z_list,
   PySem.W.mg_none_of X G z_min,
   PySem.W.mg_none_of X G z_range,
   PySem.W.mg_none_of X G z_repr,
   PySem.W.mg_none_of X G z_set,
   PySem.W.mg_none_of X G z_sorted,
   PySem.W.mg_none_of X G z_str,
   PySem.W.mg_none_of X G z_tuple,
   PySem.W.mg_none_of X G z_zip,
   PySem.W.mg_of X G n_NoWeb,
   PySem.W.mg_of X G n_NoText,
   h_x_NoWeb,
   h_x_NoText,
   ⟨_,PySem.W.mg_of X G q0⟩,
   ⟨_,PySem.W.mg_of X G q1⟩,
   ⟨_,PySem.W.mg_of X G q2⟩,
   ⟨_,PySem.W.mg_of X G q3⟩,
   ⟨_,PySem.W.mg_of X G q4⟩,
   ⟨_,PySem.W.mg_of X G q5⟩,
   ⟨_,PySem.W.mg_of X G q6⟩⟩
 exact ⟨_,fun s v=>.of_eq rfl,fun base _ _=>zo5 T⟩
theorem walk {l : PySem.W.OpenLaw} {q : Program} {loose : List Str} {XP : (Str -> Option Value) -> Heap -> Prop} {YP : World -> Heap -> Prop} {d : DefRec} {K : Params -> PySem.W.Frag} (hn : l.most = some 63) (hdf : d.params.defaults = [])
   (hY : ∀ (w : World) (h : Heap),YP w h -> (K w.params).In h)
   (F : ∀ (w : World) (mg : Str -> Option Value) (fa : Addr) (h : Heap),(K w.params).In h -> h.Ns mainGlobals mg -> mg d.name = some (.ref fa) ->
     ∃ fd : FuncData,(∀ (s : Shared) (u : Value),BindsTo s fd ⟨[u],[]⟩ [("_law_script",u)]) /\ ∀ base : Heap,(K w.params).In base -> base.Ns mainGlobals mg -> za5 l.prog w (K w.params) mg base CX0 8 fa fd ["_law_script"] (zh2 (K w.params))) :
   PySem.W.WalkO q loose XP YP l.row.toRowW d [] (fun f vs=>PySem.call f vs) :=
 L2.walk_of (n:=63) (k:=8) (x:="_law_script") (CX:=fun _=>CX0) (sp:=fun w=>zh2 (K w.params)) hn (by decide) hdf ⟨rfl,by decide,by decide,rfl⟩ hY F (fun _ H a ns hl hO hS=>⟨.ref a,rfl,a,ns,rfl,zpg hO hS,hl,fun _=>rfl⟩) fun _ _ _ _ _ z=>z
end G
local macro_rules | `(tactic| walk_at "fk")=>`(tactic| (refine' G.FnK.mk ?a ?l ?c ?k; (case a=>k_is); (case l=>k_is); (case c=>k_is); (case k=>k_is)))
open PySem PySem.W PyProof.Rows
set_option maxRecDepth 100000 in
set_option maxHeartbeats 0 in
theorem PySem.Challenge.cw_glowflock_k56_webs_written_and_read_holds : PySem.Challenge.rw_glowflock_k56_webs_written_and_read.Holds := by
 w_on; refine GH.head ?_
 k_fill
 refine G.walk (l:=PySem.Challenge.rw_glowflock_k56_webs_written_and_read) rfl rfl (fun w h Y=>PySem.W.kIn_of Y) ?F
 case F =>
   intro w mg fa h KX GG hmg
   refine' G.all_mk KX GG hmg ?a0 ?a1 ?a2 ?a3 ?a4 ?a5 ?a6 ?a7 ?a8 ?a9 ?a10 ?a11 ?a12 ?a13 ?a14 ?a15 ?a16 ?a17 ?a18 ?a19 ?a20 ?a21 ?a22 ?a23 ?n_NoWeb ?n_NoText ?z_all ?z_bool ?z_int ?z_isinstance ?z_len ?z_list ?z_min ?z_range ?z_repr ?z_set ?z_sorted ?z_str ?z_tuple ?z_zip ?h_x_NoWeb ?h_x_NoText ?q0 ?q1 ?q2 ?q3 ?q4 ?q5 ?q6
   (case a0=>walk_at "fk")
   (case a1=>walk_at "fk")
   (case a2=>walk_at "fk")
   (case a3=>walk_at "fk")
   (case a4=>walk_at "fk")
   (case a5=>walk_at "fk")
   (case a6=>walk_at "fk")
   (case a7=>walk_at "fk")
   (case a8=>walk_at "fk")
   (case a9=>walk_at "fk")
   (case a10=>walk_at "fk")
   (case a11=>walk_at "fk")
   (case a12=>walk_at "fk")
   (case a13=>walk_at "fk")
   (case a14=>walk_at "fk")
   (case a15=>walk_at "fk")
   (case a16=>walk_at "fk")
   (case a17=>walk_at "fk")
   (case a18=>walk_at "fk")
   (case a19=>walk_at "fk")
   (case a20=>walk_at "fk")
   (case a21=>walk_at "fk")
   (case a22=>walk_at "fk")
   (case a23=>walk_at "fk")
   (case n_NoWeb=>k_is)
   (case n_NoText=>k_is)
   (case z_all=>k_is)
   (case z_bool=>k_is)
   (case z_int=>k_is)
   (case z_isinstance=>k_is)
   (case z_len=>k_is)
   (case z_list=>k_is)
   (case z_min=>k_is)
   (case z_range=>k_is)
   (case z_repr=>k_is)
   (case z_set=>k_is)
   (case z_sorted=>k_is)
   (case z_str=>k_is)
   (case z_tuple=>k_is)
   (case z_zip=>k_is)
   (case h_x_NoWeb=>k_exc)
   (case h_x_NoText=>k_exc)
   (case q0=>k_is)
   (case q1=>k_is)
   (case q2=>k_is)
   (case q3=>k_is)
   (case q4=>k_is)
   (case q5=>k_is)
   (case q6=>k_is)
#print axioms PySem.Challenge.cw_glowflock_k56_webs_written_and_read_holds
