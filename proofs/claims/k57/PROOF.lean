import PyProof.Rows.All
import Wide.All
import OpenK.AllK
import Wide.FinOn
import Lean
import PyProof.EqAt
import PyProof.EqKinds
import PyProof.TupleCall
import PyProof.P3In
import PyProof.ReprLen
import PyProof.ReprRoads
import PyProof.CallStr
import PyProof.StrCalls2
import PyProof.StrLawsJoin
import PyProof.ReprLen
import PyProof.ReprRoads
import PyProof.StrLawsTight
import PyProof.StrLawsJoin
import PyProof.StrCalls3
import PyProof.StrLoop
import PyProof.StrWalks
import PyProof.FString
import PyProof.Conv_int
import PyProof.Rows.StrLawsPart
import PyProof.Rows.StrFirst
import PyProof.StrCalls5
import PyProof.StrCalls
import PyProof.SliceStr2
import PyProof.StrLawsIdx
import PyProof.ReprLen
import PyProof.ReprRoads
import PySem.Challenge.RW_glowflock_k57_papers_written_and_read
set_option compiler.extract_closed false
set_option Elab.async false
set_option linter.all false
set_option maxRecDepth 100000
namespace GH
open PySem PySem.W PyProof.Rows
noncomputable def zoY (p : Program) (w : World) (m : Nat) (an : Option Value) (N : Nat) (s0 : Shared) : Option Shared :=
 Option.bind (Fast.tw14082659384304107361 Fast.tw14364793385576792824 p w m an N s0 (topStub p)) fun s1=>match staticsOk (Fast.tw5923862056798008813 p.main.body) s0.heap s1.heap && namesBound p s1.heap && gensDone s1 && laidKept s0.heap s1.heap with | true=>some s1 | false=>none
noncomputable def zpG (w : World) (os : OsState) : Shared:=⟨boot_heap w.params,#[],boot_drawn,boot_toks,os⟩
theorem left_once {p q : Program} {loose : List Str} {Xt : Shared -> Bool} {A : Type} {Yf : Shared -> A} {Ya : World -> A} {N : Nat} (e : opening p = plainProg p.main.scope.names) (hN : Nat.ble 600 N = true) (f : ∀ s,fenceModules? p s = some s) {m : Nat} {an : Option Value}
   (size : ∀ w : World,((boot_heap w.params).isNs mainGlobals,(boot_heap w.params).objs.size,(boot_heap w.params).nsMap mainGlobals "__annotations__") = (true,m,an))
   (h : ∀ w : World,(fun os=>(zoY p w m an N (zpG w os)).map (fun s=>(Fast.tw4187177175401517315 q loose (Fast.tw5923862056798008813 p.main.body) Xt true s,Yf s))) = fun _=>some (openGood q loose,Ya w)) : LeftO p q loose Xt Yf Ya N:=fun w=>by
 obtain ⟨⟨h',gs,d,k,os⟩,e',e2⟩:=Option.map_eq_some_iff.mp (boot_open e hN f (w:=w))
 obtain ⟨rfl,rfl,rfl,rfl⟩ : h' = boot_heap w.params /\ gs = #[] /\ d = boot_drawn /\ k = boot_toks:=by simpa using e2
 obtain ⟨z1,z2,z3⟩ : _ /\ _ /\ _:=by simpa only [Prod.mk.injEq] using size w
 have r:=congrFun (h w) os
 unfold openEnds
 rw [e']
 show Option.map _ (topFrom treeTable p w N _) = _
 rw [<- r]
 unfold topFrom zoY zpG
 rw [<- Fast.te14082659384304107361,<- Fast.te14364793385576792824,<- Fast.te5923862056798008813,<- Fast.te4187177175401517315]
 dsimp only
 rw [z1,z2,z3]
 rfl
def qv : Program:=view PySem.Challenge.pw_glowflock_k57_papers_written_and_read [1,2,4,5,6,7,8,9,11,12,13,14,15,16,18,19,20,21,22,23,24,25,26,27,28,29,30,31,32,34,35,36,37,38,39,40,41,42,43]
theorem said : PySem.Challenge.rw_glowflock_k57_papers_written_and_read.wellSaid = true:=by kernel_rfl
theorem size (w : World) : ((boot_heap w.params).isNs mainGlobals,(boot_heap w.params).objs.size,(boot_heap w.params).nsMap mainGlobals "__annotations__") = (true,11,some (.ref 6)):=by kernel_rfl
local macro_rules | `(tactic| o_head $H)=>`(tactic| (refine holds_open (q:=GH.qv) (loose:=[]) (Xt:=fun s=>xlAt GH.qv [] s && recOk (RowW.records (OpenRow.toRowW (OpenLaw.row PySem.Challenge.rw_glowflock_k57_papers_written_and_read))) s) (XP:=XL GH.qv []) (Yf:=Hook.obs $H) (Ya:=Hook.val $H) (YP:=Hook.says $H) (N:=2916) ?hl (Hook.of $H) (Hook.keeps $H) (fun s e=>xl_of s (Bool.and_eq_true_iff.mp e).1) XL.keeps (by rfl) (by rfl) (by rfl) (fun s e=>recFacts_of (Bool.and_eq_true_iff.mp e).2) (by rfl) (by first | assumption | decide +kernel) (by decide +kernel) ⟨rfl,rfl,rfl,rfl,rfl,by decide +kernel⟩ ?hw ?hc; (case hl=>refine GH.left_once (by kernel_rfl) rfl (fun s=>by kernel_rfl) GH.size ?_; intro w; kernel_rfl)))
local macro_rules | `(tactic| o_law)=>`(tactic| refine holds_law GH.said fun said=>?_)
set_option maxHeartbeats 0
open_top head for PySem.Challenge.rw_glowflock_k57_papers_written_and_read
end GH
set_option maxHeartbeats 200000
set_option Elab.async false
set_option linter.all false
set_option maxRecDepth 100000
namespace L2
open PySem PySem.Spec PyProof.Rows
abbrev Key:=Sum Int Str
def znh : Key -> Value -> Bool
 | .inl k,v=>Value.isInt k v
 | .inr x,v=>Value.isStrOf x v
def zpI (w : World) : Key -> Int
 | .inl k=>hashInt k
 | .inr x=>hashStr w x
theorem zaO : ∀ {k : Key} {v : Value},znh k v = true -> (∃ i t,k = Sum.inl i /\ v = Value.int i t) \/ (∃ x t,k = Sum.inr x /\ v = Value.str x t)
 | .inl i,v,h=>by
   obtain ⟨t,e⟩:=Value.isInt_shape (k:=i) (v:=v) h
   exact .inl ⟨i,t,rfl,e⟩
 | .inr x,v,h=>by
   obtain ⟨t,e⟩:=Value.isStrOf_shape (x:=x) (v:=v) h
   exact .inr ⟨x,t,rfl,e⟩
theorem zod (a b : Int) : decide ((Sum.inl a : Key) = Sum.inl b) = (a == b):=by
 by_cases e : a = b
 . subst e; simp
 . have h : ¬ (Sum.inl a : Key) = Sum.inl b:=fun q=>e (Sum.inl.inj q)
   rw [decide_eq_false h]
   exact (beq_eq_false_iff_ne.mpr e).symm
theorem znP (a b : Str) : decide ((Sum.inr a : Key) = Sum.inr b) = decide (a = b):=by
 by_cases e : a = b
 . subst e; simp
 . have h : ¬ (Sum.inr a : Key) = Sum.inr b:=fun q=>e (Sum.inr.inj q)
   rw [decide_eq_false h,decide_eq_false e]
theorem zoS (a : Int) (b : Str) : decide ((Sum.inl a : Key) = Sum.inr b) = false:=decide_eq_false (fun q=>nomatch q)
theorem znH (a : Str) (b : Int) : decide ((Sum.inr a : Key) = Sum.inl b) = false:=decide_eq_false (fun q=>nomatch q)
def zhd (prog : Program) (w : World) : PySem.KeyKind prog w Key where
 is:=znh
 hash:=zpI w
 inj:=fun v a b ha hb=>by
   rcases zaO ha with ⟨i,t,rfl,rfl⟩ | ⟨x,t,rfl,rfl⟩
   . rcases zaO hb with ⟨j,u,rfl,e⟩ | ⟨y,u,rfl,e⟩
     . injection e with e1 _; rw [e1]
     . exact nomatch e
   . rcases zaO hb with ⟨j,u,rfl,e⟩ | ⟨y,u,rfl,e⟩
     . exact nomatch e
     . injection e with e1 _; rw [e1]
 byValue:=fun k v h=>by
   rcases zaO h with ⟨i,t,rfl,rfl⟩ | ⟨x,t,rfl,rfl⟩ <;> rfl
 pyHash:=fun hv h=>by
   rcases zaO hv with ⟨i,t,rfl,rfl⟩ | ⟨x,t,rfl,rfl⟩
   . exact wpAny_pyHash_int h
   . exact wpAny_pyHash_str h
 eqBool:=fun hu hv h=>by
   rcases zaO hu with ⟨i,t,rfl,rfl⟩ | ⟨x,t,rfl,rfl⟩
   . rcases zaO hv with ⟨j,u,rfl,rfl⟩ | ⟨y,u,rfl,rfl⟩
     . rw [zod] at h; exact wpAny_eqBool_int h
     . rw [zoS] at h; exact SeqAt.EqAt.int_str i t y u _ _ _ _ h
   . rcases zaO hv with ⟨j,u,rfl,rfl⟩ | ⟨y,u,rfl,rfl⟩
     . rw [znH] at h; exact SeqAt.EqAt.str_int x t j u _ _ _ _ h
     . rw [znP] at h; exact wpAny_eqBool_str h
 «strs»:=fun k x t v h=>by
   rcases zaO h with ⟨i,u,rfl,e⟩ | ⟨y,u,rfl,e⟩
   . exact nomatch e
   . injection e with e1 _
     subst e1
     cases v <;> rfl
end L2
namespace L2
open PySem PySem.Spec PyProof.Rows
inductive V where
 | non | bl (b : Bool) | int (i : Int) | str (x : Str) | byt (b : Array UInt8) | flt (b : UInt64) | ref (a : Addr) | ty (n : String)
 deriving DecidableEq
def zaD : V -> Value -> Prop
 | .non,u=>u = Value.none
 | .bl b,u=>u = Value.bool b
 | .int i,u=>∃ t,u = Value.int i t
 | .str x,u=>∃ t,u = Value.str x t
 | .byt b,u=>∃ t,u = Value.bytes b t
 | .flt b,u=>∃ t,u = Value.float b t
 | .ref a,u=>u = Value.ref a
 | .ty n,u=>u = Value.type n
abbrev zap : List V -> List Value -> Prop:=Paired zaD
theorem zap.length {xs : List V} {us : List Value} (r : zap xs us) : xs.length = us.length:=Paired.length r
theorem zap.get : ∀ {xs : List V} {us : List Value} {i : Nat} {x : V},zap xs us -> xs[i]? = some x -> ∃ u,us[i]? = some u /\ zaD x u
 | _,_,_,_,.nil,e=>by simp at e
 | _,_,0,_,.cons r _,e=>by simp at e; subst e; exact ⟨_,rfl,r⟩
 | _,_,i + 1,x,.cons _ t,e=>by
   obtain ⟨u,h1,h2⟩:=zap.get (i:=i) (x:=x) t (by simpa using e)
   exact ⟨u,by simpa using h1,h2⟩
theorem zap.set {x : V} {u : Value} (r : zaD x u) : ∀ {xs : List V} {us : List Value} (i : Nat),zap xs us -> zap (xs.set i x) (us.set i u)
 | _,_,_,.nil=>.nil
 | _,_,0,.cons _ t=>.cons r t
 | _,_,i + 1,.cons q t=>.cons q (zap.set r i t)
theorem zap.append : ∀ {xs ys : List V} {us ws : List Value},zap xs us -> zap ys ws -> zap (xs ++ ys) (us ++ ws)
 | _,_,_,_,.nil,s=>s
 | _,_,_,_,.cons r t,s=>.cons r (zap.append t s)
theorem zap.take : ∀ {xs : List V} {us : List Value} (n : Nat),zap xs us -> zap (xs.take n) (us.take n)
 | _,_,0,_=>.nil
 | _,_,_ + 1,.nil=>.nil
 | _,_,n + 1,.cons r t=>.cons r (zap.take n t)
theorem zap.drop : ∀ {xs : List V} {us : List Value} (n : Nat),zap xs us -> zap (xs.drop n) (us.drop n)
 | _,_,0,r=>r
 | _,_,_ + 1,.nil=>.nil
 | _,_,n + 1,.cons _ t=>zap.drop n t
def zpg : Option V -> Option Value -> Prop
 | some v,some u=>zaD v u
 | none,none=>True
 | _,_=>False
def KV {κ : Type} : List (κ × V) -> List (κ × Value) -> Prop:=Paired fun (p : κ × V) (q : κ × Value)=>p.1 = q.1 /\ zaD p.2 q.2
def kV : Key -> V
 | .inl i=>.int i
 | .inr x=>.str x
inductive HO where
 /-- a list -/
 | lst (xs : List V)
 /-- a tuple (never changes) -/
 | tup (xs : List V)
 /-- a dict whose keys are ints and texts; one whose keys are tuples of ints and texts (the empty one is both) -/
 | dK (kvs : List (Key × V)) | dT (kvs : List (List Key × V))
 /-- a set of ints: its members,its size -/
 | set (S : Int -> Bool) (n : Nat)
 /-- an instance of the class at C,its dict at dx,its attributes -/
 | ins (C dx : Addr) (fs : List (Str × V))
 /-- the dict of the instance at x -/
 | own (x : Addr)
 /-- the dict of an exception -/
 | xd (fs : List (Str × V))
 /-- a bound method,f of x -/
 | met (f x : Addr)
 /-- a range object lo,lo + 1,.. below hi -/
 | rng (lo hi : Int)
 /-- a thing that is known to the object (the script; a dict while a loop walks it): read,never written while it is so -/
 | frz (o : Obj) (u : HO)
 /-- a code object's table -/
 | tbl (ps : Array Value)
 /-- any other thing,by what is true of its one object (a def of one's own: SetO a S n:=HO.ext fun h=>..) -/
 | ext (φ : Heap -> Prop)
abbrev Hp:=Addr -> Option HO
def upd (H : Hp) (a : Addr) (o : HO) : Hp:=fun b=>if b = a then some o else H b
theorem zas {H : Hp} {a : Addr} {o : HO} : upd H a o a = some o:=by unfold upd; rw [if_pos rfl]
theorem za6 {H : Hp} {a b : Addr} {o : HO} (h : b ≠ a) : upd H a o b = H b:=by unfold upd; rw [if_neg h]
theorem znA {H : Hp} {a b : Addr} {o u : HO} (h : H a = some o) (h' : H b = some u) (d : o ≠ u) : a ≠ b:=by
 intro e; subst e; rw [h] at h'; exact d (Option.some.inj h')
theorem zaF {H : Hp} {a b : Addr} {o : HO} (h : H a = some o) (h' : H b = none) : a ≠ b:=by
 intro e; subst e; rw [h] at h'; cases h'
section
variable (P : Program) (w : World)
def zbE (H : Hp) (h : Heap) (a : Addr) : HO -> Prop
 | .lst xs=>xs.length <= sizeLine /\ ∃ (its : List Value) (n : Nat),zap xs its /\ h.get? a = some { cls:=.type "list",data:=.seq its.toArray n }
 | .tup xs=>xs.length <= sizeLine /\ ∃ its : List Value,zap xs its /\ IsTup h a its.toArray
 | .dK kvs=>kvs.length <= sizeLine /\ (a == sysModules) = false /\ ∃ vs,KV kvs vs /\ h.DictOf (zhd P w) a vs
 | .dT kvs=>kvs.length <= sizeLine /\ (a == sysModules) = false /\ ∃ xs : List (List Key × Addr × Value),
     Paired (fun (p : List Key × V) (q : List Key × Addr × Value)=>p.1 = q.1 /\ H q.2.1 = some (.tup (p.1.map kV)) /\ zaD p.2 q.2.2) kvs xs /\
     ∃ o es ep,h.get? a = some o /\ o.ExactDict /\ o.data = .dict es ep /\ es.toList = xs.map (entryOfKey (tupleKind (zhd P w))) /\ (xs.map (·.1)).Nodup
 | .set S n=>h.SetOf (intKind P w) a S n
 | .ins C dx fs=>H dx = some (.own a) /\ fs.length <= 1000 /\ dx ≠ a /\ h.get? a = some (PySem.W.instObj C dx) /\
     ∃ mA,h.Ns1 dx mA /\ (∀ f,zpg (fs.lookup f) (mA f)) /\ PySem.Within mA (fs.map (·.1))
 | .own _=>∃ o,h.get? a = some o
 | .xd fs=>∃ mA,h.Ns1 a mA /\ ∀ f,zpg (fs.lookup f) (mA f)
 | .rng lo hi=>∃ t u v,h.get? a = some { cls:=.type "range",data:=.fields #[.int lo t,.int hi u,.int 1 v] }
 | .frz o u=>h.get? a = some o /\ zbE H h a u
 | .tbl ps=>h.get? a = some { cls:=.none,data:=.fields ps }
 | .met f x=>h.get? a = some (PySem.W.methodObj (.ref f) (.ref x))
 | .ext φ=>φ h /\ (∃ o,h.get? a = some o) /\ ∀ h1 h2 : Heap,φ h1 -> (∀ o,h1.get? a = some o -> h2.get? a = some o) -> φ h2
def HOk (H : Hp) (h : Heap) : Prop:=∀ a o,H a = some o -> zbE P w H h a o
end
section
variable {P : Program} {w : World} {H H' : Hp} {h h' : Heap} {a : Addr} {o : HO}
theorem zbE.lt (x : zbE P w H h a o) : a < h.objs.size:=by
 cases o with
 | lst xs=>obtain ⟨_,_,_,_,e⟩:=x; exact Heap.lt_size e
 | tup xs=>obtain ⟨_,_,_,p⟩:=x; exact p.lt
 | dK kvs=>obtain ⟨_,_,_,_,o,_,_,e,_⟩:=x; exact Heap.lt_size e
 | dT kvs=>obtain ⟨_,_,_,_,o,_,_,e,_⟩:=x; exact Heap.lt_size e
 | set S n=>obtain ⟨o,_,_,_,e,_⟩:=x; exact Heap.lt_size e
 | ins C dx fs=>obtain ⟨_,_,_,e,_⟩:=x; exact Heap.lt_size e
 | own y=>obtain ⟨_,e⟩:=x; exact Heap.lt_size e
 | xd fs=>obtain ⟨_,⟨_,_,_,e,_⟩,_⟩:=x; exact Heap.lt_size e
 | rng lo hi=>obtain ⟨_,_,_,e⟩:=x; exact Heap.lt_size e
 | frz ob u=>obtain ⟨e,_⟩:=x; exact Heap.lt_size e
 | tbl ps=>exact Heap.lt_size (show h.get? a = some _ from x)
 | met f y=>exact Heap.lt_size (show h.get? a = some _ from x)
 | ext φ=>obtain ⟨_,⟨_,e⟩,_⟩:=x; exact Heap.lt_size e
theorem Paired.mapP {α β : Type} {F G : α -> β -> Prop} : ∀ {l₁ : List α} {l₂ : List β},Paired F l₁ l₂ -> (∀ a b,F a b -> G a b) -> Paired G l₁ l₂
 | _,_,.nil,_=>.nil
 | _,_,.cons r t,f=>.cons (f _ _ r) (Paired.mapP t f)
theorem zbE.stay (x : zbE P w H h a o) (k : ∀ b u,(b = a \/ H b = some (.own a)) -> h.get? b = some u -> h'.get? b = some u)
   (ho : ∀ b,H b = some (.own a) -> H' b = some (.own a)) (ht : ∀ b xs,H b = some (.tup xs) -> H' b = some (.tup xs)) : zbE P w H' h' a o:=by
 induction o with
 | lst xs=>obtain ⟨z,its,n,r,e⟩:=x; exact ⟨z,its,n,r,k _ _ (.inl rfl) e⟩
 | tup xs=>obtain ⟨z,its,r,ob,e,c⟩:=x; exact ⟨z,its,r,ob,k _ _ (.inl rfl) e,c⟩
 | dK kvs=>obtain ⟨z,y,vs,r,ob,es,ep,e,c⟩:=x; exact ⟨z,y,vs,r,ob,es,ep,k _ _ (.inl rfl) e,c⟩
 | dT kvs =>
   obtain ⟨z,y,xs,r,ob,es,ep,e,c⟩:=x
   exact ⟨z,y,xs,Paired.mapP r fun p q z=>⟨z.1,ht _ _ z.2.1,z.2.2⟩,ob,es,ep,k _ _ (.inl rfl) e,c⟩
 | set S n=>obtain ⟨ob,es,ep,t,e,c⟩:=x; exact ⟨ob,es,ep,t,k _ _ (.inl rfl) e,c⟩
 | ins C dx fs =>
   obtain ⟨d,z,ne,e,mA,⟨od,es,ep,e2,c⟩,r⟩:=x
   exact ⟨ho _ d,z,ne,k _ _ (.inl rfl) e,mA,⟨od,es,ep,k _ _ (.inr d) e2,c⟩,r⟩
 | own y=>obtain ⟨ob,e⟩:=x; exact ⟨ob,k _ _ (.inl rfl) e⟩
 | xd fs=>obtain ⟨mA,⟨od,es,ep,e,c⟩,r⟩:=x; exact ⟨mA,⟨od,es,ep,k _ _ (.inl rfl) e,c⟩,r⟩
 | rng lo hi=>obtain ⟨t,u,v,e⟩:=x; exact ⟨t,u,v,k _ _ (.inl rfl) e⟩
 | frz ob u ih=>obtain ⟨e,q⟩:=x; exact ⟨k _ _ (.inl rfl) e,ih q⟩
 | tbl ps =>
   have e : h.get? a = some { cls:=.none,data:=.fields ps }:=x
   show h'.get? a = some { cls:=.none,data:=.fields ps }
   exact k a _ (.inl rfl) e
 | met f y =>
   have e : h.get? a = some (PySem.W.methodObj (.ref f) (.ref y)):=x
   show h'.get? a = some (PySem.W.methodObj (.ref f) (.ref y))
   exact k a _ (.inl rfl) e
 | ext φ=>obtain ⟨p,⟨o,e⟩,st⟩:=x; exact ⟨st _ _ p fun o q=>k _ _ (.inl rfl) q,⟨o,k _ _ (.inl rfl) e⟩,st⟩
theorem HOk.lt (x : HOk P w H h) (e : H a = some o) : a < h.objs.size:=(x a o e).lt
theorem HOk.fresh (x : HOk P w H h) (e : h.objs.size <= a) : H a = none:=by
 cases q : H a with
 | none=>rfl
 | some u=>exact absurd (Nat.lt_of_lt_of_le (x.lt q) e) (Nat.lt_irrefl _)
theorem HOk.kept (x : HOk P w H h) (k : ∀ b u,h.get? b = some u -> h'.get? b = some u) : HOk P w H h':=fun a o e =>
 (x a o e).stay (fun b u _ q=>k b u q) (fun _ q=>q) fun _ _ q=>q
theorem HOk.laid (x : HOk P w H h) (k : ∀ b u,h.get? b = some u -> h'.get? b = some u) (hp : h.objs.size <= a) (new : zbE P w (upd H a o) h' a o) : HOk P w (upd H a o) h':=fun b u e=>by
 have hn:=x.fresh hp
 by_cases hb : b = a
 . subst hb; rw [zas] at e; cases e; exact new
 . rw [za6 hb] at e
   exact (x b u e).stay (fun c v _ q=>k c v q) (fun c q=>by rw [za6 (zaF q hn)]; exact q) fun c xs q=>by rw [za6 (zaF q hn)]; exact q
end
def Rd (H : Hp) (a : Addr) (u : HO) : Prop:=H a = some u \/ ∃ o,H a = some (.frz o u)
theorem Rd.ok {P : Program} {w : World} {H : Hp} {h : Heap} {a : Addr} {u : HO} (r : Rd H a u) (x : HOk P w H h) : zbE P w H h a u:=by
 rcases r with r | ⟨o,r⟩
 . exact x a u r
 . obtain ⟨_,q⟩:=x a _ r
   exact q
def Mut : Option HO -> Prop
 | some (.lst _)=>True
 | some (.dK _)=>True
 | some (.dT _)=>True
 | some (.set _ _)=>True
 | some (.ins _ _ _)=>True
 | some (.ext _)=>True
 | _=>False
section
variable {P : Program} {w : World} {H : Hp} {h h' : Heap} {x e : Addr} {o' : HO}
theorem HOk.write (ok : HOk P w H h) (mu : Mut (H x)) (he : e = x \/ H e = some (.own x)) (k : ∀ b u,b ≠ e -> h.get? b = some u -> h'.get? b = some u) (heo : ∃ u,h'.get? e = some u)
   (new : zbE P w (upd H x o') h' x o') : HOk P w (upd H x o') h':=fun b u q=>by
 have nown : ∀ c y,H c = some (.own y) -> c ≠ x:=fun c y r z=>by subst z; rw [r] at mu; exact mu
 have ntup : ∀ c xs,H c = some (.tup xs) -> c ≠ x:=fun c xs r z=>by subst z; rw [r] at mu; exact mu
 by_cases hb : b = x
 . subst hb; rw [zas] at q; cases q; exact new
 . rw [za6 hb] at q
   by_cases hbe : b = e
   . have q' : H b = some (.own x):=by
       rcases he with z | z
       . exact absurd (hbe.trans z) hb
       . rw [hbe]; exact z
     rw [q] at q'; cases q'
     obtain ⟨v,hv⟩:=heo
     exact ⟨v,by rw [hbe]; exact hv⟩
   . refine (ok b u q).stay (fun c v hc r=>k c v ?_ r) (fun c r=>by rw [za6 (nown c b r)]; exact r) fun c xs r=>by rw [za6 (ntup c xs r)]; exact r
     rcases hc with rfl | hc
     . exact hbe
     . rintro rfl
       rcases he with z | z
       . exact nown c b hc z
       . rw [hc] at z; cases z; exact hb rfl
end
structure Un (fs ex : List Addr) (H H' : Hp) (h h' : Heap) : Prop where
 keep : ∀ b o,h.get? b = some o -> H b = none -> b ∉ fs -> b ∉ ex -> h'.get? b = some o
 slot : ∀ b o,h.get? b = some o -> H b = none -> b ∈ fs -> b ∉ ex -> ∃ sl,h'.get? b = some { o with slots:=sl }
 free : ∀ b o,h.get? b = some o -> H b = none -> b ∉ ex -> H' b = none
 there : ∀ b o,h.get? b = some o -> b ∉ ex -> ∃ o',h'.get? b = some o'
 tups : ∀ b xs,H b = some (.tup xs) -> H' b = some (.tup xs)
 frzs : ∀ b o u,H b = some (.frz o u) -> H' b = some (.frz o u)
 tbls : ∀ b ps,H b = some (.tbl ps) -> ∃ more,H' b = some (.tbl (ps ++ more))
section
variable {fs fs' ex ex' : List Addr} {H H1 H2 : Hp} {h h1 h2 h' : Heap} {a x e : Addr} {o : HO}
theorem Un.any (u : Un fs ex H H1 h h1) {b : Addr} {ob : Obj} (q : h.get? b = some ob) (n : H b = none) (hx : b ∉ ex) : ∃ sl,h1.get? b = some { ob with slots:=sl }:=by
 by_cases hb : b ∈ fs
 . exact u.slot b ob q n hb hx
 . exact ⟨ob.slots,u.keep b ob q n hb hx⟩
theorem Un.kept (k : ∀ b u,h.get? b = some u -> h'.get? b = some u) : Un fs ex H H h h' :=
 ⟨fun b ob q _ _ _=>k b ob q,fun b ob q _ _ _=>⟨ob.slots,k b ob q⟩,fun _ _ _ n _=>n,fun b ob q _=>⟨ob,k b ob q⟩,fun _ _ q=>q,fun _ _ _ q=>q,fun _ ps q=>⟨#[],by rw [q]; simp⟩⟩
theorem Un.refl : Un fs ex H H h h:=Un.kept fun _ _ q=>q
theorem Un.laid (k : ∀ b u,h.get? b = some u -> h'.get? b = some u) (hp : h.objs.size <= a) (hn : H a = none) : Un fs ex H (upd H a o) h h' where
 keep:=fun b u q _ _ _=>k b u q
 slot:=fun b u q _ _ _=>⟨u.slots,k b u q⟩
 free:=fun b u q n _=>by rw [za6 (Nat.ne_of_lt (Nat.lt_of_lt_of_le (Heap.lt_size q) hp))]; exact n
 there:=fun b u q _=>⟨u,k b u q⟩
 tups:=fun b xs q=>by rw [za6 (zaF q hn)]; exact q
 frzs:=fun b u xs q=>by rw [za6 (zaF q hn)]; exact q
 tbls:=fun b ps q=>⟨#[],by rw [za6 (zaF q hn),q]; simp⟩
theorem Un.write (mu : Mut (H x)) (he : e = x \/ H e = some (.own x)) (k : ∀ b u,b ≠ e -> h.get? b = some u -> h'.get? b = some u) (heo : ∃ u,h'.get? e = some u) : Un fs ex H (upd H x o) h h':=by
 have hx : ∀ b,H b = none -> b ≠ x:=fun b n z=>by subst z; rw [n] at mu; exact mu
 have hb : ∀ b,H b = none -> b ≠ e:=fun b n z=>by
   subst z
   rcases he with r | r
   . exact hx b n r
   . rw [n] at r; cases r
 have hm : ∀ b u,H b = some u -> ¬ Mut (some u) -> b ≠ x:=fun b u q nm z=>by subst z; rw [q] at mu; exact nm mu
 refine ⟨fun b u q n _ _=>k b u (hb b n) q,fun b u q n _ _=>⟨u.slots,k b u (hb b n) q⟩,fun b u q n _=>by rw [za6 (hx b n)]; exact n,fun b u q _=>?_,
   fun b xs q=>by rw [za6 (hm b _ q fun z=>z)]; exact q,fun b u xs q=>by rw [za6 (hm b _ q fun z=>z)]; exact q,fun b ps q=>⟨#[],by rw [za6 (hm b _ q fun z=>z),q]; simp⟩⟩
 by_cases hbe : b = e
 . subst hbe; exact heo
 . exact ⟨u,k b u hbe q⟩
end
def trk (h : Heap) (H : Hp) : List Addr:=(List.range h.objs.size).filter fun a=>(H a).isSome
def zhI (h : Heap) (H : Hp) : Heap:=PySem.W.hideAll h (trk h H)
theorem zjR (h : Heap) (H : Hp) : (zhI h H).objs.size = h.objs.size:=PySem.W.hideAll_size _ _
theorem zkn {h : Heap} {H : Hp} {b : Addr} {o : Obj} (e : h.get? b = some o) (n : H b = none) : (zhI h H).get? b = some o :=
 PySem.W.hideAll_get _ e fun hm=>by
   have q : (H b).isSome = true:=(List.mem_filter.mp hm).2
   rw [n] at q; simp at q
theorem zmk {h : Heap} {H : Hp} {b : Addr} {o : Obj} (e : (zhI h H).get? b = some o) : h.get? b = some o /\ H b = none:=by
 have e' : h.get? b = some o:=PySem.W.of_hideAll (trk h H) e
 refine ⟨e',?_⟩
 cases q : H b with
 | none=>rfl
 | some x =>
   have hm : b ∈ trk h H:=List.mem_filter.mpr ⟨List.mem_range.mpr (Heap.lt_size e'),by simp [q]⟩
   have z : (zhI h H).get? b = none:=PySem.W.hideAll_none (trk h H) hm
   rw [z] at e; cases e
def zmf (g h : Heap) (L : Addr) : List (Addr × Obj):=(List.range h.objs.size).filterMap fun a=>if a = L \/ (g.get? a).isSome = true then none else (h.get? a).map fun o=>(a,o)
def za7 (g h : Heap) (L d : Addr) : List (Addr × Obj):=(zmf g h L).filter fun p=>decide (p.1 ≠ d)
end L2
namespace L2
open PySem PySem.Spec PyProof.Rows
structure Mod (K : PySem.W.Frag) (mg : Str -> Option Value) (base : Heap) : Prop where
 kin : K.In base
 glob : base.Ns mainGlobals mg
 blt : ∃ mb,base.Ns builtinsNs mb /\ ∀ x : Str,x ≠ "__name__" -> mb x = bootBuiltins x
 nolimit : base.NoLimit
structure Cx where
 prog : Program
 w : World
 K : PySem.W.Frag
 mg : Str -> Option Value
 base : Heap
 A : Around
 N : List Str
 s₀ : Shared
 H₀ : Hp
 env : Env
 outer : List Env
 stack : List Env
 ex : List Addr
 fn : Str -> Bool
 calm : Bool
 pn : List (Addr × Obj)
 xe : Value -> Shared -> Prop
def frs (l : List Env) : List Addr:=l.filterMap (·.frame)
abbrev Cx.fs (X : Cx) : List Addr:=frs X.outer
def Vis (sc : Scope) (x : Str) : Prop:=sc.names.lookup x = some .local \/ sc.names.lookup x = some .cell \/ sc.names.lookup x = some .free
def Loc (sc : Scope) (x : Str) : Prop:=sc.names.lookup x = some .local \/ sc.names.lookup x = some .cell
def zpT (env : Env) (h : Heap) (m : Str -> Option Value) (x : Str) (u : Value) : Prop :=
 (env.kindOf x = some .local /\ m x = some u) \/ ((env.kindOf x = some .cell \/ env.kindOf x = some .free) /\ ∃ c,env.cells.lookup x = some c /\ h.IsCell c (some u))
structure Cx.Ok (X : Cx) : Prop where
 mod : Mod X.K X.mg X.base
 kind : X.env.scope.kind = .function
 glob : X.env.globals = mainGlobals
 blt : X.env.builtins = builtinsNs
 above : X.s₀.heap.objs.size <= X.env.locals
 inj : ∀ x y c,X.env.cells.lookup x = some c -> X.env.cells.lookup y = some c -> x = y
 has : ∀ x,(X.env.kindOf x = some .cell \/ X.env.kindOf x = some .free) -> ∃ c,X.env.cells.lookup x = some c
 cab : ∀ x c,X.fn x = true -> X.env.cells.lookup x = some c -> X.s₀.heap.objs.size <= c
 hd : X.calm = true -> X.A.handled = none
 frames : X.A.frames = some X.stack
 stk : X.stack = X.outer \/ (X.stack = X.env :: X.outer /\ X.env.frame = some X.env.locals)
 exf : ∀ b ∈ X.ex,b ≠ X.env.locals /\ ∀ x c,X.env.cells.lookup x = some c -> c ≠ b
 bs : ∀ b o,X.base.get? b = some o -> X.s₀.heap.get? b = some o /\ X.H₀ b = none
 bsz : X.base.objs.size <= X.s₀.heap.objs.size
 noex : ∀ b o,X.base.get? b = some o -> b ∉ X.ex
 exfs : ∀ b ∈ X.ex,b ∉ X.fs
 funs : X.s₀.heap.FunFrames X.base X.outer
 frf : ∀ b ∈ X.fs,X.H₀ b = none
structure Inv (X : Cx) (pins : List (Addr × Obj)) (σ : List (Option V)) (H : Hp) (s : Shared) : Prop where
 ok : X.Ok
 os : s.os = X.s₀.os
 bare : AllBare s.gens
 base : Un X.fs X.ex X.H₀ H X.s₀.heap s.heap
 loc : ∃ m,s.heap.Ns X.env.locals m /\ ∀ (i : Nat) (x : Str) (v : V),X.N[i]? = some x -> σ[i]? = some (some v) -> Vis X.env.scope x -> ∃ u,zaD v u /\ zpT X.env s.heap m x u
 cell : ∀ x c,X.env.cells.lookup x = some c -> ∃ v,s.heap.IsCell c v
 free : H X.env.locals = none
 freeC : ∀ x c,X.env.cells.lookup x = some c -> H c = none
 pin : ∀ p ∈ X.pn ++ pins,s.heap.get? p.1 = some p.2 /\ H p.1 = none /\ p.1 ≠ X.env.locals /\ p.1 ∉ X.fs /\ ∀ v,p.2.data ≠ .cell v
 hok : HOk X.prog X.w H s.heap
 len : σ.length = X.N.length
section
variable {X : Cx} {pins : List (Addr × Obj)} {σ : List (Option V)} {H H' : Hp} {s : Shared} {h' : Heap}
theorem Cx.Ok.nofr (ok : X.Ok) {b : Addr} {o : Obj} (e : X.base.get? b = some o) : b ∉ X.fs:=fun hb=>by
 have:=(ok.funs.mem hb).1
 rw [e] at this; cases this
theorem Inv.bs (I : Inv X pins σ H s) : ∀ b o,X.base.get? b = some o -> s.heap.get? b = some o /\ H b = none:=fun b o e =>
 ⟨I.base.keep b o (I.ok.bs b o e).1 (I.ok.bs b o e).2 (I.ok.nofr e) (I.ok.noex b o e),I.base.free b o (I.ok.bs b o e).1 (I.ok.bs b o e).2 (I.ok.noex b o e)⟩
theorem Inv.bk (I : Inv X pins σ H s) : ∀ b o,X.base.get? b = some o -> s.heap.get? b = some o:=fun b o e=>(I.bs b o e).1
theorem Inv.mod (I : Inv X pins σ H s) : Mod X.K X.mg X.base:=I.ok.mod
theorem Inv.kIn (I : Inv X pins σ H s) : X.K.In s.heap:=I.ok.mod.kin.keeps I.bk
theorem Inv.lt (I : Inv X pins σ H s) : X.env.locals < s.heap.objs.size:=let ⟨_,hn,_⟩:=I.loc; hn.lt
theorem Inv.sz (I : Inv X pins σ H s) : X.s₀.heap.objs.size <= s.heap.objs.size:=Nat.le_trans I.ok.above (Nat.le_of_lt I.lt)
theorem Inv.nofs (I : Inv X pins σ H s) {a : Addr} (h : s.heap.objs.size <= a) : a ∉ X.fs:=fun hb=>by
 obtain ⟨_,o,ho,_⟩:=I.ok.funs.mem hb
 exact absurd (Nat.lt_of_lt_of_le (Heap.lt_size ho) (Nat.le_trans I.sz h)) (Nat.lt_irrefl _)
theorem Inv.cne (I : Inv X pins σ H s) : ∀ x c,X.env.cells.lookup x = some c -> c ≠ X.env.locals:=fun x c e z=>by
 obtain ⟨v,o,ho,hd⟩:=I.cell x c e
 obtain ⟨m,⟨o',es,ep,ho',hd',_⟩,_⟩:=I.loc
 rw [z,ho'] at ho; cases ho; rw [hd'] at hd; cases hd
theorem Inv.funs (I : Inv X pins σ H s) : s.heap.FunFrames X.base X.outer:=by
 have all : ∀ (l : List Env),(∀ b ∈ frs l,b ∈ X.fs) -> X.s₀.heap.FunFrames X.base l -> s.heap.FunFrames X.base l:=by
   intro l
   induction l with
   | nil=>intro _ _; trivial
   | cons env r ih =>
     intro hs hl
     obtain ⟨hk,⟨L,o,hf,hn,ho,hd⟩,hr⟩:=hl
     have hL : L ∈ X.fs:=hs L (by unfold frs; rw [List.filterMap_cons,hf]; exact List.mem_cons_self)
     obtain ⟨sl,e⟩:=I.base.slot L o ho (I.ok.frf L hL) hL fun z=>I.ok.exfs L z hL
     exact ⟨hk,⟨L,_,hf,hn,e,hd⟩,ih (fun b hb=>hs b (by unfold frs; rw [List.filterMap_cons,hf]; exact List.mem_cons_of_mem _ hb)) hr⟩
 exact all X.outer (fun _ hb=>hb) I.ok.funs
theorem Inv.stack (I : Inv X pins σ H s) : s.heap.FunFrames X.base X.stack:=by
 rcases I.ok.stk with e | ⟨e,hf⟩
 . rw [e]; exact I.funs
 . rw [e]
   obtain ⟨m,hn,_⟩:=I.loc
   refine .cons (by rw [I.ok.kind]; decide) hf hn ?_ I.funs
   exact Heap.get?_none_of_le (Nat.le_trans I.ok.bsz I.ok.above)
theorem Inv.stkSub (I : Inv X pins σ H s) : ∀ b ∈ frs X.stack,b ∈ X.env.locals :: X.fs:=fun b hb=>by
 rcases I.ok.stk with e | ⟨e,hf⟩
 . rw [e] at hb; exact List.mem_cons_of_mem _ hb
 . rw [e] at hb
   unfold frs at hb
   rw [List.filterMap_cons,hf] at hb
   exact hb
theorem Inv.stkFree (I : Inv X pins σ H s) : ∀ b ∈ frs X.stack,H b = none:=fun b hb=>by
 rcases List.mem_cons.mp (I.stkSub b hb) with e | hb
 . rw [e]; exact I.free
 . obtain ⟨_,o,ho,_⟩:=I.ok.funs.mem hb
   exact I.base.free b o ho (I.ok.frf b hb) fun z=>I.ok.exfs b z hb
theorem Inv.step {g' : Array GenState} {t' : Nat} {d' : Drawn} {ch : List Addr} (I : Inv X pins σ H s)
   (hch : ∀ b ∈ ch,(b ∈ X.ex \/ X.s₀.heap.objs.size <= b) /\ b ≠ X.env.locals /\ (∀ x c,X.env.cells.lookup x = some c -> c ≠ b) /\ ∀ p ∈ X.pn ++ pins,p.1 ≠ b)
   (keep : ∀ b o,b ≠ X.env.locals -> b ∉ X.fs -> b ∉ ch -> s.heap.get? b = some o -> H b = none -> h'.get? b = some o)
   (slot : ∀ b o,b ≠ X.env.locals -> b ∈ X.fs -> b ∉ ch -> s.heap.get? b = some o -> H b = none -> ∃ sl,h'.get? b = some { o with slots:=sl }) (free : ∀ b o,b ∉ ch -> s.heap.get? b = some o -> H b = none -> H' b = none)
   (there : ∀ b o,b ∉ ch -> s.heap.get? b = some o -> ∃ o',h'.get? b = some o')
   (tups : ∀ b xs,H b = some (.tup xs) -> H' b = some (.tup xs)) (frzs : ∀ b o u,H b = some (.frz o u) -> H' b = some (.frz o u)) (tbls : ∀ b ps,H b = some (.tbl ps) -> ∃ more,H' b = some (.tbl (ps ++ more)))
   (ns : ∀ m,s.heap.Ns X.env.locals m -> h'.Ns X.env.locals m) (hok : HOk X.prog X.w H' h') (hg : AllBare g') :
   Inv X pins σ H' { s with heap:=h',gens:=g',drawn:=d',toks:=t' }:=by
 have neL : ∀ b o,X.s₀.heap.get? b = some o -> b ≠ X.env.locals:=fun b o e=>Nat.ne_of_lt (Nat.lt_of_lt_of_le (Heap.lt_size e) I.ok.above)
 have neC : ∀ b o,X.s₀.heap.get? b = some o -> b ∉ X.ex -> b ∉ ch:=fun b o e hx hb=>by
   rcases (hch b hb).1 with z | z
   . exact hx z
   . exact absurd (Nat.lt_of_lt_of_le (Heap.lt_size e) z) (Nat.lt_irrefl _)
 have cellK : ∀ x c,X.env.cells.lookup x = some c -> ∀ v,s.heap.IsCell c v -> h'.IsCell c v:=fun x c e v ⟨o,ho,hd⟩=>by
   have nch : c ∉ ch:=fun z=>(hch c z).2.2.1 x c e rfl
   by_cases hc : c ∈ X.fs
   . obtain ⟨sl,q⟩:=slot c o (I.cne x c e) hc nch ho (I.freeC x c e)
     exact ⟨_,q,hd⟩
   . exact ⟨o,keep c o (I.cne x c e) hc nch ho (I.freeC x c e),hd⟩
 refine ⟨I.ok,I.os,hg,⟨fun b o e n hb hx=>?_,fun b o e n hb hx=>?_,fun b o e n hx=>?_,fun b o e hx=>?_,fun b xs e=>tups b xs (I.base.tups b xs e),fun b o xs e=>frzs b o xs (I.base.frzs b o xs e),fun b ps e=>?_⟩,?_,fun x c e=>?_,?_,fun x c e=>?_,fun p hp=>?_,hok,I.len⟩
 . exact keep b o (neL b o e) hb (neC b o e hx) (I.base.keep b o e n hb hx) (I.base.free b o e n hx)
 . obtain ⟨sl,e1⟩:=I.base.slot b o e n hb hx
   obtain ⟨sl',e2⟩:=slot b _ (neL b o e) hb (neC b o e hx) e1 (I.base.free b o e n hx)
   exact ⟨sl',e2⟩
 . obtain ⟨o',e1⟩:=I.base.there b o e hx
   exact free b o' (neC b o e hx) e1 (I.base.free b o e n hx)
 . obtain ⟨o',e1⟩:=I.base.there b o e hx
   exact there b o' (neC b o e hx) e1
 . obtain ⟨m1,e1⟩:=I.base.tbls b ps e
   obtain ⟨m2,e2⟩:=tbls b _ e1
   exact ⟨m1 ++ m2,by rw [e2,Array.append_assoc]⟩
 . obtain ⟨m,hn,hl⟩:=I.loc
   refine ⟨m,ns m hn,fun i x v e1 e2 e3=>?_⟩
   obtain ⟨u,r,l⟩:=hl i x v e1 e2 e3
   refine ⟨u,r,?_⟩
   rcases l with l | ⟨k,c,e,z⟩
   . exact .inl l
   . exact .inr ⟨k,c,e,cellK x c e _ z⟩
 . obtain ⟨v,z⟩:=I.cell x c e
   exact ⟨v,cellK x c e v z⟩
 . obtain ⟨m,⟨o,_,_,ho,_⟩,_⟩:=I.loc
   exact free _ o (fun z=>(hch _ z).2.1 rfl) ho I.free
 . obtain ⟨v,o,ho,hd⟩:=I.cell x c e
   exact free c o (fun z=>(hch c z).2.2.1 x c e rfl) ho (I.freeC x c e)
 . obtain ⟨e,n,ne,nf,d⟩:=I.pin p hp
   have nch : p.1 ∉ ch:=fun z=>(hch p.1 z).2.2.2 p hp rfl
   exact ⟨keep p.1 p.2 ne nf nch e n,free p.1 p.2 nch e n,ne,nf,d⟩
theorem Inv.un {t' : Nat} (I : Inv X pins σ H s) (u : Un X.fs [] H H' s.heap h') (hok : HOk X.prog X.w H' h') : Inv X pins σ H' { s with heap:=h',toks:=t' }:=by
 obtain ⟨m,⟨o,es,ep,ho,r⟩,_⟩:=id I.loc
 obtain ⟨sl,hL⟩:=u.any ho I.free (by simp)
 exact I.step (g':=s.gens) (d':=s.drawn) (ch:=[]) (fun _ z=>nomatch z) (fun b o _ hb _ e n=>u.keep b o e n hb (by simp)) (fun b o _ hb _ e n=>u.slot b o e n hb (by simp)) (fun b o _ e n=>u.free b o e n (by simp)) (fun b o _ e=>u.there b o e (by simp)) u.tups u.frzs u.tbls (fun m' hm=>by
   obtain ⟨o',es',ep',ho',r'⟩:=hm
   rw [ho] at ho'; cases ho'
   exact ⟨_,es',ep',hL,r'⟩) hok I.bare
theorem Inv.call {g' : Array GenState} {t' : Nat} {d' : Drawn} {ch : List Addr} (I : Inv X pins σ H s) (u : Un (frs X.stack) ch H H' s.heap h') (hok : HOk X.prog X.w H' h') (hg : AllBare g')
   (hch : ∀ b ∈ ch,(b ∈ X.ex \/ X.s₀.heap.objs.size <= b) /\ b ≠ X.env.locals /\ (∀ x c,X.env.cells.lookup x = some c -> c ≠ b) /\ ∀ p ∈ X.pn ++ pins,p.1 ≠ b) :
   Inv X pins σ H' { s with heap:=h',gens:=g',drawn:=d',toks:=t' }:=by
 obtain ⟨m,⟨o,es,ep,ho,r⟩,_⟩:=id I.loc
 obtain ⟨sl,hL⟩:=u.any ho I.free fun z=>(hch _ z).2.1 rfl
 exact I.step (ch:=ch) hch (fun b o hL hb hc e n=>u.keep b o e n (fun z=>(List.mem_cons.mp (I.stkSub b z)).elim hL hb) hc) (fun b o _ _ hc e n=>u.any e n hc) (fun b o hc e n=>u.free b o e n hc) (fun b o hc e=>u.there b o e hc) u.tups u.frzs u.tbls (fun m' hm=>by
   obtain ⟨o',es',ep',ho',r'⟩:=hm
   rw [ho] at ho'; cases ho'
   exact ⟨_,es',ep',hL,r'⟩) hok hg
theorem Inv.turned {t' : Nat} {it : Addr} (I : Inv X pins σ H s) (k : ∀ b o,b ≠ it -> s.heap.get? b = some o -> h'.get? b = some o) (hn : H it = none) (hL : it ≠ X.env.locals)
   (h1 : it ∈ X.ex \/ X.s₀.heap.objs.size <= it) (h2 : ∀ x c,X.env.cells.lookup x = some c -> c ≠ it) (h3 : ∀ p ∈ X.pn ++ pins,p.1 ≠ it) : Inv X pins σ H { s with heap:=h',toks:=t' }:=by
 have nit : ∀ b u,H b = some u -> b ≠ it:=fun b u e z=>by rw [z,hn] at e; cases e
 refine I.step (g':=s.gens) (d':=s.drawn) (ch:=[it]) (fun b hb=>?_) (fun b o _ _ hc e _=>k b o (fun z=>hc (by simp [z])) e) (fun b o _ _ hc e _=>⟨o.slots,k b o (fun z=>hc (by simp [z])) e⟩) (fun _ _ _ _ n=>n)
   (fun b o hc e=>⟨o,k b o (fun z=>hc (by simp [z])) e⟩) (fun _ _ e=>e) (fun _ _ _ e=>e) (fun b ps e=>⟨#[],by rw [e]; simp⟩) (fun m hm=>?_) (fun b u e=>?_) I.bare
 . have e : b = it:=by simpa using hb
   subst e
   exact ⟨h1,hL,h2,h3⟩
 . obtain ⟨o,es,ep,ho,r⟩:=hm
   exact ⟨o,es,ep,k _ o (Ne.symm hL) ho,r⟩
 . refine (I.hok b u e).stay (fun c v hc q=>k c v ?_ q) (fun _ q=>q) fun _ _ q=>q
   rcases hc with z | z
   . rw [z]; exact nit b u e
   . exact nit c _ z
theorem Inv.tok (I : Inv X pins σ H s) (t : Nat) : Inv X pins σ H { s with toks:=t }:=I.un (h':=s.heap) (t':=t) Un.refl I.hok
theorem Inv.kept {t' : Nat} (I : Inv X pins σ H s) (k : ∀ b u,s.heap.get? b = some u -> h'.get? b = some u) : Inv X pins σ H { s with heap:=h',toks:=t' }:=I.un (Un.kept k) (I.hok.kept k)
theorem Inv.laid {a : Addr} {o : HO} {t' : Nat} (I : Inv X pins σ H s) (k : ∀ b u,s.heap.get? b = some u -> h'.get? b = some u) (hp : s.heap.objs.size <= a) (new : zbE X.prog X.w (upd H a o) h' a o) :
   Inv X pins σ (upd H a o) { s with heap:=h',toks:=t' }:=I.un (Un.laid k hp (I.hok.fresh hp)) (I.hok.laid k hp new)
theorem Inv.write {x e : Addr} {o : HO} {t' : Nat} (I : Inv X pins σ H s) (mu : Mut (H x)) (he : e = x \/ H e = some (.own x)) (k : ∀ b u,b ≠ e -> s.heap.get? b = some u -> h'.get? b = some u) (heo : ∃ u,h'.get? e = some u)
   (new : zbE X.prog X.w (upd H x o) h' x o) : Inv X pins σ (upd H x o) { s with heap:=h',toks:=t' }:=I.un (Un.write mu he k heo) (I.hok.write mu he k heo new)
theorem Inv.pins_of {pins' : List (Addr × Obj)} (I : Inv X pins σ H s) (h : ∀ p ∈ pins',s.heap.get? p.1 = some p.2 /\ H p.1 = none /\ p.1 ≠ X.env.locals /\ p.1 ∉ X.fs /\ ∀ v,p.2.data ≠ .cell v) : Inv X pins' σ H s :=
 ⟨I.ok,I.os,I.bare,I.base,I.loc,I.cell,I.free,I.freeC,fun p hp=>(List.mem_append.mp hp).elim (fun z=>I.pin p (List.mem_append_left _ z)) (h p),I.hok,I.len⟩
theorem ziD {N : List Str} (hN : N.Nodup) {i j : Nat} {x : Str} (a : N[i]? = some x) (b : N[j]? = some x) : i = j:=by
 obtain ⟨h1,e1⟩:=List.getElem?_eq_some_iff.mp a
 obtain ⟨h2,e2⟩:=List.getElem?_eq_some_iff.mp b
 exact (List.getElem_inj hN).mp (e1.trans e2.symm)
theorem zha {M : Model} {A : Around} {E : Value -> Shared -> Prop} {i : Nat} {x : Str} {v : V} {u : Value} {Q : Unit -> Shared -> Prop} (I : Inv X pins σ H s) (hN : X.N.Nodup) (hi : X.N[i]? = some x) (hx : Loc X.env.scope x) (r : zaD v u)
   (h : ∀ s',Inv X pins (σ.set i (some v)) H s' -> (∃ a,Heap.SameBut a s.heap s'.heap /\ (a = X.env.locals \/ X.env.cells.lookup x = some a)) -> Q () s') (hf : X.fn x = true \/ X.env.scope.names.lookup x = some .local:=by first | exact .inl rfl | exact .inr rfl | assumption) : wpAny M A (storeName X.env x u) Q E s:=by
 obtain ⟨m,hn,hl⟩:=id I.loc
 have hcls : (X.env.scope.kind == .class || (X.env.scope.kind == .module && X.env.locals != X.env.globals)) = false:=by rw [I.ok.kind]; rfl
 have hiσ : i < σ.length:=by rw [I.len]; exact (List.getElem?_eq_some_iff.mp hi).1
 have cne:=I.cne
 have tracked : ∀ {a : Addr} {h' : Heap},(∃ o,s.heap.get? a = some o /\ H a = none) -> Heap.SameBut a s.heap h' -> HOk X.prog X.w H h':=fun {a h'} ha hs b ob e=>by
   obtain ⟨_,_,hfree⟩:=ha
   refine (I.hok b ob e).stay (fun c w' hc q=>(hs.2 c ?_).trans q) (fun _ q=>q) fun _ _ q=>q
   rintro rfl
   rcases hc with rfl | hc
   . rw [hfree] at e; cases e
   . rw [hfree] at hc; cases hc
 rcases hx with hk | hk
 . refine wpAny_storeName_local hk hn (fun h' hn' hs=>?_) hcls
   obtain ⟨oL,_,_,hoL,_⟩:=id hn
   refine h _ ⟨I.ok,I.os,I.bare,⟨fun b o e n hb hx=>?_,fun b o e n hb hx=>?_,I.base.free,fun b o e hx=>?_,I.base.tups,I.base.frzs,I.base.tbls⟩,⟨_,hn',fun j y v' e1 e2 e3=>?_⟩,fun y c e=>?_,I.free,I.freeC,fun p hp=>?_,tracked ⟨oL,hoL,I.free⟩ hs,by simpa using I.len⟩ ⟨_,hs,.inl rfl⟩
   . exact (hs.2 b (Nat.ne_of_lt (Nat.lt_of_lt_of_le (Heap.lt_size e) I.ok.above))).trans (I.base.keep b o e n hb hx)
   . obtain ⟨sl,e1⟩:=I.base.slot b o e n hb hx
     exact ⟨sl,(hs.2 b (Nat.ne_of_lt (Nat.lt_of_lt_of_le (Heap.lt_size e) I.ok.above))).trans e1⟩
   . obtain ⟨o',e1⟩:=I.base.there b o e hx
     exact ⟨o',(hs.2 b (Nat.ne_of_lt (Nat.lt_of_lt_of_le (Heap.lt_size e) I.ok.above))).trans e1⟩
   . by_cases hj : j = i
     . subst hj
       rw [hi] at e1; cases e1
       rw [List.getElem?_set_self hiσ] at e2
       cases e2
       exact ⟨u,r,.inl ⟨hk,by simp⟩⟩
     . rw [List.getElem?_set_ne (Ne.symm hj)] at e2
       obtain ⟨u',r',q⟩:=hl j y v' e1 e2 e3
       refine ⟨u',r',?_⟩
       rcases q with ⟨k,e⟩ | ⟨k,c,e,z⟩
       . refine .inl ⟨k,?_⟩
         have : y ≠ x:=fun e=>hj (ziD hN e1 (e ▸ hi))
         simp [this,e]
       . exact .inr ⟨k,c,e,z.sameBut hs (cne y c e)⟩
   . obtain ⟨w',z⟩:=I.cell y c e
     exact ⟨w',z.sameBut hs (cne y c e)⟩
   . obtain ⟨e,n,ne,nf,d⟩:=I.pin p hp
     exact ⟨(hs.2 p.1 ne).trans e,n,ne,nf,d⟩
 . have hfn : X.fn x = true:=by
     rcases hf with z | z
     . exact z
     . rw [z] at hk; cases hk
   obtain ⟨c,hc⟩:=I.ok.has x (.inl hk)
   obtain ⟨w',z⟩:=I.cell x c hc
   refine wpAny_storeName_cell I.ok.kind hk hc z (fun h' hc' hs=>?_)
   obtain ⟨oc,hoc,hocd⟩:=id z
   refine h { s with heap:=h' } ⟨I.ok,I.os,I.bare,⟨fun b o e n hb hx=>?_,fun b o e n hb hx=>?_,I.base.free,fun b o e hx=>?_,I.base.tups,I.base.frzs,I.base.tbls⟩,⟨m,hn.sameBut hs (Ne.symm (cne x c hc)),fun j y v' e1 e2 e3=>?_⟩,fun y c' e=>?_,I.free,I.freeC,fun p hp=>?_,tracked ⟨oc,hoc,I.freeC x c hc⟩ hs,by simpa using I.len⟩ ⟨c,hs,.inr hc⟩
   . exact (hs.2 b (Nat.ne_of_lt (Nat.lt_of_lt_of_le (Heap.lt_size e) (I.ok.cab x c hfn hc)))).trans (I.base.keep b o e n hb hx)
   . obtain ⟨sl,e1⟩:=I.base.slot b o e n hb hx
     exact ⟨sl,(hs.2 b (Nat.ne_of_lt (Nat.lt_of_lt_of_le (Heap.lt_size e) (I.ok.cab x c hfn hc)))).trans e1⟩
   . obtain ⟨o',e1⟩:=I.base.there b o e hx
     exact ⟨o',(hs.2 b (Nat.ne_of_lt (Nat.lt_of_lt_of_le (Heap.lt_size e) (I.ok.cab x c hfn hc)))).trans e1⟩
   . by_cases hj : j = i
     . subst hj
       rw [hi] at e1; cases e1
       rw [List.getElem?_set_self hiσ] at e2
       cases e2
       exact ⟨u,r,.inr ⟨.inl hk,c,hc,hc'⟩⟩
     . rw [List.getElem?_set_ne (Ne.symm hj)] at e2
       obtain ⟨u',r',q⟩:=hl j y v' e1 e2 e3
       refine ⟨u',r',?_⟩
       rcases q with q | ⟨k,c',e,z'⟩
       . exact .inl q
       . refine .inr ⟨k,c',e,z'.sameBut hs ?_⟩
         rintro rfl
         exact hj (ziD hN e1 (I.ok.inj _ _ _ e hc ▸ hi))
   . by_cases hcc : c' = c
     . subst hcc; exact ⟨_,hc'⟩
     . obtain ⟨w2,z2⟩:=I.cell y c' e
       exact ⟨w2,z2.sameBut hs hcc⟩
   . obtain ⟨e,n,ne,nf,d⟩:=I.pin p hp
     refine ⟨(hs.2 p.1 ?_).trans e,n,ne,nf,d⟩
     intro q
     rw [q,hoc] at e
     have q' : oc = p.2:=Option.some.inj e
     exact d w' (by rw [<- q']; exact hocd)
theorem zeF {M : Model} {A : Around} {E : Value -> Shared -> Prop} {i : Nat} {x : Str} {v : V} {u : Value} {Q : Unit -> Shared -> Prop} (I : Inv X pins σ H s) (hN : X.N.Nodup) (hi : X.N[i]? = some x) (hx : Loc X.env.scope x) (r : zaD v u)
   (h : ∀ s',Inv X pins (σ.set i (some v)) H s' -> Q () s') (hf : X.fn x = true \/ X.env.scope.names.lookup x = some .local:=by first | exact .inl rfl | exact .inr rfl | assumption) : wpAny M A (storeName X.env x u) Q E s :=
 zha I hN hi hx r (fun s' I' _=>h s' I') hf
theorem Inv.call' {s' : Shared} {ch : List Addr} (I : Inv X pins σ H s) (ho : s'.os = s.os) (u : Un (frs X.stack) ch H H' s.heap s'.heap) (hok : HOk X.prog X.w H' s'.heap) (hg : AllBare s'.gens)
   (hch : ∀ b ∈ ch,(b ∈ X.ex \/ X.s₀.heap.objs.size <= b) /\ b ≠ X.env.locals /\ (∀ x c,X.env.cells.lookup x = some c -> c ≠ b) /\ ∀ p ∈ X.pn ++ pins,p.1 ≠ b) : Inv X pins σ H' s':=by
 obtain ⟨h',g',d',t',o'⟩:=s'
 have e : o' = s.os:=ho
 subst e
 exact I.call (g':=g') (t':=t') (d':=d') u hok hg hch
end
abbrev XK:=Value -> Option Addr -> Hp -> Prop
abbrev St:=List (Option V)
abbrev VK:=V -> Hp -> Prop
abbrev TE:=St -> Hp -> VK -> Prop
abbrev TT:=St -> Hp -> (Bool -> Hp -> Prop) -> Prop
abbrev TA:=St -> Hp -> (List V -> Hp -> Prop) -> Prop
structure zcJ where
 nx : St -> Hp -> Prop
 rt : VK
 bk : St -> Hp -> Prop:=fun _ _=>False
 ct : St -> Hp -> Prop:=fun _ _=>False
abbrev TS:=zcJ -> St -> Hp -> Prop
def EP (X : Cx) (pins : List (Addr × Obj)) (σ : St) (Q : VK) (u : Value) (s' : Shared) : Prop:=∃ v H',Inv X pins σ H' s' /\ zaD v u /\ Q v H'
def TP (X : Cx) (pins : List (Addr × Obj)) (σ : St) (Q : Bool -> Hp -> Prop) (b : Bool) (s' : Shared) : Prop:=∃ H',Inv X pins σ H' s' /\ Q b H'
def AP (X : Cx) (pins : List (Addr × Obj)) (σ : St) (Q : List V -> Hp -> Prop) (us : List Value) (s' : Shared) : Prop:=∃ vs H',Inv X pins σ H' s' /\ zap vs us /\ Q vs H'
def SP (X : Cx) (pins : List (Addr × Obj)) (D : zcJ) (f : Flow) (s' : Shared) : Prop :=
 match f with
 | .next=>∃ σ' H',Inv X pins σ' H' s' /\ D.nx σ' H'
 | .brk=>∃ σ' H',Inv X pins σ' H' s' /\ D.bk σ' H'
 | .cont=>∃ σ' H',Inv X pins σ' H' s' /\ D.ct σ' H'
 | .ret u=>∃ v σ' H',Inv X pins σ' H' s' /\ zaD v u /\ D.rt v H'
def PE (X : Cx) (e : Expr) (t : TE) : Prop :=
 ∀ (pins : List (Addr × Obj)) (s : Shared) (σ : St) (H : Hp) (Q : VK),Inv X pins σ H s -> t σ H Q -> wpAny (model X.prog X.w) X.A (eval e X.env) (EP X pins σ Q) X.xe s
def PT (X : Cx) (e : Expr) (t : TT) : Prop :=
 ∀ (pins : List (Addr × Obj)) (s : Shared) (σ : St) (H : Hp) (Q : Bool -> Hp -> Prop),Inv X pins σ H s -> t σ H Q -> wpAny (model X.prog X.w) X.A (isTrue e X.env (eval e X.env)) (TP X pins σ Q) X.xe s
def PW (X : Cx) (e : Expr) (t : TT) : Prop :=
 ∀ (whole : Sem Value) (pins : List (Addr × Obj)) (s : Shared) (σ : St) (H : Hp) (Q : Bool -> Hp -> Prop),Inv X pins σ H s -> t σ H Q -> wpAny (model X.prog X.w) X.A (isTrue e X.env whole) (TP X pins σ Q) X.xe s
theorem PW.pt {X : Cx} {e : Expr} {t : TT} (h : PW X e t) : PT X e t:=h _
def PA (X : Cx) (es : List Expr) (t : TA) : Prop :=
 ∀ (pos : Pos) (pins : List (Addr × Obj)) (s : Shared) (σ : St) (H : Hp) (Q : List V -> Hp -> Prop),Inv X pins σ H s -> t σ H Q -> wpAny (model X.prog X.w) X.A (spliced (backTo pos (starEach es X.env))) (AP X pins σ Q) X.xe s
def PS (X : Cx) (st : Stmt) (t : TS) : Prop :=
 ∀ (pins : List (Addr × Obj)) (s : Shared) (σ : St) (H : Hp) (D : zcJ),Inv X pins σ H s -> t D σ H -> wpAny (model X.prog X.w) X.A (exec st X.env) (SP X pins D) X.xe s
def PSs (X : Cx) (st : List Stmt) (t : TS) : Prop :=
 ∀ (pins : List (Addr × Obj)) (s : Shared) (σ : St) (H : Hp) (D : zcJ),Inv X pins σ H s -> t D σ H -> wpAny (model X.prog X.w) X.A (execs st X.env) (SP X pins D) X.xe s
theorem thn {α : Type} {t : Sem α} {Q Q' : α -> Shared -> Prop} {M : Model} {A : Around} {E : Value -> Shared -> Prop} {s : Shared} (h : wpAny M A t Q E s) (hQ : ∀ a s,Q a s -> Q' a s) : wpAny M A t Q' E s:=wpAny_mono h hQ fun _ _ x=>x
end L2
namespace L2
open PySem PySem.Spec PyProof.Rows
section
variable {X : Cx}
def zlt (i : Nat) : TE:=fun σ H Q=>∃ v,σ[i]? = some (some v) /\ Q v H
def tC (v : V) : TE:=fun _ H Q=>Q v H
theorem zn2 {i : Nat} {x : Str} {pos : Pos} (hN : X.N[i]? = some x) (hv : Vis X.env.scope x) (hd : (x == ("__debug__" : Str)) = false:=by decide) (hcd : (x == ("__classdict__" : Str)) = false:=by decide) : PE X (.Name x pos) (zlt i):=by
 intro pins s σ H Q I h
 obtain ⟨v,e,h⟩:=h
 obtain ⟨m,hn,hl⟩:=I.loc
 obtain ⟨u,r,l⟩:=hl i x v hN e hv
 have fin : EP X pins σ Q u s:=⟨v,H,I,r,h⟩
 rcases l with ⟨hk,hm⟩ | ⟨hk,c,hc,hcell⟩
 . exact wpAny_Name (wpAny_loadName_local I.ok.kind hk hn hm fin) hd
 . rcases hk with hk | hk
   . exact wpAny_Name (wpAny_loadName_cell I.ok.kind hk hc hcell fin) hd
   . exact wpAny_Name (wpAny_loadName_free I.ok.kind hk hc hcell fin hcd) hd
theorem zaf {i j pos} : PE X (.Constant (.int i) j pos) (tC (.int i)):=fun _ _ _ H _ I h=>wpAny_Constant_int ⟨.int i,H,I.tok _,⟨_,rfl⟩,h⟩
theorem zcn {b j pos} : PE X (.Constant (.bool b) j pos) (tC (.bl b)):=fun _ _ _ H _ I h=>Constant_bool ⟨.bl b,H,I,rfl,h⟩
theorem zaw {x j pos} : PE X (.Constant (.str x) j pos) (tC (.str x)):=fun _ _ _ H _ I h=>Calls.Constant_str ⟨.str x,H,I.tok _,⟨_,rfl⟩,h⟩
def Gl (X : Cx) (x : Str) : Prop:=X.env.kindOf x = some .globalImplicit
theorem zhg {E : Value -> Shared -> Prop} {pins : List (Addr × Obj)} {s : Shared} {σ : St} {H : Hp} {x : Str} {u : Value} {pos : Pos} {Q : Value -> Shared -> Prop} (I : Inv X pins σ H s) (hg : Gl X x) (hm : X.mg x = some u) (h : Q u s)
   (hd : (x == ("__debug__" : Str)) = false:=by decide) : wpAny (model X.prog X.w) X.A (eval (.Name x pos) X.env) Q E s :=
 Calls.Name_function_global I.ok.kind hg (Calls.loadGlobal_global (by rw [I.ok.glob]; exact I.mod.glob.keeps I.bk) hm h) hd
theorem zhp {E : Value -> Shared -> Prop} {pins : List (Addr × Obj)} {s : Shared} {σ : St} {H : Hp} {x : Str} {u : Value} {pos : Pos} {Q : Value -> Shared -> Prop} (I : Inv X pins σ H s) (hg : Gl X x) (hm : X.mg x = none) (hv : bootBuiltins x = some u) (h : Q u s)
   (hn : x ≠ "__name__":=by decide) (hd : (x == ("__debug__" : Str)) = false:=by decide) : wpAny (model X.prog X.w) X.A (eval (.Name x pos) X.env) Q E s:=by
 obtain ⟨mb,h1,h2⟩:=I.mod.blt
 exact Calls.Name_function_global I.ok.kind hg (Calls.loadGlobal_builtin (by rw [I.ok.glob]; exact I.mod.glob.keeps I.bk) hm (by rw [I.ok.blt]; exact h1.keeps I.bk) ((h2 x hn).trans hv) h) hd
theorem zfR {x : Str} {v : V} {u : Value} {pos : Pos} (hg : Gl X x) (hm : X.mg x = some u) (r : zaD v u) (hd : (x == ("__debug__" : Str)) = false:=by decide) : PE X (.Name x pos) (tC v) :=
 fun _ _ _ H _ I h=>zhg I hg hm ⟨v,H,I,r,h⟩ hd
theorem zb4 {x : Str} {v : V} {u : Value} {pos : Pos} (hg : Gl X x) (hm : X.mg x = none) (hv : bootBuiltins x = some u) (r : zaD v u) (hn : x ≠ "__name__":=by decide) (hd : (x == ("__debug__" : Str)) = false:=by decide) : PE X (.Name x pos) (tC v) :=
 fun _ _ _ H _ I h=>zhp I hg hm hv ⟨v,H,I,r,h⟩ hn hd
def t2I (ta tb : TE) (k : Int -> Int -> Hp -> Prop) : St -> Hp -> Prop:=fun σ H=>ta σ H fun x H1=>tb σ H1 fun y H2=>∃ i j,x = .int i /\ y = .int j /\ k i j H2
variable {a b : Expr} {ta tb : TE} {pos : Pos}
def zkc (p : Int -> Int -> Bool) (ta tb : TE) : TE:=fun σ H Q=>t2I ta tb (fun i j H2=>Q (.bl (p i j)) H2) σ H
abbrev tLt : TE -> TE -> TE:=zkc fun i j=>decide (i < j)
abbrev tLe : TE -> TE -> TE:=zkc fun i j=>decide (i <= j)
abbrev tGt : TE -> TE -> TE:=zkc fun i j=>decide (j < i)
abbrev tGe : TE -> TE -> TE:=zkc fun i j=>decide (j <= i)
abbrev zpX : TE -> TE -> TE:=zkc fun i j=>decide (i = j)
abbrev zpZ : TE -> TE -> TE:=zkc fun i j=>!decide (i = j)
def tB (t : TE) : TT:=fun σ H Q=>t σ H fun x H1=>∃ c,x = .bl c /\ Q c H1
theorem zaS {e : Expr} {t : TE} (h : PE X e t) (he : ∀ whole,isTrue e X.env whole = (do let v <- whole; standAt e.pos; holding [v] (truthy v)):=by intro _; rfl) : PT X e (tB t):=by
 intro pins s σ H Q I hw
 refine isTrue_plain (thn (h pins s σ H _ I hw) fun v s1 ⟨x,H1,I1,r1,q1⟩=>?_) (he _)
 obtain ⟨d,rfl,q⟩:=q1
 cases r1
 exact wpAny_truthy_bool ⟨H1,I1,q⟩
variable {tA tB' : TT} {za7 : List Expr}
def zpu (t u : TT) : TT:=fun σ H Q=>t σ H fun c H1=>if c = true then u σ H1 Q else Q false H1
def tOr (t u : TT) : TT:=fun σ H Q=>t σ H fun c H1=>if c = true then Q true H1 else u σ H1 Q
def zpe (t : TT) : TT:=fun σ H Q=>t σ H fun c H1=>Q (!c) H1
theorem zmX (ha : PT X a tA) : PW X (.BoolOp .And [a] pos) tA:=by
 intro wh pins s σ H Q I h
 refine isTrue_and (thn (ha pins s σ H Q I h) fun c s1 e=>?_)
 cases c with
 | true=>exact isTrue_and_nil e
 | false=>exact e
theorem zcI (ha : PT X a tA) : PW X (.BoolOp .Or [a] pos) tA:=by
 intro wh pins s σ H Q I h
 refine isTrue_or (thn (ha pins s σ H Q I h) fun c s1 e=>?_)
 cases c with
 | false=>exact isTrue_or_nil e
 | true=>exact e
theorem zoM (ha : PT X a tA) (hb : PW X (.BoolOp .And (b :: za7) pos) tB') : PW X (.BoolOp .And (a :: b :: za7) pos) (zpu tA tB'):=by
 intro wh pins s σ H Q I h
 refine isTrue_and (thn (ha pins s σ H _ I h) fun c s1 ⟨H1,I1,q1⟩=>?_)
 cases c with
 | true=>exact hb wh pins s1 σ H1 Q I1 q1
 | false=>exact ⟨H1,I1,q1⟩
theorem zcU (ha : PT X a tA) (hb : PW X (.BoolOp .Or (b :: za7) pos) tB') : PW X (.BoolOp .Or (a :: b :: za7) pos) (tOr tA tB'):=by
 intro wh pins s σ H Q I h
 refine isTrue_or (thn (ha pins s σ H _ I h) fun c s1 ⟨H1,I1,q1⟩=>?_)
 cases c with
 | true=>exact ⟨H1,I1,q1⟩
 | false=>exact hb wh pins s1 σ H1 Q I1 q1
theorem za0 (ha : PT X a tA) : PT X (.UnaryOp .Not a pos) (zpe tA):=by
 intro pins s σ H Q I h
 exact isTrue_not (ha pins s σ H (fun c H1=>Q (!c) H1) I h)
def znE (ta tb : TE) : TE:=fun σ H Q=>ta σ H fun x H1=>∃ c,x = .bl c /\ if c = true then tb σ H1 Q else Q (.bl false) H1
def zo3 (ta tb : TE) : TE:=fun σ H Q=>ta σ H fun x H1=>∃ c,x = .bl c /\ if c = true then Q (.bl true) H1 else tb σ H1 Q
def znx (ta : TE) : TE:=fun σ H Q=>ta σ H fun x H1=>∃ c,x = .bl c /\ Q (.bl (!c)) H1
theorem zdJ {op} {t : TE} (h : PE X a t) : PE X (.BoolOp op [a] pos) t:=fun pins s σ H Q I hw=>BoolOp_one (h pins s σ H Q I hw)
theorem zeq (ha : PE X a ta) (hb : PE X (.BoolOp .And (b :: za7) pos) tb) : PE X (.BoolOp .And (a :: b :: za7) pos) (znE ta tb):=by
 intro pins s σ H Q I h
 refine BoolOp_and (thn (ha pins s σ H _ I h) fun v s1 ⟨x,H1,I1,r1,q1⟩=>?_)
 obtain ⟨c,rfl,q1⟩:=q1
 cases r1
 refine wpAny_truthy_bool ?_
 cases c with
 | true=>exact hb pins s1 σ H1 Q I1 q1
 | false=>exact ⟨.bl false,H1,I1,rfl,q1⟩
theorem zo6 (ha : PE X a ta) (hb : PE X (.BoolOp .Or (b :: za7) pos) tb) : PE X (.BoolOp .Or (a :: b :: za7) pos) (zo3 ta tb):=by
 intro pins s σ H Q I h
 refine BoolOp_or (thn (ha pins s σ H _ I h) fun v s1 ⟨x,H1,I1,r1,q1⟩=>?_)
 obtain ⟨c,rfl,q1⟩:=q1
 cases r1
 refine wpAny_truthy_bool ?_
 cases c with
 | false=>exact hb pins s1 σ H1 Q I1 q1
 | true=>exact ⟨.bl true,H1,I1,rfl,q1⟩
theorem znM (ha : PE X a ta) : PE X (.UnaryOp .Not a pos) (znx ta):=by
 intro pins s σ H Q I h
 refine UnaryOp_ (thn (ha pins s σ H _ I h) fun v s1 ⟨x,H1,I1,r1,q1⟩=>?_)
 obtain ⟨c,rfl,q1⟩:=q1
 cases r1
 exact not_of (wpAny_truthy_bool ⟨.bl (!c),H1,I1,rfl,q1⟩)
def tIf (t : TT) (ta tb : TE) : TE:=fun σ H Q=>t σ H fun c H1=>if c = true then ta σ H1 Q else tb σ H1 Q
theorem zfZ {c : Expr} (hc : PT X c tA) (ha : PE X a ta) (hb : PE X b tb) : PE X (.IfExp c a b pos) (tIf tA ta tb):=by
 intro pins s σ H Q I h
 refine wpAny_IfExp (thn (hc pins s σ H _ I h) fun d s1 ⟨H1,I1,q1⟩=>?_)
 cases d with
 | true=>exact ha pins s1 σ H1 Q I1 q1
 | false=>exact hb pins s1 σ H1 Q I1 q1
end
end L2
namespace L2
open PySem PySem.Spec PyProof.Rows
def SqL (K : PySem.W.Frag) (H : Hp) (a : Addr) (xs : List V) : Prop :=
 Rd H a (.lst xs) \/
   ∃ (o : Obj) (its : Array Value) (n : Nat),K.lookup a = some o /\ o.cls = .type "list" /\ o.dict = none /\ o.data = .seq its n /\ its.size <= sizeLine /\ zap xs its.toList
def SqT (K : PySem.W.Frag) (H : Hp) (a : Addr) (xs : List V) : Prop :=
 Rd H a (.tup xs) \/
   ∃ (o : Obj) (its : Array Value) (n : Nat),K.lookup a = some o /\ o.cls = .type "tuple" /\ o.data = .seq its n /\ its.size <= sizeLine /\ zap xs its.toList
def zpO : Value -> Option V
 | .none=>some .non
 | .bool b=>some (.bl b)
 | .int i _=>some (.int i)
 | .str x _=>some (.str x)
 | .bytes b _=>some (.byt b)
 | .float b _=>some (.flt b)
 | .ref a=>some (.ref a)
 | .type n=>some (.ty n)
 | _=>none
theorem zaD.abs {x : V} {u : Value} (r : zaD x u) : zpO u = some x:=by
 cases x with
 | non=>cases r; rfl
 | bl _=>cases r; rfl
 | int _=>obtain ⟨t,rfl⟩:=r; rfl
 | str _=>obtain ⟨t,rfl⟩:=r; rfl
 | byt _=>obtain ⟨t,rfl⟩:=r; rfl
 | flt _=>obtain ⟨t,rfl⟩:=r; rfl
 | ref _=>cases r; rfl
 | ty _=>cases r; rfl
theorem zaD.inj {x y : V} {u : Value} (r : zaD x u) (q : zaD y u) : x = y:=Option.some.inj (r.abs.symm.trans q.abs)
theorem zap.inj : ∀ {xs ys : List V} {us : List Value},zap xs us -> zap ys us -> xs = ys
 | _,_,_,.nil,.nil=>rfl
 | _,_,_,.cons r t,.cons r' t'=>by rw [r.inj r',zap.inj t t']
section
variable {X : Cx} {pins : List (Addr × Obj)} {σ : St} {H : Hp} {s : Shared} {a : Addr} {xs ys : List V}
theorem SqL.of {K : PySem.W.Frag} (h : H a = some (.lst xs)) : SqL K H a xs:=.inl (.inl h)
theorem SqT.of {K : PySem.W.Frag} (h : H a = some (.tup xs)) : SqT K H a xs:=.inl (.inl h)
theorem Inv.list (I : Inv X pins σ H s) (h : SqL X.K H a xs) : ∃ its : List Value,zap xs its /\ PlainL s.heap a its.toArray /\ xs.length <= sizeLine:=by
 rcases h with h | ⟨o,its,n,hk,hc,hd,hs,hz,r⟩
 . obtain ⟨z,its,n,r,e⟩:=h.ok I.hok
   exact ⟨its,r,⟨_,n,e,rfl,rfl,rfl⟩,z⟩
 . refine ⟨its.toList,r,⟨o,n,I.kIn a o hk,hc,hd,by simpa using hs⟩,?_⟩
   have e:=r.length
   simp only [Array.length_toList] at e
   lia
theorem Inv.tuple (I : Inv X pins σ H s) (h : SqT X.K H a xs) : ∃ its : List Value,zap xs its /\ IsTup s.heap a its.toArray /\ xs.length <= sizeLine:=by
 rcases h with h | ⟨o,its,n,hk,hc,hs,hz,r⟩
 . obtain ⟨z,its,r,p⟩:=h.ok I.hok
   exact ⟨its,r,p,z⟩
 . refine ⟨its.toList,r,⟨o,I.kIn a o hk,hc,n,by simpa using hs⟩,?_⟩
   have e:=r.length
   simp only [Array.length_toList] at e
   lia
theorem Inv.list_inj (I : Inv X pins σ H s) (h : SqL X.K H a xs) (h' : SqL X.K H a ys) : xs = ys:=by
 obtain ⟨its,r,⟨o,n,e,_,_,d⟩,_⟩:=I.list h
 obtain ⟨its',r',⟨o',n',e',_,_,d'⟩,_⟩:=I.list h'
 rw [e] at e'; cases e'
 rw [d] at d'
 injection d' with d1 _
 have : its = its':=by simpa using congrArg Array.toList d1
 subst this
 exact r.inj r'
theorem Inv.tuple_inj (I : Inv X pins σ H s) (h : SqT X.K H a xs) (h' : SqT X.K H a ys) : xs = ys:=by
 obtain ⟨its,r,⟨o,e,_,n,d⟩,_⟩:=I.tuple h
 obtain ⟨its',r',⟨o',e',_,n',d'⟩,_⟩:=I.tuple h'
 rw [e] at e'; cases e'
 rw [d] at d'
 injection d' with d1 _
 have : its = its':=by simpa using congrArg Array.toList d1
 subst this
 exact r.inj r'
end
abbrev Cx.wish (X : Cx) (E : Value -> Shared -> Prop) : Cx:={ X with xe:=E }
abbrev Cx.nox (X : Cx) : Cx:=X.wish fun _ _=>False
theorem Cx.Ok.wish {X : Cx} (ok : X.Ok) (E : Value -> Shared -> Prop) : (X.wish E).Ok :=
 ⟨ok.mod,ok.kind,ok.glob,ok.blt,ok.above,ok.inj,ok.has,ok.cab,ok.hd,ok.frames,ok.stk,ok.exf,ok.bs,ok.bsz,ok.noex,ok.exfs,ok.funs,ok.frf⟩
theorem Cx.Ok.unwish {X : Cx} {E : Value -> Shared -> Prop} (ok : (X.wish E).Ok) : X.Ok :=
 ⟨ok.mod,ok.kind,ok.glob,ok.blt,ok.above,ok.inj,ok.has,ok.cab,ok.hd,ok.frames,ok.stk,ok.exf,ok.bs,ok.bsz,ok.noex,ok.exfs,ok.funs,ok.frf⟩
section
variable {X : Cx} {pins : List (Addr × Obj)} {σ : St} {H : Hp} {s : Shared} {E : Value -> Shared -> Prop}
theorem Inv.wish (I : Inv X pins σ H s) (E : Value -> Shared -> Prop) : Inv (X.wish E) pins σ H s:=⟨I.ok.wish E,I.os,I.bare,I.base,I.loc,I.cell,I.free,I.freeC,I.pin,I.hok,I.len⟩
theorem Inv.unwish (I : Inv (X.wish E) pins σ H s) : Inv X pins σ H s:=⟨I.ok.unwish,I.os,I.bare,I.base,I.loc,I.cell,I.free,I.freeC,I.pin,I.hok,I.len⟩
theorem SP.unwish {D : zcJ} {f : Flow} {s' : Shared} (h : SP (X.wish E) pins D f s') : SP X pins D f s':=by
 cases f with
 | next=>obtain ⟨σ',H',I,q⟩:=h; exact ⟨σ',H',I.unwish,q⟩
 | brk=>obtain ⟨σ',H',I,q⟩:=h; exact ⟨σ',H',I.unwish,q⟩
 | cont=>obtain ⟨σ',H',I,q⟩:=h; exact ⟨σ',H',I.unwish,q⟩
 | ret u=>obtain ⟨v,σ',H',I,r,q⟩:=h; exact ⟨v,σ',H',I.unwish,r,q⟩
theorem PSs.nox {st : List Stmt} {t : TS} (h : PSs X.nox st t) : PSs X st t:=fun pins s σ H D I hw =>
 wpAny_mono (h pins s σ H D (I.wish _) hw) (fun _ _ q=>q.unwish) fun _ _ z=>False.elim z
end
section
variable {X : Cx} {st : Stmt} {za7 : List Stmt} {t u : TS} {e : Expr} {te : TE} {pos : Pos}
def znn : TS:=fun D σ H=>D.nx σ H
def zox (t u : TS) : TS:=fun D σ H=>t { D with nx:=u D } σ H
theorem zat : PSs X [] znn:=fun _ _ σ H _ I h=>wpAny_execs_nil ⟨σ,H,I,h⟩
theorem zad (h1 : PS X st t) (h2 : PSs X za7 u) : PSs X (st :: za7) (zox t u):=by
 intro pins s σ H D I h
 refine wpAny_execs_cons (thn (h1 pins s σ H { D with nx:=u D } I h) fun f s1 q=>?_)
 cases f with
 | next =>
   obtain ⟨σ',H',I',q⟩:=q
   exact h2 pins s1 σ' H' D I' q
 | ret v=>exact q
 | brk=>exact q
 | cont=>exact q
theorem zag (h1 : PS X st t) : PSs X [st] t:=by
 intro pins s σ H D I h
 refine wpAny_execs_cons (thn (h1 pins s σ H D I h) fun f s1 q=>?_)
 cases f with
 | next=>exact wpAny_execs_nil q
 | ret v=>exact q
 | brk=>exact q
 | cont=>exact q
theorem Inv.quiet {pins : List (Addr × Obj)} {σ : St} {H : Hp} {s : Shared} (I : Inv X pins σ H s) : interactive X.env = false:=by simp [interactive,I.ok.kind]
def zng (te : TE) : TS:=fun D σ H=>te σ H fun _ H1=>D.nx σ H1
theorem zhG (he : PE X e te) (hs : swapsWith e none pos.line X.env = pure false:=by rfl) : PS X (.Expr e pos) (zng te):=by
 intro pins s σ H D I h
 exact wpAny_Expr_any (thn (he pins s σ H _ I h) fun v s1 ⟨x,H1,I1,r1,q1⟩=>⟨σ,H1,I1,q1⟩) I.quiet hs
def zpD (te : TE) : TS:=fun D σ H=>te σ H D.rt
theorem zak (he : PE X e te) : PS X (.Return (some e) pos) (zpD te):=by
 intro pins s σ H D I h
 exact wpAny_Return_some (thn (he pins s σ H _ I h) fun v s1 ⟨x,H1,I1,r1,q1⟩=>⟨x,σ,H1,I1,r1,q1⟩)
def zo1 (c : TT) (t u : TS) : TS:=fun D σ H=>c σ H fun b H1=>if b = true then t D σ H1 else u D σ H1
theorem za5 {c : Expr} {a b : List Stmt} {tc : TT} (hc : PT X c tc) (ha : PSs X a t) (hb : PSs X b u) : PS X (.If c a b pos) (zo1 tc t u):=by
 intro pins s σ H D I h
 refine wpAny_If (thn (hc pins s σ H _ I h) fun d s1 ⟨H1,I1,q1⟩=>?_)
 cases d with
 | true=>exact ha pins s1 σ H1 D I1 q1
 | false=>exact hb pins s1 σ H1 D I1 q1
end
abbrev TG:=V -> St -> Hp -> (St -> Hp -> Prop) -> Prop
abbrev TGs:=List V -> St -> Hp -> (St -> Hp -> Prop) -> Prop
def PG (X : Cx) (target : Expr) (t : TG) : Prop :=
 ∀ (pins : List (Addr × Obj)) (s : Shared) (σ : St) (H : Hp) (v : V) (u : Value) (Q : St -> Hp -> Prop),Inv X pins σ H s -> zaD v u -> t v σ H Q ->
   wpAny (model X.prog X.w) X.A (assign target X.env u) (fun _ s'=>∃ σ' H',Inv X pins σ' H' s' /\ Q σ' H') X.xe s
abbrev zm4:=V -> V -> V -> Hp -> (Hp -> Prop) -> Prop
def zpo (X : Cx) (t : zm4) : Prop :=
 ∀ (pins : List (Addr × Obj)) (s : Shared) (σ : St) (H : Hp) (o i v : V) (ov iv u : Value) (Q : Hp -> Prop),Inv X pins σ H s -> zaD o ov -> zaD i iv -> zaD v u -> t o i v H Q ->
   wpAny (model X.prog X.w) X.A (setItem ov iv u) (fun _ s'=>∃ H',Inv X pins σ H' s' /\ Q H') X.xe s
abbrev TIp:=V -> V -> Hp -> VK -> Prop
section
variable {X : Cx} {pos : Pos}
def zgb (i : Nat) : TG:=fun v σ H Q=>Q (σ.set i (some v)) H
theorem zaz {i : Nat} {x : Str} (hN : X.N.Nodup) (hi : X.N[i]? = some x) (hx : Loc X.env.scope x) (hf : X.fn x = true \/ X.env.scope.names.lookup x = some .local:=by first | exact .inl rfl | exact .inr rfl | assumption) : PG X (.Name x pos) (zgb i):=by
 intro pins s σ H v u Q I r h
 exact wpAny_assign_Name (zeF I hN hi hx r (fun s' I'=>⟨_,H,I',h⟩) hf)
def zo0 (to ti : TE) (t : zm4) : TG:=fun v σ H Q=>to σ H fun o H1=>ti σ H1 fun i H2=>t o i v H2 fun H3=>Q σ H3
theorem zlg {o i : Expr} {to ti : TE} {t : zm4} (ho : PE X o to) (hi : PE X i ti) (hs : zpo X t)
   (ha : ∀ v,assign (.Subscript o i pos) X.env v = (do
     let ov <- holding [v] (eval o X.env)
     let iv <- holding [v,ov] (eval i X.env)
     standAt pos
     holding [v,ov,iv] (setItem ov iv v)
     release [v,ov,iv] []):=by intro _; rfl) : PG X (.Subscript o i pos) (zo0 to ti t):=by
 intro pins s σ H v u Q I r h
 rw [ha]
 refine wpAny_bind (wpAny_holding (thn (ho pins s σ H _ I h) fun ov s1 ⟨x,H1,I1,r1,q1⟩=>?_))
 refine wpAny_bind (wpAny_holding (thn (hi pins s1 σ H1 _ I1 q1) fun iv s2 ⟨y,H2,I2,r2,q2⟩=>?_))
 refine wpAny_bind (wpAny_standAt (wpAny_bind (wpAny_holding (thn (hs pins s2 σ H2 x y v ov iv u _ I2 r1 r2 r q2) fun _ s3 ⟨H3,I3,q3⟩=>?_))))
 exact wpAny_release ⟨σ,H3,I3,q3⟩
def zk0 (te : TE) (g : TG) : TS:=fun D σ H=>te σ H fun x H1=>g x σ H1 D.nx
theorem zkU {tg e : Expr} {te : TE} {g : TG} (he : PE X e te) (hg : PG X tg g) (hs : swapsWithSole [tg] e pos.line X.env = pure false:=by rfl) (hw : swappedStores [tg] e X.env = pure none:=by rfl)
   (h1 : (assignEach [tg] X.env).map (·.2) = [assign tg X.env]:=by rfl) : PS X (.Assign [tg] e pos) (zk0 te g):=by
 intro pins s σ H D I h
 refine wpAny_Assign_stores (thn (he pins s σ H _ I h) fun v s1 ⟨x,H1,I1,r1,q1⟩=>?_) hs hw
 rw [h1]
 exact thn (hg pins s1 σ H1 x v _ I1 r1 q1) fun _ s2 q=>q
theorem zoo {i : Nat} {x : Str} {e : Expr} {te : TE} {pos' : Pos} (hN : X.N.Nodup) (hi : X.N[i]? = some x) (hx : Loc X.env.scope x) (he : PE X e te) (hs : swapsWith e (some (.Name x pos')) pos.line X.env = pure false:=by rfl) (hf : X.fn x = true \/ X.env.scope.names.lookup x = some .local:=by first | exact .inl rfl | exact .inr rfl | assumption) :
   PS X (.Assign [.Name x pos'] e pos) (zk0 te (zgb i)):=by
 intro pins s σ H D I h
 refine wpAny_Assign_Name (thn (he pins s σ H _ I h) fun v s1 ⟨y,H1,I1,r1,q1⟩=>?_) hs
 exact zeF I1 hN hi hx r1 (fun s2 I2=>⟨_,H1,I2,q1⟩) hf
def zoW (i j : Nat) (ta : TA) : TS:=fun D σ H=>ta σ H fun vs H1=>∃ v w,vs = [v,w] /\ D.nx ((σ.set i (some v)).set j (some w)) H1
theorem zls {i j : Nat} {x y : Str} {a b : Expr} {ta : TA} {px py pt : Pos} {kt k2 pt2} (hc : X.calm = true) (hN : X.N.Nodup) (hi : X.N[i]? = some x) (hj : X.N[j]? = some y) (hij : i ≠ j)
   (hx : X.env.scope.names.lookup x = some .local) (hy : X.env.scope.names.lookup y = some .local) (ha : PA X [a,b] ta)
   (hw : swappedStores [.Tuple [.Name x px,.Name y py] kt pt] (.Tuple [a,b] k2 pt2) X.env = pure (some [x,y]))
   (hs : swapsWithSole [.Tuple [.Name x px,.Name y py] kt pt] (.Tuple [a,b] k2 pt2) pos.line X.env = pure false:=by rfl) :
   PS X (.Assign [.Tuple [.Name x px,.Name y py] kt pt] (.Tuple [a,b] k2 pt2) pos) (zoW i j ta):=by
 intro pins s σ H D I h
 rw [exec_Assign_arm]
 refine wpAny_bind (wpAny_standAt ?_)
 rw [hs]
 refine wpAny_bind (wpAny_pure ?_)
 rw [if_neg (by decide)]
 refine wpAny_bind (Tuple_ (thn (ha _ pins s σ H _ I h) fun us s1 ⟨vs,H1,I1,r1,q1⟩=>?_))
 obtain ⟨v,w,e1,q1⟩:=q1
 subst e1
 obtain ⟨u1,u2,rfl,rv,rw'⟩ : ∃ u1 u2,us = [u1,u2] /\ zaD v u1 /\ zaD w u2:=by
   cases r1 with
   | cons p q =>
     cases q with
     | cons p' q' =>
       cases q'
       exact ⟨_,_,rfl,p,p'⟩
 refine wpAny_newObj_type ?_ (by show 2 <= sizeLine; decide)
 have I2 : Inv X pins σ H1 { s1 with heap:=s1.heap.push { cls:=.type "tuple",data:=.seq [u1,u2].toArray } }:=I1.kept (t':=s1.toks) fun b o e=>Heap.get?_push_of_some _ e
 rw [hw]
 refine wpAny_bind (wpAny_pure ?_)
 show wpAny (model X.prog X.w) X.A (do rule "assign.swapped-stores"; let items <- unpackItems (.ref s1.heap.objs.size) 2 none; assignInOrder [fun v=>bindName X.env y v,fun v=>bindName X.env x v] items.reverse; pure Flow.next) _ _ _
 refine wpAny_bind (wpAny_rule (wpAny_bind (unpackItems_tuple (items:=#[u1,u2]) (I.ok.hd hc) (IsTup.new s1.heap _) fun h' hx'=>?_)))
 have I3:=I2.kept (h':=h') (t':=s1.toks) fun b o e=>hx' b o (Nat.ne_of_lt (Heap.lt_size e)) e
 show wpAny _ _ (assignInOrder [fun v=>bindName X.env y v,fun v=>bindName X.env x v] [u2,u1] >>= fun _=>pure Flow.next) _ _ _
 refine wpAny_bind (assignInOrder_cons (wpAny_bindName (zeF I3 hN hj (.inl hy) rw' (fun s2 I4=>?_) (.inr hy))))
 refine assignInOrder_cons (wpAny_bindName (zeF I4 hN hi (.inl hx) rv (fun s3 I5=>assignInOrder_nil (wpAny_pure ?_)) (.inr hx)))
 rw [List.set_comm _ _ (Ne.symm hij)] at I5
 exact ⟨_,H1,I5,q1⟩
end
section
variable {X : Cx} {pos : Pos}
def zk9 (c : TT) (tb : TS) : TS:=fun D σ H=>∃ W : Nat -> St -> Hp -> Prop,(∃ m,W m σ H) /\ ∀ m σ H,W m σ H ->
 c σ H fun b H1=>if b = true then ∃ N : St -> Hp -> Prop,(∀ σ' H',N σ' H' -> ∃ m',m' < m /\ W m' σ' H') /\ tb { D with nx:=N,ct:=N,bk:=D.nx } σ H1 else D.nx σ H1
theorem zh7 {c : Expr} {body : List Stmt} {tc : TT} {tb : TS} (hp : PassesOwn (model X.prog X.w) X.A X.env X.xe) (hc : PT X c tc) (hb : PSs X body tb) : PS X (.While c body [] pos) (zk9 tc tb):=by
 intro pins s σ H D I h
 obtain ⟨W,⟨m0,w0⟩,turn⟩:=h
 refine wpAny_While (codeAny_whileLoop (fun n s'=>∃ σ' H',Inv X pins σ' H' s' /\ W n σ' H') ?_ m0 ⟨σ,H,I,w0⟩)
 rintro n s1 ⟨σ1,H1,I1,w1⟩
 refine wpAny_passesOwn hp (thn (hc pins s1 σ1 H1 _ I1 (turn n σ1 H1 w1)) fun b s2 ⟨H2,I2,q2⟩=>?_)
 cases b with
 | true =>
   obtain ⟨N,hN,q2⟩:=q2
   rw [if_pos rfl]
   refine wpAny_passesOwn hp (thn (hb pins s2 σ1 H2 _ I2 q2) fun f s3 q3=>?_)
   cases f with
   | next =>
     obtain ⟨σ3,H3,I3,n3⟩:=q3
     obtain ⟨m',hm,w3⟩:=hN σ3 H3 n3
     exact ⟨m',hm,σ3,H3,I3,w3⟩
   | cont =>
     obtain ⟨σ3,H3,I3,n3⟩:=q3
     obtain ⟨m',hm,w3⟩:=hN σ3 H3 n3
     exact ⟨m',hm,σ3,H3,I3,w3⟩
   | brk=>exact q3
   | ret v=>exact q3
 | false =>
   rw [if_neg Bool.false_ne_true]
   exact wpAny_execs_nil ⟨σ1,H2,I2,q2⟩
end
structure It where
 go : Nat -> Hp -> Prop
 yld : Nat -> Hp -> V -> Hp -> Prop
 stop : Nat -> Hp -> Prop
def zej (X : Cx) (pins : List (Addr × Obj)) (H : Hp) (b : Addr) : Prop :=
 H b = none /\ b ≠ X.env.locals /\ b ∉ X.fs /\ (b ∈ X.ex \/ X.s₀.heap.objs.size <= b) /\ (∀ x c,X.env.cells.lookup x = some c -> c ≠ b) /\ ∀ p ∈ X.pn ++ pins,p.1 ≠ b
theorem Inv.fpOk {X : Cx} {pins : List (Addr × Obj)} {σ : St} {H H' : Hp} {s : Shared} {b : Addr} (I : Inv X pins σ H s) (hb : s.heap.objs.size <= b) (hn : H' b = none) : zej X pins H' b:=by
 refine ⟨hn,Nat.ne_of_gt (Nat.lt_of_lt_of_le I.lt hb),I.nofs hb,.inr (Nat.le_trans I.sz hb),fun x c e z=>?_,fun p hp z=>?_⟩
 . obtain ⟨v,q⟩:=I.cell x c e
   exact absurd (Nat.lt_of_lt_of_le q.lt (by rw [z]; exact hb)) (Nat.lt_irrefl _)
 . exact absurd (Nat.lt_of_lt_of_le (Heap.lt_size (I.pin p hp).1) (by rw [z]; exact hb)) (Nat.lt_irrefl _)
structure zh2 (P : Program) (w : World) (K : PySem.W.Frag) (tg : Expr) (J : It) (fp : List Addr) (it : Addr) (tn : Nat -> Heap -> Prop) : Prop where
 mem : it ∈ fp
 obj : ∀ i h,tn i h -> ∀ b ∈ fp,∃ o,h.get? b = some o /\ ∀ v,o.data ≠ .cell v
 keep : ∀ i h h',tn i h -> (∀ b ∈ fp,∀ o,h.get? b = some o -> h'.get? b = some o) -> tn i h'
 item : ∀ (X : Cx),X.prog = P -> X.w = w -> X.K = K -> X.calm = true -> ∀ (i : Nat) (pins : List (Addr × Obj)) (s : Shared) (σ : St) (H : Hp) (E : Value -> Shared -> Prop),Inv X pins σ H s -> (∀ b ∈ fp,zej X pins H b) -> tn i s.heap -> J.go i H ->
   wpAny (model P w) X.A (pyNext (.ref it)) (fun r s1=>∃ u,r = some u /\
     wpAny (model P w) X.A (letOwnedTupleGo tg (.ref it) u) (fun _ s2=>∃ x H',Inv X pins σ H' s2 /\ zaD x u /\ J.yld i H x H' /\ tn (i + 1) s2.heap /\ ∀ b ∈ fp,H' b = none) E s1) E s
 done : ∀ (X : Cx),X.prog = P -> X.w = w -> X.K = K -> X.calm = true -> ∀ (i : Nat) (pins : List (Addr × Obj)) (s : Shared) (σ : St) (H : Hp) (E : Value -> Shared -> Prop),Inv X pins σ H s -> (∀ b ∈ fp,zej X pins H b) -> tn i s.heap -> J.stop i H ->
   wpAny (model P w) X.A (pyNext (.ref it)) (fun r s1=>r = none /\ Inv X pins σ H s1) E s
 self : ∀ (A : Around) (i : Nat) (s : Shared) (Q : Value -> Shared -> Prop) (E : Value -> Shared -> Prop),tn i s.heap -> Q (.ref it) s -> wpAny (model P w) A (pyIter (.ref it)) Q E s
abbrev TI:=St -> Hp -> (It -> Hp -> Prop) -> Prop
def PIE (X : Cx) (pins : List (Addr × Obj)) (σ : St) (tg : Expr) (R : It -> Hp -> Prop) (itv : Value) (s2 : Shared) : Prop :=
 ∃ (it : Addr) (fp : List Addr) (tn : Nat -> Heap -> Prop) (J : It) (H' : Hp),itv = .ref it /\ Inv X pins σ H' s2 /\ zh2 X.prog X.w X.K tg J fp it tn /\ tn 0 s2.heap /\ (∀ b ∈ fp,zej X pins H' b) /\ R J H'
def PI (X : Cx) (tg iter : Expr) (wi : TI) : Prop :=
 ∀ (pins : List (Addr × Obj)) (s : Shared) (σ : St) (H : Hp) (R : It -> Hp -> Prop),Inv X pins σ H s -> wi σ H R ->
   wpAny (model X.prog X.w) X.A (eval iter X.env) (fun v s1=>wpAny (model X.prog X.w) X.A (pyIter v) (PIE X pins σ tg R) X.xe s1) X.xe s
theorem go_of {M : Model} {A : Around} {E : Value -> Shared -> Prop} {s : Shared} {tg : Expr} {it : Addr} {u : Value} {o : Obj} {n : String} {vs : Array Value} {Q : Unit -> Shared -> Prop} (ho : s.heap.get? it = some o) (hc : o.cls = .type n) (hd : o.data = .fields vs)
   (hn : ["enumerate","zip","dict_itemiterator","dict_reverseitemiterator","odict_iterator","itertools.zip_longest","itertools.pairwise"].contains n = false) (hQ : Q () s) : wpAny M A (letOwnedTupleGo tg (.ref it) u) Q E s:=by
 unfold letOwnedTupleGo
 cases tg <;> first
   | exact wpAny_pure hQ
   | (cases u <;> first
       | exact wpAny_pure hQ
       | (refine wpAny_bind (wpAny_load ho ?_)
          rw [hc,hd]
          show wpAny M A (if (["enumerate","zip","dict_itemiterator","dict_reverseitemiterator","odict_iterator","itertools.zip_longest","itertools.pairwise"].contains n && vs[0]? == some (rawInt _)) = true then _ else _) Q E s
          rw [if_neg (by intro h; rw [hn,Bool.false_and] at h; cases h)]
          exact wpAny_pure hQ))
def Itl (K : PySem.W.Frag) (a : Addr) : It :=
 ⟨fun i H=>∃ xs x,SqL K H a xs /\ xs[i]? = some x,fun i H x H'=>H' = H /\ ∀ xs,SqL K H a xs -> xs[i]? = some x,fun i H=>∃ xs,SqL K H a xs /\ xs.length <= i⟩
def Itt (K : PySem.W.Frag) (a : Addr) : It :=
 ⟨fun i H=>∃ xs x,SqT K H a xs /\ xs[i]? = some x,fun i H x H'=>H' = H /\ ∀ xs,SqT K H a xs -> xs[i]? = some x,fun i H=>∃ xs,SqT K H a xs /\ xs.length <= i⟩
def Itr (lo : Int) (n : Nat) : It:=⟨fun i _=>i < n,fun i H x H'=>H' = H /\ x = .int (lo + i),fun i _=>n <= i⟩
theorem zjU {P : Program} {w : World} {K : PySem.W.Frag} {tg : Expr} (a it : Addr) : zh2 P w K tg (Itl K a) [it] it (fun i h=>h.IsListIter it a i) where
 mem:=by simp
 obj:=fun i h st b hb=>by
   have e : b = it:=by simpa using hb
   subst e
   obtain ⟨o,e,c,d⟩:=st
   exact ⟨o,e,fun v z=>by rw [d] at z; cases z⟩
 keep:=fun i h h' st k=>st.at fun o e=>k it (by simp) o e
 item:=by
   intro X hP hw hK hc i pins s σ H E I hf st hg
   subst hP hw hK
   obtain ⟨xs,x,hq,hx⟩:=hg
   obtain ⟨its,rv,p,hz⟩:=I.list hq
   obtain ⟨u,hu,ru⟩:=rv.get hx
   obtain ⟨f0,f1,f2,f3,f4,f5⟩:=hf it (by simp)
   refine wpAny_pyNext_list_item st p.isList (x:=u) (by simpa using hu) fun h' st' sb=>?_
   have I1 : Inv X pins σ H { s with heap:=h' }:=I.turned (t':=s.toks) (fun b o hb e=>(sb.2 b hb).trans e) f0 f1 f3 f4 f5
   obtain ⟨o,e,c,d⟩:=id st'
   exact ⟨u,rfl,go_of (s:={ s with heap:=h' }) e c d (by decide) ⟨x,H,I1,ru,⟨rfl,fun ys hy=>by rw [I.list_inj hy hq]; exact hx⟩,st',fun b hb=>(hf b hb).1⟩⟩
 done:=by
   intro X hP hw hK hc i pins s σ H E I hf st hg
   subst hP hw hK
   obtain ⟨xs,hq,hx⟩:=hg
   obtain ⟨its,rv,p,hz⟩:=I.list hq
   obtain ⟨f0,f1,f2,f3,f4,f5⟩:=hf it (by simp)
   have hl:=rv.length
   exact wpAny_pyNext_list_end (I.ok.hd hc) st p.isList (by simp; lia) fun h' eb=>⟨rfl,I.turned (t':=s.toks) (fun b o hb e=>eb b o hb e) f0 f1 f3 f4 f5⟩
 self:=fun _ _ _ _ _ st h=>wpAny_pyIter_listiter st h
theorem zi5 {P : Program} {w : World} {K : PySem.W.Frag} {tg : Expr} (a it : Addr) : zh2 P w K tg (Itt K a) [it] it (fun i h=>h.IsTupleIter it a i) where
 mem:=by simp
 obj:=fun i h st b hb=>by
   have e : b = it:=by simpa using hb
   subst e
   obtain ⟨o,e,c,d⟩:=st
   exact ⟨o,e,fun v z=>by rw [d] at z; cases z⟩
 keep:=fun i h h' st k=>st.at fun o e=>k it (by simp) o e
 item:=by
   intro X hP hw hK hc i pins s σ H E I hf st hg
   subst hP hw hK
   obtain ⟨xs,x,hq,hx⟩:=hg
   obtain ⟨its,rv,p,hz⟩:=I.tuple hq
   obtain ⟨u,hu,ru⟩:=rv.get hx
   obtain ⟨f0,f1,f2,f3,f4,f5⟩:=hf it (by simp)
   refine wpAny_pyNext_tuple_item st (show s.heap.IsTuple a its.toArray from p) (x:=u) (by simpa using hu) fun h' st' sb=>?_
   have I1 : Inv X pins σ H { s with heap:=h' }:=I.turned (t':=s.toks) (fun b o hb e=>(sb.2 b hb).trans e) f0 f1 f3 f4 f5
   obtain ⟨o,e,c,d⟩:=id st'
   exact ⟨u,rfl,go_of (s:={ s with heap:=h' }) e c d (by decide) ⟨x,H,I1,ru,⟨rfl,fun ys hy=>by rw [I.tuple_inj hy hq]; exact hx⟩,st',fun b hb=>(hf b hb).1⟩⟩
 done:=by
   intro X hP hw hK hc i pins s σ H E I hf st hg
   subst hP hw hK
   obtain ⟨xs,hq,hx⟩:=hg
   obtain ⟨its,rv,p,hz⟩:=I.tuple hq
   obtain ⟨f0,f1,f2,f3,f4,f5⟩:=hf it (by simp)
   have hl:=rv.length
   exact wpAny_pyNext_tuple_end (I.ok.hd hc) st (show s.heap.IsTuple a its.toArray from p) (by simp; lia) fun h' eb=>⟨rfl,I.turned (t':=s.toks) (fun b o hb e=>eb b o hb e) f0 f1 f3 f4 f5⟩
 self:=fun _ _ _ _ _ st h=>wpAny_pyIter_tupleiter st h
theorem ziJ {P : Program} {w : World} {K : PySem.W.Frag} {tg : Expr} (it : Addr) (lo : Int) (n : Nat) : zh2 P w K tg (Itr lo n) [it] it (fun i h=>IsRangeIter h it (lo + (i : Nat) * 1) ((n : Int) - (i : Nat)) 1) where
 mem:=by simp
 obj:=fun i h st b hb=>by
   have e : b = it:=by simpa using hb
   subst e
   exact ⟨_,st,fun v z=>by
     have z' : Data.fields _ = Data.cell v:=z
     cases z'⟩
 keep:=fun i h h' st k=>k it (by simp) _ st
 item:=by
   intro X hP hw hK hc i pins s σ H E I hf st hg
   subst hP hw hK
   obtain ⟨f0,f1,f2,f3,f4,f5⟩:=hf it (by simp)
   have W:=Walks.range (prog:=X.prog) (w:=X.w) (I.ok.hd hc) it lo 1 n
   refine W.item i s _ _ hg st fun v h' tk hv st' kk=>?_
   obtain ⟨t,rfl⟩:=hv
   have I1 : Inv X pins σ H { s with heap:=h',toks:=tk }:=I.turned (fun b o hb e=>kk b o (by simpa using hb) e) f0 f1 f3 f4 f5
   refine ⟨_,rfl,go_of (s:={ s with heap:=h',toks:=tk }) (n:="range_iterator") st' rfl rfl (by decide) ⟨.int (lo + i),H,I1,⟨t,?_⟩,⟨rfl,rfl⟩,st',fun b hb=>(hf b hb).1⟩⟩
   rw [Int.mul_one]
 done:=by
   intro X hP hw hK hc i pins s σ H E I hf st hg
   subst hP hw hK
   obtain ⟨f0,f1,f2,f3,f4,f5⟩:=hf it (by simp)
   exact wpAny_pyNext_range_end (I.ok.hd hc) st (by have : n <= i:=hg; lia) fun h' eb=>⟨rfl,I.turned (t':=s.toks) (fun b o hb e=>eb b o hb e) f0 f1 f3 f4 f5⟩
 self:=fun _ _ _ _ _ st h=>wpAny_pyIter_rangeiter st h
end L2
namespace L2
open PySem PySem.Spec PyProof.Rows
section
variable {X : Cx} {tg : Expr}
def znf (K : PySem.W.Frag) (tl : TE) : TI:=fun σ H R=>tl σ H fun x H1=>∃ a,x = .ref a /\ (∃ xs,SqL K H1 a xs) /\ R (Itl K a) H1
def zpy (K : PySem.W.Frag) (tl : TE) : TI:=fun σ H R=>tl σ H fun x H1=>∃ a,x = .ref a /\ (∃ xs,SqT K H1 a xs) /\ R (Itt K a) H1
theorem zb8 {l : Expr} {tl : TE} (hl : PE X l tl) : PI X tg l (znf X.K tl):=by
 intro pins s σ H R I h
 refine thn (hl pins s σ H _ I h) fun v s1 ⟨x,H1,I1,r1,q1⟩=>?_
 obtain ⟨a,e,⟨xs,hq⟩,q⟩:=q1
 subst e
 cases r1
 obtain ⟨its,rv,p,hz⟩:=I1.list hq
 refine wpAny_pyIter_list p.isList ?_
 refine ⟨s1.heap.objs.size,[s1.heap.objs.size],_,_,H1,rfl,I1.kept (t':=s1.toks) fun b o e=>Heap.get?_push_of_some _ e,zjU a _,⟨_,Heap.get?_push_size _ rfl,rfl,rfl⟩,fun b hb=>?_,q⟩
 have e : b = s1.heap.objs.size:=by simpa using hb
 subst e
 exact I1.fpOk (Nat.le_refl _) (I1.hok.fresh (Nat.le_refl _))
theorem zf3 {l : Expr} {tl : TE} (hl : PE X l tl) : PI X tg l (zpy X.K tl):=by
 intro pins s σ H R I h
 refine thn (hl pins s σ H _ I h) fun v s1 ⟨x,H1,I1,r1,q1⟩=>?_
 obtain ⟨a,e,⟨xs,hq⟩,q⟩:=q1
 subst e
 cases r1
 obtain ⟨its,rv,p,hz⟩:=I1.tuple hq
 refine wpAny_pyIter_tuple (show s1.heap.IsTuple a its.toArray from p) ?_
 refine ⟨s1.heap.objs.size,[s1.heap.objs.size],_,_,H1,rfl,I1.kept (t':=s1.toks) fun b o e=>Heap.get?_push_of_some _ e,zi5 a _,⟨_,Heap.get?_push_size _ rfl,rfl,rfl⟩,fun b hb=>?_,q⟩
 have e : b = s1.heap.objs.size:=by simpa using hb
 subst e
 exact I1.fpOk (Nat.le_refl _) (I1.hok.fresh (Nat.le_refl _))
theorem zkO {pins : List (Addr × Obj)} {σ : St} {H : Hp} {s : Shared} {R : It -> Hp -> Prop} {E : Value -> Shared -> Prop} {lo hi : Int} {t u v : Tok} {tk : Nat} (I : Inv X pins σ H s) (h1 : -(2 ^ 62) <= lo) (h2 : lo < 2 ^ 62) (h3 : -(2 ^ 62) <= hi) (h4 : hi < 2 ^ 62)
   (q : R (Itr lo (hi - lo).toNat) H) : wpAny (model X.prog X.w) X.A (pyIter (.ref s.heap.objs.size)) (PIE X pins σ tg R) E { s with heap:=s.heap.push { cls:=.type "range",data:=.fields #[.int lo t,.int hi u,.int 1 v] },toks:=tk }:=by
 refine wpAny_pyIter_range (IsRange.new ..) (small_one h1 h2 h3 h4) ?_
 have I1 : Inv X pins σ H { s with heap:=s.heap.push { cls:=.type "range",data:=.fields #[.int lo t,.int hi u,.int 1 v] },toks:=tk }:=I.kept fun b o e=>Heap.get?_push_of_some _ e
 refine ⟨(s.heap.push { cls:=.type "range",data:=.fields #[.int lo t,.int hi u,.int 1 v] }).objs.size,[(s.heap.push { cls:=.type "range",data:=.fields #[.int lo t,.int hi u,.int 1 v] }).objs.size],_,_,H,rfl,
   I1.kept (t':=tk) fun b o e=>Heap.get?_push_of_some _ e,ziJ _ lo (hi - lo).toNat,?_,fun b hb=>?_,q⟩
 . have e1 : lo + ((0 : Nat) : Int) * 1 = lo:=by simp
   have e2 : (((hi - lo).toNat : Nat) : Int) - ((0 : Nat) : Int) = Builtin.Range.rangeSize lo hi 1:=by rw [rangeSize_one]; split <;> lia
   show IsRangeIter _ _ (lo + ((0 : Nat) : Int) * 1) ((((hi - lo).toNat : Nat) : Int) - ((0 : Nat) : Int)) 1
   rw [e1,e2]
   exact Heap.get?_push_size _ rfl
 . have e : b = (s.heap.push { cls:=.type "range",data:=.fields #[.int lo t,.int hi u,.int 1 v] }).objs.size:=by simpa using hb
   subst e
   exact I1.fpOk (Nat.le_refl _) (I1.hok.fresh (Nat.le_refl _))
def zk5 (ta : TA) : TI:=fun σ H R=>ta σ H fun vs H1=>∃ j : Int,vs = [.int j] /\ -(2 ^ 62) <= j /\ j < 2 ^ 62 /\ R (Itr 0 j.toNat) H1
theorem zc2 {a : Expr} {ta : TA} {p pos : Pos} (hg : Gl X "range") (hm : X.mg "range" = none) (ha : PA X [a] ta) (hs : starEach [a] X.env = [(false,eval a X.env)]:=by rfl) : PI X tg (.Call (.Name "range" p) [a] [] pos) (zk5 ta):=by
 intro pins s σ H R I h
 refine Call_ (zhp I hg hm boot_range (PyProof.Rows.callWith_type1 (thn (ha pos pins s σ H _ I h) fun us s1 ⟨vs,H1,I1,r1,q1⟩=>?_) hs rfl))
 obtain ⟨j,e,q1,q2,q⟩:=q1
 subst e
 cases r1 with
 | cons r rr =>
   cases rr
   obtain ⟨t,rfl⟩:=r
   exact call_range_1 (zkO I1 (by lia) (by lia) q1 q2 (by simpa using q))
def zo9 (wi : TI) (g : TG) (tb : TS) : TS:=fun D σ H=>wi σ H fun J H1=>∃ W : Nat -> Nat -> St -> Hp -> Prop,(∃ m,W 0 m σ H1) /\ ∀ i m σ H,W i m σ H ->
 (J.stop i H /\ D.nx σ H) \/ (J.go i H /\ ∃ N : St -> Hp -> Prop,(∀ σ' H',N σ' H' -> ∃ m',m' < m /\ W (i + 1) m' σ' H') /\ ∀ x H',J.yld i H x H' -> g x σ H' fun σ2 H2=>tb { D with nx:=N,ct:=N,bk:=D.nx } σ2 H2)
def zf5 (fp : List Addr) (h : Heap) : List (Addr × Obj):=fp.filterMap fun b=>(h.get? b).map fun o=>(b,o)
theorem zdk {fp : List Addr} {h : Heap} {b : Addr} {o : Obj} (hb : b ∈ fp) (e : h.get? b = some o) : (b,o) ∈ zf5 fp h:=List.mem_filterMap.mpr ⟨b,hb,by rw [e]; rfl⟩
theorem zke {fp : List Addr} {h : Heap} {p : Addr × Obj} (hp : p ∈ zf5 fp h) : p.1 ∈ fp /\ h.get? p.1 = some p.2:=by
 obtain ⟨b,hb,e⟩:=List.mem_filterMap.mp hp
 cases q : h.get? b with
 | none=>rw [q] at e; cases e
 | some o =>
   rw [q] at e
   have e' : (b,o) = p:=Option.some.inj e
   subst e'
   exact ⟨hb,q⟩
theorem Inv.pinned {pins : List (Addr × Obj)} {σ : St} {H : Hp} {s : Shared} {fp : List Addr} (I : Inv X pins σ H s) (hf : ∀ b ∈ fp,zej X pins H b) (ho : ∀ b ∈ fp,∃ o,s.heap.get? b = some o /\ ∀ v,o.data ≠ .cell v) : Inv X (pins ++ zf5 fp s.heap) σ H s :=
 I.pins_of fun p hp=>(List.mem_append.mp hp).elim (fun z=>I.pin p (List.mem_append_right _ z)) fun z=>by
   obtain ⟨hb,e⟩:=zke z
   obtain ⟨f0,f1,f2,_⟩:=hf p.1 hb
   obtain ⟨o,e',d⟩:=ho p.1 hb
   rw [e] at e'; cases e'
   exact ⟨e,f0,f1,f2,d⟩
theorem Inv.unpinned {pins pl : List (Addr × Obj)} {σ : St} {H : Hp} {s : Shared} (I : Inv X (pins ++ pl) σ H s) : Inv X pins σ H s:=I.pins_of fun p hp=>I.pin p (List.mem_append_right _ (List.mem_append_left _ hp))
theorem ziE {iter : Expr} {body : List Stmt} {wi : TI} {g : TG} {tb : TS} {pos : Pos} (hp : PassesOwn (model X.prog X.w) X.A X.env X.xe) (hc : X.calm = true) (hi : PI X tg iter wi) (hg : PG X tg g) (hb : PSs X body tb)
   (hs : ∀ x,foldedSetIterable iter X.env x = pure x:=by intro _; rfl) : PS X (.For tg iter body [] pos) (zo9 wi g tb):=by
 intro pins s σ H D I h
 refine wpAny_For (thn (hi pins s σ H _ I h) fun v s1 h1=>thn h1 fun itv s2 h2=>?_) hs
 obtain ⟨it,fp,tn,J,H2,e,I2,T,st2,f2,W,⟨m0,w0⟩,turn⟩:=h2
 subst e
 -- what stays true of the iterator's objects through the loop
 have stat : ∀ {H' : Hp},(∀ b ∈ fp,H' b = none) -> ∀ b ∈ fp,zej X pins H' b:=fun hn b hb=>⟨hn b hb,(f2 b hb).2⟩
 refine codeAny_forLoop_any (fun n s'=>∃ i σ' H',Inv X pins σ' H' s' /\ tn i s'.heap /\ (∀ b ∈ fp,H' b = none) /\ W i n σ' H') ?_ m0 ⟨0,σ,H2,I2,st2,fun b hb=>(f2 b hb).1,w0⟩
 rintro n s3 ⟨i,σ3,H3,I3,st3,fr3,w3⟩
 rcases turn i n σ3 H3 w3 with ⟨stop,qn⟩ | ⟨go,N,hN,step⟩
 . refine wpAny_passesOwn hp (thn (T.done X rfl rfl rfl hc i pins s3 σ3 H3 X.xe I3 (stat fr3) st3 stop) fun r s4 ⟨hr,I4⟩=>?_)
   subst hr
   exact wpAny_execs_nil ⟨σ3,H3,I4,qn⟩
 . refine wpAny_passesOwn hp (thn (T.item X rfl rfl rfl hc i pins s3 σ3 H3 X.xe I3 (stat fr3) st3 go) fun r s4 ⟨u,hr,h4⟩=>?_)
   subst hr
   refine wpAny_passesOwn hp (thn h4 fun _ s5 ⟨x,H5,I5,r5,y5,st5,fr5⟩=>?_)
   have I5':=I5.pinned (stat fr5) (T.obj _ _ st5)
   refine wpAny_passesOwn hp (thn (hg _ s5 σ3 H5 x u _ I5' r5 (step x H5 y5)) fun _ s6 ⟨σ6,H6,I6,q6⟩=>?_)
   refine wpAny_passesOwn hp (thn (hb _ s6 σ6 H6 _ I6 q6) fun f s7 q7=>?_)
   have again : ∀ {σ7 : St} {H7 : Hp},Inv X (pins ++ zf5 fp s5.heap) σ7 H7 s7 -> N σ7 H7 -> ∃ m,m < n /\ ∃ i σ' H',Inv X pins σ' H' s7 /\ tn i s7.heap /\ (∀ b ∈ fp,H' b = none) /\ W i m σ' H':=fun {σ7 H7} I7 n7=>by
     obtain ⟨m',hm,w7⟩:=hN σ7 H7 n7
     refine ⟨m',hm,i + 1,σ7,H7,I7.unpinned,T.keep _ _ _ st5 fun b hb o e=>(I7.pin (b,o) (List.mem_append_right _ (List.mem_append_right _ (zdk hb e)))).1,fun b hb=>?_,w7⟩
     obtain ⟨o,e,d⟩:=T.obj _ _ st5 b hb
     exact (I7.pin (b,o) (List.mem_append_right _ (List.mem_append_right _ (zdk hb e)))).2.1
   cases f with
   | next=>obtain ⟨σ7,H7,I7,n7⟩:=q7; exact again I7 n7
   | cont=>obtain ⟨σ7,H7,I7,n7⟩:=q7; exact again I7 n7
   | brk=>obtain ⟨σ7,H7,I7,q7⟩:=q7; exact ⟨σ7,H7,I7.unpinned,q7⟩
   | ret v=>obtain ⟨x7,σ7,H7,I7,r7,q7⟩:=q7; exact ⟨x7,σ7,H7,I7.unpinned,r7,q7⟩
end
theorem zjX {lo : Int} {n : Nat} {g : TG} {tb : TS} {D : zcJ} {σ : St} {H : Hp} (Pv : Nat -> St -> Hp -> Prop) (h0 : Pv 0 σ H)
   (hs : ∀ i σ H,i < n -> Pv i σ H -> g (.int (lo + i)) σ H fun σ2 H2=>tb { D with nx:=Pv (i + 1),ct:=Pv (i + 1),bk:=D.nx } σ2 H2) (hd : ∀ σ H,Pv n σ H -> D.nx σ H) :
   ∃ W : Nat -> Nat -> St -> Hp -> Prop,(∃ m,W 0 m σ H) /\ ∀ i m σ H,W i m σ H ->
     ((Itr lo n).stop i H /\ D.nx σ H) \/ ((Itr lo n).go i H /\ ∃ N : St -> Hp -> Prop,(∀ σ' H',N σ' H' -> ∃ m',m' < m /\ W (i + 1) m' σ' H') /\ ∀ x H',(Itr lo n).yld i H x H' -> g x σ H' fun σ2 H2=>tb { D with nx:=N,ct:=N,bk:=D.nx } σ2 H2):=by
 refine ⟨fun i m σ H=>m = n - i /\ i <= n /\ Pv i σ H,⟨n,by simp,Nat.zero_le _,h0⟩,?_⟩
 rintro i m σ H ⟨rfl,hi,p⟩
 by_cases hlt : i < n
 . refine .inr ⟨hlt,Pv (i + 1),fun σ' H' p'=>⟨n - (i + 1),by lia,rfl,hlt,p'⟩,fun x H' y=>?_⟩
   obtain ⟨e,y⟩:=y
   subst e y
   exact hs i σ _ hlt p
 . have e : i = n:=by lia
   subst e
   exact .inl ⟨Nat.le_refl _,hd σ H p⟩
end L2
namespace L2
open PySem PySem.Spec PyProof.Rows
abbrev R2:=V -> V -> Hp -> VK -> Prop
def OpR (X : Cx) (f : Value -> Value -> Sem Value) (r : R2) : Prop :=
 ∀ (pins : List (Addr × Obj)) (s : Shared) (σ : St) (H : Hp) (x y : V) (v u : Value) (Q : VK),Inv X pins σ H s -> zaD x v -> zaD y u -> r x y H Q ->
   wpAny (model X.prog X.w) X.A (f v u) (EP X pins σ Q) X.xe s
def UnR (X : Cx) (f : Value -> Sem Value) (r : V -> Hp -> VK -> Prop) : Prop :=
 ∀ (pins : List (Addr × Obj)) (s : Shared) (σ : St) (H : Hp) (x : V) (v : Value) (Q : VK),Inv X pins σ H s -> zaD x v -> r x H Q ->
   wpAny (model X.prog X.w) X.A (f v) (EP X pins σ Q) X.xe s
def zaj (X : Cx) (f : Value) (r : List V -> Hp -> VK -> Prop) : Prop :=
 ∀ (pins : List (Addr × Obj)) (s : Shared) (σ : St) (H : Hp) (xs : List V) (us : List Value) (Q : VK),Inv X pins σ H s -> zap xs us -> r xs H Q ->
   wpAny (model X.prog X.w) X.A (call f us) (EP X pins σ Q) X.xe s
def zpM (X : Cx) (r : V -> Hp -> (Bool -> Hp -> Prop) -> Prop) : Prop :=
 ∀ (pins : List (Addr × Obj)) (s : Shared) (σ : St) (H : Hp) (x : V) (v : Value) (Q : Bool -> Hp -> Prop),Inv X pins σ H s -> zaD x v -> r x H Q ->
   wpAny (model X.prog X.w) X.A (truthy v) (TP X pins σ Q) X.xe s
def tOp (r : R2) (ta tb : TE) : TE:=fun σ H Q=>ta σ H fun x H1=>tb σ H1 fun y H2=>r x y H2 Q
def tUn (r : V -> Hp -> VK -> Prop) (ta : TE) : TE:=fun σ H Q=>ta σ H fun x H1=>r x H1 Q
def rI (C : Int -> Int -> Prop) (g : Int -> Int -> V) : R2:=fun x y H Q=>∃ i j,x = .int i /\ y = .int j /\ C i j /\ Q (g i j) H
def rI0 (g : Int -> Int -> V) : R2:=fun x y H Q=>∃ i j,x = .int i /\ y = .int j /\ Q (g i j) H
def rU (g : Int -> V) : V -> Hp -> VK -> Prop:=fun x H Q=>∃ i,x = .int i /\ Q (g i) H
section
variable {X : Cx} {a b c : Expr} {ta tb tc : TE} {pos : Pos}
theorem zor (ha : PE X a ta) (hb : PE X b tb) {pins : List (Addr × Obj)} {s : Shared} {σ : St} {H : Hp} {R : V -> V -> Hp -> Prop} (I : Inv X pins σ H s)
   (h : ta σ H fun x H1=>tb σ H1 fun y H2=>R x y H2) {Q : Value -> Shared -> Prop} {f : Value -> Value -> Sem Value}
   (hf : ∀ v u s2 x y H2,Inv X pins σ H2 s2 -> zaD x v -> zaD y u -> R x y H2 -> wpAny (model X.prog X.w) X.A (f v u) Q X.xe s2) :
   wpAny (model X.prog X.w) X.A (eval a X.env) (fun v s₁=>wpAny (model X.prog X.w) X.A (eval b X.env) (fun u s₂=>wpAny (model X.prog X.w) X.A (f v u) Q X.xe s₂) X.xe s₁) X.xe s:=by
 refine thn (ha pins s σ H _ I h) fun v s1 ⟨x,H1,I1,r1,q1⟩=>?_
 refine thn (hb pins s1 σ H1 _ I1 q1) fun u s2 ⟨y,H2,I2,r2,q2⟩=>?_
 exact hf v u s2 x y H2 I2 r1 r2 q2
theorem zan {op : Operator} {r : R2} (ho : OpR X (binaryOp op) r) (ha : PE X a ta) (hb : PE X b tb) : PE X (.BinOp a op b pos) (tOp r ta tb):=by
 intro pins s σ H Q I h
 exact wpAny_BinOp (zor ha hb I h fun v u s2 x y H2 I2 rx ry q=>ho pins s2 σ H2 x y v u Q I2 rx ry q)
theorem zne {op : UnaryOp} {r : V -> Hp -> VK -> Prop} (ho : UnR X (unaryOp op) r) (ha : PE X a ta) : PE X (.UnaryOp op a pos) (tUn r ta):=by
 intro pins s σ H Q I h
 exact UnaryOp_ (thn (ha pins s σ H _ I h) fun v s1 ⟨x,H1,I1,r1,q1⟩=>ho pins s1 σ H1 x v Q I1 r1 q1)
theorem opI {f : Value -> Value -> Sem Value} {C : Int -> Int -> Prop} {g : Int -> Int -> Int}
   (rule : ∀ (i j : Int) (t u : Tok) (s : Shared) (Q : Value -> Shared -> Prop) (E : Value -> Shared -> Prop),C i j -> Q (.int (g i j) s.toks) { s with toks:=s.toks + 1 } -> wpAny (model X.prog X.w) X.A (f (.int i t) (.int j u)) Q E s) :
   OpR X f (rI C fun i j=>.int (g i j)):=by
 intro pins s σ H x y v u Q I rx ry h
 obtain ⟨i,j,rfl,rfl,hc,q⟩:=h
 obtain ⟨t,rfl⟩:=rx
 obtain ⟨t',rfl⟩:=ry
 exact rule i j t t' s _ _ hc ⟨.int (g i j),H,I.tok _,⟨_,rfl⟩,q⟩
theorem zpq {f : Value -> Value -> Sem Value} {g : Int -> Int -> Int}
   (rule : ∀ (i j : Int) (t u : Tok) (s : Shared) (Q : Value -> Shared -> Prop) (E : Value -> Shared -> Prop),Q (.int (g i j) s.toks) { s with toks:=s.toks + 1 } -> wpAny (model X.prog X.w) X.A (f (.int i t) (.int j u)) Q E s) :
   OpR X f (rI0 fun i j=>.int (g i j)):=by
 intro pins s σ H x y v u Q I rx ry h
 obtain ⟨i,j,rfl,rfl,q⟩:=h
 obtain ⟨t,rfl⟩:=rx
 obtain ⟨t',rfl⟩:=ry
 exact rule i j t t' s _ _ ⟨.int (g i j),H,I.tok _,⟨_,rfl⟩,q⟩
theorem zml {f : Value -> Value -> Sem Value} {g : Int -> Int -> Bool}
   (rule : ∀ (i j : Int) (t u : Tok) (s : Shared) (Q : Value -> Shared -> Prop) (E : Value -> Shared -> Prop),Q (.bool (g i j)) s -> wpAny (model X.prog X.w) X.A (f (.int i t) (.int j u)) Q E s) :
   OpR X f (rI0 fun i j=>.bl (g i j)):=by
 intro pins s σ H x y v u Q I rx ry h
 obtain ⟨i,j,rfl,rfl,q⟩:=h
 obtain ⟨t,rfl⟩:=rx
 obtain ⟨t',rfl⟩:=ry
 exact rule i j t t' s _ _ ⟨.bl (g i j),H,I,rfl,q⟩
def zpA (i j : Int) : Prop:=0 <= j /\ j <= 1000000 /\ i.natAbs < 2 ^ 64
theorem zoL : OpR X (binaryOp .Add) (rI0 fun i j=>.int (i + j)):=zpq fun _ _ _ _ _ _ _ q=>add_int q
theorem zoi : OpR X (binaryOp .Sub) (rI0 fun i j=>.int (i - j)):=zpq fun _ _ _ _ _ _ _ q=>sub_int q
theorem zbW : OpR X (binaryOp .Mod) (rI (fun _ j=>0 < j) fun i j=>.int (i % j)):=opI fun i j _ _ _ _ _ hc q=>by
 have h1 : (0 : Int) < j:=hc
 exact mod_int' (by lia) (by rw [Int.fmod_eq_emod_of_nonneg i (by lia)]; exact q)
theorem znR : OpR X (binaryOp .Pow) (rI zpA fun i j=>.int (i ^ j.toNat)):=opI fun _ _ _ _ _ _ _ hc q=>pow_int_small hc.1 hc.2.1 hc.2.2 q
theorem unI {f : Value -> Sem Value} {g : Int -> Int}
   (rule : ∀ (i : Int) (t : Tok) (s : Shared) (Q : Value -> Shared -> Prop) (E : Value -> Shared -> Prop),Q (.int (g i) s.toks) { s with toks:=s.toks + 1 } -> wpAny (model X.prog X.w) X.A (f (.int i t)) Q E s) :
   UnR X f (rU fun i=>.int (g i)):=by
 intro pins s σ H x v Q I rx h
 obtain ⟨i,rfl,q⟩:=h
 obtain ⟨t,rfl⟩:=rx
 exact rule i t s _ _ ⟨.int (g i),H,I.tok _,⟨_,rfl⟩,q⟩
theorem zlU : UnR X (unaryOp .USub) (rU fun i=>.int (-i)):=unI fun _ _ _ _ _ q=>neg_int q
end
def zpU : V -> V -> Bool
 | .non,.non=>true | .non,.int _=>true | .int _,.non=>true | .non,.bl _=>true | .bl _,.non=>true | .non,.str _=>true | .str _,.non=>true
 | .int _,.int _=>true | .bl _,.bl _=>true | .str _,.str _=>true | .byt _,.byt _=>true
 | .int _,.str _=>true | .str _,.int _=>true | .bl _,.str _=>true | .str _,.bl _=>true
 | _,_=>false
def rNe : R2:=fun x y H Q=>zpU x y = true /\ Q (.bl (!decide (x = y))) H
theorem zmE {i j : Int} : decide (V.int i = V.int j) = (i == j):=by
 rw [Bool.eq_iff_iff]
 simp
theorem znX {i j : Bool} : decide (V.bl i = V.bl j) = (i == j):=by
 rw [Bool.eq_iff_iff]
 simp
theorem zm1 {i j : Str} : decide (V.str i = V.str j) = (i == j):=by
 rw [Bool.eq_iff_iff]
 simp
theorem zm5 {i j : Array UInt8} : decide (V.byt i = V.byt j) = (i.toList == j.toList):=by
 rw [Bool.eq_iff_iff]
 cases i
 cases j
 simp
section
variable {X : Cx} {a b c : Expr} {ta tb tc : TE} {pos : Pos}
theorem zbf {pins : List (Addr × Obj)} {σ : St} {H : Hp} {s : Shared} {Q : VK} {k k' : Bool} (I : Inv X pins σ H s) (q : Q (.bl k) H) (e : k = k') : EP X pins σ Q (.bool k') s:=by
 subst e
 exact ⟨.bl k,H,I,rfl,q⟩
theorem znj : OpR X (compareOp .NotEq) rNe:=by
 intro pins s σ H x y v u Q I rx ry h
 obtain ⟨hs,q⟩:=h
 cases x with
 | non =>
   cases rx
   cases y with
   | non=>cases ry; exact PySem.EqNone.ne_none_none (zbf I q (by simp))
   | bl j=>cases ry; exact PySem.EqNone.ne_none_bool (zbf I q (by simp))
   | int j=>obtain ⟨t',rfl⟩:=ry; exact PySem.EqNone.ne_none_int (zbf I q (by simp))
   | str j=>obtain ⟨t',rfl⟩:=ry; exact PySem.EqNone.ne_none_str (zbf I q (by simp))
   | _=>exact absurd (show false = true from hs) Bool.false_ne_true
 | bl i =>
   cases rx
   cases y with
   | non=>cases ry; exact PySem.EqNone.ne_bool_none (zbf I q (by simp))
   | bl j=>cases ry; exact ne_bool (zbf I q (congrArg not znX))
   | str j=>obtain ⟨t',rfl⟩:=ry; exact PySem.EqMixed.ne_bool_str (zbf I q (by simp))
   | _=>exact absurd (show false = true from hs) Bool.false_ne_true
 | int i =>
   obtain ⟨t,rfl⟩:=rx
   cases y with
   | non=>cases ry; exact PySem.EqNone.ne_int_none (zbf I q (by simp))
   | int j=>obtain ⟨t',rfl⟩:=ry; exact ne_int (zbf I q (congrArg not zmE))
   | str j=>obtain ⟨t',rfl⟩:=ry; exact PySem.EqMixed.ne_int_str (zbf I q (by simp))
   | _=>exact absurd (show false = true from hs) Bool.false_ne_true
 | str i =>
   obtain ⟨t,rfl⟩:=rx
   cases y with
   | non=>cases ry; exact PySem.EqNone.ne_str_none (zbf I q (by simp))
   | bl j=>cases ry; exact PySem.EqMixed.ne_str_bool (zbf I q (by simp))
   | int j=>obtain ⟨t',rfl⟩:=ry; exact PySem.EqMixed.ne_str_int (zbf I q (by simp))
   | str j=>obtain ⟨t',rfl⟩:=ry; exact ne_str (zbf I q (congrArg not zm1))
   | _=>exact absurd (show false = true from hs) Bool.false_ne_true
 | byt i =>
   obtain ⟨t,rfl⟩:=rx
   cases y with
   | byt j=>obtain ⟨t',rfl⟩:=ry; exact PySem.W.ne_bytes (zbf I q (congrArg not zm5))
   | _=>exact absurd (show false = true from hs) Bool.false_ne_true
 | _=>cases y <;> exact absurd (show false = true from hs) Bool.false_ne_true
theorem zo4 : OpR X (compareOp .Lt) (rI0 fun i j=>.bl (decide (i < j))):=zml fun _ _ _ _ _ _ _ q=>lt_int q
theorem zjQ : OpR X (compareOp .LtE) (rI0 fun i j=>.bl (decide (i <= j))):=zml fun _ _ _ _ _ _ _ q=>le_int q
theorem zjs : OpR X (compareOp .Gt) (rI0 fun i j=>.bl (decide (j < i))):=zml fun _ _ _ _ _ _ _ q=>gt_int q
theorem znC : OpR X (compareOp .GtE) (rI0 fun i j=>.bl (decide (j <= i))):=zml fun _ _ _ _ _ _ _ q=>ge_int q
theorem zj0 : OpR X (compareOp .In) (fun x y H Q=>∃ i j,x = .str i /\ y = .str j /\ Q (.bl (!(Builtin.Str.occurrences j i 0 j.length 1).isEmpty)) H):=by
 intro pins s σ H x y v u Q I rx ry h
 obtain ⟨i,j,rfl,rfl,q⟩:=h
 obtain ⟨t,rfl⟩:=rx
 obtain ⟨t',rfl⟩:=ry
 exact in_str (zbf I q rfl)
theorem OpR.or {f : Value -> Value -> Sem Value} {r r' : R2} (h : OpR X f r) (h' : OpR X f r') : OpR X f (fun x y H Q=>r x y H Q \/ r' x y H Q):=by
 intro pins s σ H x y v u Q I rx ry q
 rcases q with q | q
 . exact h pins s σ H x y v u Q I rx ry q
 . exact h' pins s σ H x y v u Q I rx ry q
theorem zaA (b : Expr) {op : CmpOp} (h : op ≠ .In:=by decide) (h2 : op ≠ .NotIn:=by decide) : behindInMarks op b = false:=by
 have e1 : (op == CmpOp.In) = false:=by cases op <;> first | rfl | exact absurd rfl h
 have e2 : (op == CmpOp.NotIn) = false:=by cases op <;> first | rfl | exact absurd rfl h2
 cases b <;> simp [behindInMarks,e1,e2]
theorem zcq {op : CmpOp} {r : R2} (ho : OpR X (compareOp op) r) (ha : PE X a ta) (hb : PE X b tb) (hm : behindInMarks op b = false) : PE X (.Compare a [op] [b] pos) (tOp r ta tb):=by
 intro pins s σ H Q I h
 exact wpAny_Compare1 (zor ha hb I h fun v u s2 x y H2 I2 rx ry q=>ho pins s2 σ H2 x y v u Q I2 rx ry q) hm
def zkF (t : TE) : TT:=fun σ H Q=>t σ H fun x H'=>∃ k,x = .bl k /\ Q k H'
theorem zaC {op : CmpOp} {r : R2} (ho : OpR X (compareOp op) r) (ha : PE X a ta) (hb : PE X b tb) (hm : behindInMarks op b = false) : PT X (.Compare a [op] [b] pos) (zkF (tOp r ta tb)):=by
 intro pins s σ H Q I h
 refine wpAny_isTrue_Compare1 (thn (ha pins s σ H _ I h) fun v s1 ⟨x,H1,I1,r1,q1⟩=>thn (hb pins s1 σ H1 _ I1 q1) fun u s2 ⟨y,H2,I2,r2,q2⟩ =>
   thn (ho pins s2 σ H2 x y v u _ I2 r1 r2 q2) fun c s3 ⟨z,H3,I3,r3,k,e,q3⟩=>?_) hm
 subst e
 cases r3
 exact wpAny_truthy_bool ⟨H3,I3,q3⟩
def ziX (r r' : R2) (ta tb tc : TE) : TE:=fun σ H Q=>ta σ H fun x H1=>tb σ H1 fun y H2=>r x y H2 fun z H3=>∃ k,z = .bl k /\
 (if k = true then tc σ H3 fun w' H4=>r' y w' H4 Q else Q (.bl false) H3)
theorem zkS {op op' : CmpOp} {r r' : R2} (ho : OpR X (compareOp op) r) (ho' : OpR X (compareOp op') r') (ha : PE X a ta) (hb : PE X b tb) (hc : PE X c tc)
   (hm : lastMarks [op,op'] [b,c] = false:=by with_unfolding_all rfl) : PE X (.Compare a [op,op'] [b,c] pos) (ziX r r' ta tb tc):=by
 intro pins s σ H Q I h
 refine Compare_chain (thn (ha pins s σ H _ I h) fun v s1 ⟨x,H1,I1,r1,q1⟩=>chain_link (thn (hb pins s1 σ H1 _ I1 q1) fun u s2 ⟨y,H2,I2,r2,q2⟩ =>
   thn (ho pins s2 σ H2 x y v u _ I2 r1 r2 q2) fun d s3 ⟨z,H3,I3,r3,k,e,q3⟩=>?_)) hm
 subst e
 cases r3
 refine wpAny_truthy_bool ?_
 cases k with
 | false=>exact ite_ff ⟨.bl false,H3,I3,rfl,q3⟩
 | true=>exact ite_tt (chain_last (thn (hc pins s3 σ H3 _ I3 q3) fun w' s4 ⟨z',H4,I4,r4,q4⟩=>ho' pins s4 σ H4 y z' u w' Q I4 r2 r4 q4))
theorem zk1 {op op' : CmpOp} {r r' : R2} (ho : OpR X (compareOp op) r) (ho' : OpR X (compareOp op') r') (ha : PE X a ta) (hb : PE X b tb) (hc : PE X c tc)
   (hm : lastMarks [op,op'] [b,c] = false:=by with_unfolding_all rfl) : PT X (.Compare a [op,op'] [b,c] pos) (zkF (ziX r r' ta tb tc)):=by
 intro pins s σ H Q I h
 refine isTrue_chain (thn (ha pins s σ H _ I h) fun v s1 ⟨x,H1,I1,r1,q1⟩=>test_link (thn (hb pins s1 σ H1 _ I1 q1) fun u s2 ⟨y,H2,I2,r2,q2⟩ =>
   thn (ho pins s2 σ H2 x y v u _ I2 r1 r2 q2) fun d s3 ⟨z,H3,I3,r3,k,e,q3⟩=>?_)) hm
 subst e
 cases r3
 refine wpAny_truthy_bool ?_
 cases k with
 | false =>
   obtain ⟨k',e',q'⟩:=q3
   cases e'
   exact ite_ff ⟨H3,I3,q'⟩
 | true =>
   refine ite_tt (test_last (thn (hc pins s3 σ H3 _ I3 q3) fun w' s4 ⟨z',H4,I4,r4,q4⟩=>thn (ho' pins s4 σ H4 y z' u w' _ I4 r2 r4 q4) fun d' s5 ⟨z2,H5,I5,r5,k2,e2,q5⟩=>?_))
   subst e2
   cases r5
   exact wpAny_truthy_bool ⟨H5,I5,q5⟩
def zoa (K : PySem.W.Frag) (x : V) (H : Hp) (k : Bool) : Prop :=
 match x with
 | .non=>k = false
 | .bl b=>k = b
 | .int i=>k = (i != 0)
 | .str y=>y.length <= sizeLine /\ k = ((y.length : Int) != 0)
 | .byt y=>y.size <= sizeLine /\ k = ((y.size : Int) != 0)
 | .ref p=>(∃ xs,SqL K H p xs /\ k = !xs.isEmpty) \/ (∃ xs,SqT K H p xs /\ k = !xs.isEmpty) \/ ∃ kvs,H p = some (.dK kvs) /\ k = !kvs.isEmpty
 | _=>False
theorem ziF {κ : Type} {kvs : List (κ × V)} {vs : List (κ × Value)} (r : KV kvs vs) : (!vs.isEmpty) = !kvs.isEmpty:=by
 cases r <;> rfl
theorem zfY {xs : List V} {its : List Value} (r : zap xs its) : (!its.toArray.isEmpty) = !xs.isEmpty:=by
 cases r <;> simp
theorem zer : (sizeLine : Nat) < 2 ^ 63:=by rw [sizeLine_eq]; decide
theorem zol : zpM X (fun x H Q=>∃ k,zoa X.K x H k /\ Q k H):=by
 intro pins s σ H x v Q I rx h
 obtain ⟨k,e,q⟩:=h
 have hl:=zer
 have hs : sizeLine = 16777216:=sizeLine_eq
 cases x with
 | non =>
   cases rx
   have e' : k = false:=e
   subst e'
   exact truthy_none ⟨H,I,q⟩
 | bl b =>
   cases rx
   have e' : k = b:=e
   subst e'
   exact wpAny_truthy_bool ⟨H,I,q⟩
 | int i =>
   obtain ⟨t,rfl⟩:=rx
   have e' : k = (i != 0):=e
   subst e'
   exact PySem.P.truthy_int ⟨H,I,q⟩
 | str y =>
   obtain ⟨t,rfl⟩:=rx
   obtain ⟨hy,e'⟩ : y.length <= sizeLine /\ k = ((y.length : Int) != 0):=e
   subst e'
   exact PySem.P.truthy_str (by lia) ⟨H,I.tok _,q⟩
 | byt y =>
   obtain ⟨t,rfl⟩:=rx
   obtain ⟨hy,e'⟩ : y.size <= sizeLine /\ k = ((y.size : Int) != 0):=e
   subst e'
   exact PySem.W.truthy_bytes (by lia) ⟨H,I.tok _,q⟩
 | ref p =>
   cases rx
   have e' : (∃ xs,SqL X.K H p xs /\ k = !xs.isEmpty) \/ (∃ xs,SqT X.K H p xs /\ k = !xs.isEmpty) \/ ∃ kvs,H p = some (.dK kvs) /\ k = !kvs.isEmpty:=e
   rcases e' with ⟨xs,hx,e'⟩ | ⟨xs,hx,e'⟩ | ⟨kvs,hx,e'⟩
   . subst e'
     obtain ⟨its,r,pl,hz⟩:=I.list hx
     have hlen:=r.length
     exact wpAny_truthy_list pl.isList (by simp only [List.size_toArray]; lia) ⟨H,I.tok _,by rw [zfY r]; exact q⟩
   . subst e'
     obtain ⟨its,r,pl,hz⟩:=I.tuple hx
     have hlen:=r.length
     exact truthy_tuple pl (by simp only [List.size_toArray]; lia) ⟨H,I.tok _,by rw [zfY r]; exact q⟩
   . subst e'
     obtain ⟨hz,hS,vs,r,m⟩ : kvs.length <= sizeLine /\ (p == sysModules) = false /\ ∃ vs,KV kvs vs /\ s.heap.DictOf (zhd X.prog X.w) p vs:=I.hok p _ hx
     have hlen : kvs.length = vs.length:=Paired.length r
     exact wpAny_truthy_dict hS m (by lia) ⟨H,I.tok _,by rw [ziF r]; exact q⟩
 | _=>exact (show False from e).elim
theorem zla (ha : PE X a ta) (he : ∀ whole,isTrue a X.env whole = (do let v <- whole; standAt a.pos; holding [v] (truthy v))) :
   PT X a (fun σ H Q=>ta σ H fun x H'=>∃ k,zoa X.K x H' k /\ Q k H'):=by
 intro pins s σ H Q I h
 exact isTrue_plain (thn (ha pins s σ H _ I h) fun v s1 ⟨x,H1,I1,r1,q1⟩=>zol pins s1 σ H1 x v Q I1 r1 q1) (he _)
theorem ziK : OpR X (binaryOp .Add) (fun x y H Q=>∃ i j,x = .str i /\ y = .str j /\ i.length + j.length <= sizeLine /\ Q (.str (i ++ j)) H):=by
 intro pins s σ H x y v u Q I rx ry h
 obtain ⟨i,j,rfl,rfl,hz,q⟩:=h
 obtain ⟨t,rfl⟩:=rx
 obtain ⟨t',rfl⟩:=ry
 exact add_str (fun t' tk=>⟨.str (i ++ j),H,I.tok _,⟨_,rfl⟩,q⟩) hz
theorem zc1 {x : V} {us : List Value} (r : zap [x] us) : ∃ u,us = [u] /\ zaD x u:=by
 cases r with
 | cons r1 r2=>cases r2; exact ⟨_,rfl,r1⟩
theorem zpv {x y : V} {us : List Value} (r : zap [x,y] us) : ∃ u w',us = [u,w'] /\ zaD x u /\ zaD y w':=by
 cases r with
 | cons r1 r2 =>
   cases r2 with
   | cons r3 r4=>cases r4; exact ⟨_,_,rfl,r1,r3⟩
theorem zk3 : zaj X (.builtin "abs") (fun xs H Q=>∃ i,xs = [.int i] /\ Q (.int (if i < 0 then -i else i)) H):=by
 intro pins s σ H xs us Q I r h
 obtain ⟨i,rfl,q⟩:=h
 obtain ⟨u,rfl,t,rfl⟩:=zc1 r
 exact call_abs_int fun u tk=>⟨.int (if i < 0 then -i else i),H,I.tok _,⟨_,rfl⟩,q⟩
theorem zj8 : zaj X (.type "int") (fun xs H Q=>(∃ i,xs = [.int i] /\ Q (.int i) H) \/ ∃ k,xs = [.bl k] /\ Q (.int (if k then 1 else 0)) H):=by
 intro pins s σ H xs us Q I r h
 rcases h with ⟨i,rfl,q⟩ | ⟨k,rfl,q⟩
 . obtain ⟨u,rfl,t,rfl⟩:=zc1 r
   exact call_int_int ⟨.int i,H,I,⟨_,rfl⟩,q⟩
 . obtain ⟨u,rfl,r1⟩:=zc1 r
   cases r1
   exact call_int_bool ⟨.int (if k then 1 else 0),H,I.tok _,⟨_,rfl⟩,q⟩
theorem zhA : zaj X (.type "str") (fun xs H Q=>∃ i,xs = [.int i] /\ i.natAbs.log2 < 1920 /\ Q (.str (toString i)) H):=by
 intro pins s σ H xs us Q I r h
 obtain ⟨i,rfl,hz,q⟩:=h
 obtain ⟨u,rfl,t,rfl⟩:=zc1 r
 exact PySem.P.str_of_int hz ⟨.str _,H,I.tok _,⟨_,rfl⟩,q⟩
end
end L2
namespace L2
open PySem PySem.Spec PyProof.Rows
structure zpY (h : Heap) (x dx C : Addr) (mA : Str -> Option Value) : Prop where
 obj : h.get? x = some (PySem.W.instObj C dx)
 ns : h.Ns1 dx mA
 ne : dx ≠ x
section
variable {prog : Program} {w : World} {A : Around} {E : Value -> Shared -> Prop} {s : Shared} {K : PySem.W.Frag} {x dx C f : Addr} {mA : Str -> Option Value} {name : Str} {v : Value}
end
section
variable {P : Program} {w : World} {H H' : Hp} {h h' : Heap} {a C dx : Addr} {fs fs' : List (Str × V)}
end
structure Cls (K : PySem.W.Frag) (C : Addr) : Prop where
 pg : PySem.W.plainGet K C Str.empty = true
 hd : PySem.W.hasDictIn K C = true
 po : PySem.W.plainOver K C = true
 sa : PySem.W.findIn K (.ref C) "__setattr__" = some (some (.builtin "object.__setattr__"))
structure Con (K : PySem.W.Frag) (C : Addr) (f : Str) (v : V) (u : Value) : Prop where
 at_ : PySem.W.findIn K (.ref C) f = some (some u)
 rel : zaD v u
 get : PySem.W.specialIn K u "__get__" = some none
 cp : PySem.W.copiedNames.contains f = false
structure zp1 (K : PySem.W.Frag) (C : Addr) (m : Str) (f : Addr) : Prop where
 at_ : PySem.W.findIn K (.ref C) m = some (some (.ref f))
 fn : PySem.W.isFn K (.ref f) = true
 kp : PySem.W.keepIn K (.ref f) = true
section
variable {X : Cx} {pins : List (Addr × Obj)} {σ : St} {H : Hp} {s : Shared} {a C dx : Addr} {fs : List (Str × V)} {f : Str} {v : V} {A : Around} {E : Value -> Shared -> Prop}
end
section
variable {X : Cx} {o e value : Expr} {f : Str} {pos pos' tpos : Pos} {ta tv : TE}
end
section
variable {X : Cx} {pins : List (Addr × Obj)} {σ : St} {H : Hp} {s : Shared} {A : Around} {E : Value -> Shared -> Prop} {Q : Value -> Shared -> Prop} {c : Value} {b : Bool}
inductive zf6 (K : PySem.W.Frag) (H : Hp) : V -> Value -> Prop where
 | non : zf6 K H .non (.type "NoneType")
 | bl (x : Bool) : zf6 K H (.bl x) (.type "bool")
 | int (i : Int) : zf6 K H (.int i) (.type "int")
 | str (x : Str) : zf6 K H (.str x) (.type "str")
 | flt (x : UInt64) : zf6 K H (.flt x) (.type "float")
 | lst {a : Addr} {xs : List V} (e : H a = some (.lst xs)) : zf6 K H (.ref a) (.type "list")
 | frz {a : Addr} {o : Obj} {xs : List V} (e : H a = some (.frz o (.lst xs))) : zf6 K H (.ref a) (.type "list")
 | tup {a : Addr} {xs : List V} (e : H a = some (.tup xs)) : zf6 K H (.ref a) (.type "tuple")
 | dK {a : Addr} {kvs : List (Key × V)} (e : H a = some (.dK kvs)) : zf6 K H (.ref a) (.type "dict")
 | dT {a : Addr} {kvs : List (List Key × V)} (e : H a = some (.dT kvs)) : zf6 K H (.ref a) (.type "dict")
 | ins {a C dx : Addr} {fs : List (Str × V)} (e : H a = some (.ins C dx fs)) (cl : Cls K C) (ha : PySem.W.findIn K (.ref C) "__class__" = some (some (.builtin "object.__class__")))
     (hn : PySem.W.specialIn K (.builtin "object.__class__") "__get__" = some (some (.builtin "getset_descriptor.__get__"))) (htk : PySem.W.takesIn K (.builtin "object.__class__") = some true)
     (hm : PySem.W.mroIn K C (.type "object") = some true) : zf6 K H (.ref a) (.ref C)
end
end L2
namespace L2
open PySem PySem.Spec PyProof.Rows
structure zcO (k : Nat) (A : Around) : Prop where
 hd : A.handled = none
 dp : A.depth + 3 * k + 5 < recursionLimit
 un : A.units + 16 * k + 200 < cLine
 gd : A.guards = some []
theorem zcO.mono {j k : Nat} {A : Around} (r : zcO k A) (h : j <= k) : zcO j A:=⟨r.hd,by have:=r.dp; lia,by have:=r.un; lia,by first | exact r.gd | (simp [Around.under,Code.guards,Code.isGuard,guardIds]; exact r.gd)⟩
theorem zcO.deeper {k : Nat} {A : Around} (r : zcO (k + 1) A) (env : Env) : zcO k (A.deeper env) :=
 ⟨r.hd,by have:=r.dp; show A.depth + 1 + 3 * k + 5 < _; lia,by have:=r.un; show A.units + 3 + 16 * k + 200 < _; lia,by first | exact r.gd | (simp [Around.under,Code.guards,Code.isGuard,guardIds]; exact r.gd)⟩
theorem zcO.depth {k : Nat} {A : Around} (r : zcO k A) : A.depth < recursionLimit:=by have:=r.dp; lia
theorem zcO.units {k : Nat} {A : Around} (r : zcO k A) : A.units + 64 < cLine:=by have:=r.un; lia
def zn5 : TA:=fun _ H Q=>Q [] H
def zjP (ta : TE) (tr : TA) : TA:=fun σ H Q=>ta σ H fun x H1=>tr σ H1 fun xs H2=>Q (x :: xs) H2
section
variable {X : Cx} {e : Expr} {es : List Expr} {te : TE} {t : TA} {pos : Pos}
theorem zab : PA X [] zn5:=fun _ _ _ _ H Q I h=>Calls.spliced_nil ⟨[],H,I,.nil,h⟩
theorem zaa (ha : PE X e te) (hr : PA X es t) (hs : starEach (e :: es) X.env = (false,eval e X.env) :: starEach es X.env:=by rfl) : PA X (e :: es) (zjP te t):=by
 intro pos pins s σ H Q I h
 rw [hs]
 show wpAny _ _ (spliced ((false,eval e X.env) :: backTo pos (starEach es X.env))) _ _ s
 refine Calls.spliced_cons (thn (ha pins s σ H _ I h) fun u s1 ⟨x,H1,I1,r1,q1⟩=>?_)
 exact thn (hr pos pins s1 σ H1 _ I1 q1) fun us s2 ⟨xs,H2,I2,r2,q2⟩=>⟨x :: xs,H2,I2,.cons r1 r2,q2⟩
def zpN (t : TA) : TE:=fun σ H Q=>t σ H fun xs H1=>xs.length <= sizeLine /\ ∀ p,H1 p = none -> Q (.ref p) (upd H1 p (.tup xs))
def zpL (t : TA) : TE:=fun σ H Q=>t σ H fun xs H1=>xs.length <= sizeLine /\ ∀ p,H1 p = none -> Q (.ref p) (upd H1 p (.lst xs))
theorem zn1 {x1} (h : PA X es t) : PE X (.Tuple es x1 pos) (zpN t):=by
 intro pins s σ H Q I hq
 refine wpAny_Tuple_spliced (thn (h pos pins s σ H _ I hq) fun us s1 ⟨xs,H1,I1,r,z,q⟩=>⟨by rw [<- r.length]; exact z,?_⟩)
 have hf : H1 s1.heap.objs.size = none:=I1.hok.fresh (Nat.le_refl _)
 refine ⟨.ref s1.heap.objs.size,upd H1 s1.heap.objs.size (.tup xs),I1.laid (t':=s1.toks) (fun b u e=>Heap.get?_push_of_some _ e) (Nat.le_refl _) ?_,rfl,q _ hf⟩
 exact ⟨z,us,r,⟨_,Heap.get?_push_size _ rfl,rfl,_,rfl⟩⟩
theorem zon (h : PA X es t) : PE X (.List es pos) (zpL t):=by
 intro pins s σ H Q I hq
 refine wpAny_List_spliced (thn (h pos pins s σ H _ I hq) fun us s1 ⟨xs,H1,I1,r,z,q⟩=>⟨by rw [<- r.length]; exact z,?_⟩)
 have hf : H1 s1.heap.objs.size = none:=I1.hok.fresh (Nat.le_refl _)
 refine ⟨.ref s1.heap.objs.size,upd H1 s1.heap.objs.size (.lst xs),I1.laid (t':=s1.toks) (fun b u e=>Heap.get?_push_of_some _ e) (Nat.le_refl _) ?_,rfl,q _ hf⟩
 exact ⟨z,us,0,r,Heap.get?_push_size _ rfl⟩
end
abbrev Sp:=List V -> Hp -> VK -> XK -> Prop
abbrev CXT:=List Env -> Hp -> Shared -> XK -> Value -> Shared -> Prop
structure zk2 (P : Program) (w : World) (K : PySem.W.Frag) (mg : Str -> Option Value) (base : Heap) (A : Around) (outer : List Env) (s : Shared) (H : Hp) : Prop where
 frames : A.frames = some outer
 mod : Mod K mg base
 bs : ∀ b o,base.get? b = some o -> s.heap.get? b = some o /\ H b = none
 bsz : base.objs.size <= s.heap.objs.size
 funs : s.heap.FunFrames base outer
 frf : ∀ b ∈ frs outer,H b = none
 hok : HOk P w H s.heap
 bare : AllBare s.gens
def CE (outer : List Env) (P : Program) (w : World) (H : Hp) (s : Shared) (Q : VK) (u : Value) (s' : Shared) : Prop :=
 ∃ v H',s'.os = s.os /\ AllBare s'.gens /\ Un (frs outer) [] H H' s.heap s'.heap /\ HOk P w H' s'.heap /\ zaD v u /\ Q v H'
def CR (CX : CXT) (outer : List Env) (P : Program) (w : World) (H : Hp) (s : Shared) (Q : VK) (E : XK) (r : Result) (s' : Shared) : Prop :=
 match r with
 | .ok (.ret u)=>CE outer P w H s Q u s'
 | .ok _=>False
 | .error e=>CX outer H s E e s'
structure zaP (P : Program) (w : World) (K : PySem.W.Frag) (mg : Str -> Option Value) (base : Heap) (CX : CXT) (k : Nat) (f : Addr) (fd : FuncData) (ps : List Str) (sp : Sp) : Prop where
 len : ∀ vs H Q E,sp vs H Q E -> vs.length = ps.length
 run : ∀ (A : Around) (outer : List Env) (s : Shared) (H : Hp) (args : Args) (us : List Value) (vs : List V) (Q : VK) (E : XK),zcO k A -> zk2 P w K mg base A outer s H -> BindsTo s fd args (ps.zip us) -> zap vs us -> sp vs H Q E ->
   codeAny (model P w) A (.call (.ref f) args) (CR CX outer P w H s Q E) s
section
variable {X : Cx} {pins : List (Addr × Obj)} {σ : St} {H : Hp} {s s' : Shared}
theorem Inv.env0 (I : Inv X pins σ H s) : zk2 X.prog X.w X.K X.mg X.base X.A X.stack s H :=
 ⟨I.ok.frames,I.ok.mod,I.bs,Nat.le_trans I.ok.bsz I.sz,I.stack,I.stkFree,I.hok,I.bare⟩
theorem Inv.after {Q : VK} {u : Value} (I : Inv X pins σ H s) (h : CE X.stack X.prog X.w H s Q u s') : EP X pins σ Q u s':=by
 obtain ⟨v,H',os,bare,un,hok,r,q⟩:=h
 obtain ⟨hh,g,d,t,os'⟩:=s'
 obtain rfl : os' = s.os:=os
 exact ⟨v,H',I.call (h':=hh) (g':=g) (d':=d) (t':=t) (ch:=[]) un hok bare (fun b z=>absurd z (by simp)),r,q⟩
end
def zgL (sp : Sp) (dvs : List V) (E : XK) (t : TA) : TE:=fun σ H Q=>t σ H fun vs H1=>sp (vs ++ dvs) H1 Q E
def zgN (K : PySem.W.Frag) (fd : FuncData) (ps : List Str) (ds : List Value) : Prop :=
 ∀ (s : Shared) (us : List Value),K.In s.heap -> (us ++ ds).length = ps.length -> BindsTo s fd ⟨us,[]⟩ (ps.zip (us ++ ds))
theorem zgN.all {K : PySem.W.Frag} {fd : FuncData} {ps : List Str} (h : ∀ us : List Value,us.length = ps.length -> bindArgs fd ⟨us,[]⟩ = pure (ps.zip us)) : zgN K fd ps []:=fun s us _ hl=>by
 rw [List.append_nil] at hl ⊢
 exact .of_eq (h us hl)
def ze9 (CX : CXT) (X : Cx) (E : XK) : Prop:=∀ (pins : List (Addr × Obj)) (σ : St) (H : Hp) (s : Shared) (e : Value) (s' : Shared),Inv X pins σ H s -> CX X.stack H s E e s' -> X.xe e s'
section
variable {X : Cx} {CX : CXT} {k : Nat} {f C : Addr} {fd : FuncData} {ps : List Str} {sp : Sp} {dvs : List V} {ds : List Value} {E : XK} {x m : Str} {p pos apos : Pos} {e o : Expr} {es : List Expr} {ta : TE} {t : TA}
theorem zop {pins : List (Addr × Obj)} {σ : St} {H : Hp} {s : Shared} {Q : VK} {us : List Value} {vs : List V} (F : zaP X.prog X.w X.K X.mg X.base CX k f fd ps sp) (hr : zcO k X.A) (hb : zgN X.K fd ps ds) (hd : zap dvs ds) (hx : ze9 CX X E)
   (I : Inv X pins σ H s) (r : zap vs us) (h : sp (vs ++ dvs) H Q E) : wpAny (model X.prog X.w) X.A (call (.ref f) us) (EP X pins σ Q) X.xe s:=by
 have r2 : zap (vs ++ dvs) (us ++ ds):=r.append hd
 have hl : (us ++ ds).length = ps.length:=by rw [<- r2.length]; exact F.len _ _ _ _ h
 refine wpAny_call (codeAny_mono (F.run X.A X.stack s H ⟨us,[]⟩ (us ++ ds) (vs ++ dvs) Q E hr I.env0 (hb s us I.kIn hl) r2 h) fun r s' hq=>?_)
 cases r with
 | error e=>exact hx pins σ H s e s' I hq
 | ok fl =>
   cases fl with
   | ret u=>exact I.after hq
   | next=>exact False.elim hq
   | brk=>exact False.elim hq
   | cont=>exact False.elim hq
theorem zjq (F : zaP X.prog X.w X.K X.mg X.base CX k f fd ps sp) (hr : zcO k X.A) (hg : Gl X x) (hm : X.mg x = some (.ref f)) (hk : PySem.W.keepIn X.K (.ref f) = true) (hb : zgN X.K fd ps ds) (hd : zap dvs ds) (hx : ze9 CX X E)
   (ha : PA X (e :: es) t) (hdb : (x == ("__debug__" : Str)) = false:=by decide) (he : starEach (e :: es) X.env = (false,eval e X.env) :: starEach es X.env:=by rfl) (hpl : (backTo pos (starEach es X.env)).any (·.1) = false:=by rfl) :
   PE X (.Call (.Name x p) (e :: es) [] pos) (zgL sp dvs E t):=by
 intro pins s σ H Q I h
 refine wpAny_Call_Name_kw (zhg I hg hm ?_ hdb)
 refine PySem.W.callWith_K (h₀:=X.base) I.ok.mod.kin hk (thn (ha pos pins s σ H _ I h) fun us s1 ⟨vs,H1,I1,r,q⟩=>⟨I1.kIn,?_⟩) he hpl
 exact zop F hr hb hd hx I1 r q
structure Mk (K : PySem.W.Frag) (C f : Addr) : Prop where
 makes : PySem.W.makesIn K C = true
 init : PySem.W.findIn K (.ref C) "__init__" = some (some (.ref f))
 fn : PySem.W.isFn K (.ref f) = true
 kp : PySem.W.keepIn K (.ref C) = true
end
section
variable {X : Cx} {CX : CXT} {k : Nat} {f C : Addr} {fd : FuncData} {ps ks : List Str} {sp : Sp} {E : XK} {x m : Str} {p pos apos kpos : Pos} {e o : Expr} {es : List Expr} {kws : List Keyword} {te ta : TE} {t tk : TA} {nm : Option Str}
structure zpS (K : PySem.W.Frag) (fd : FuncData) (ps ks : List Str) (g : List Value -> List Value -> List Value) (gV : List V -> List V -> List V) : Prop where
 to : ∀ (s : Shared) (us ws : List Value),K.In s.heap -> (g us ws).length = ps.length -> BindsTo s fd ⟨us,ks.zip ws⟩ (ps.zip (g us ws))
 rel : ∀ {vs : List V} {us : List Value} {zs : List V} {ws : List Value},zap vs us -> zap zs ws -> zap (gV vs zs) (g us ws)
variable {g : List Value -> List Value -> List Value} {gV : List V -> List V -> List V}
end
structure zal (N P : List Str) (sc : Scope) : Prop where
 kind : sc.kind = .function
 co : sc.isCoroutine = false
 gen : sc.isGenerator = false
 nd : N.Nodup
 pre : N.take P.length = P
 par : ∀ x ∈ P,sc.names.lookup x = some .local \/ sc.names.lookup x = some .cell
 nofree : ∀ y ∈ sc.names,y.2 ≠ .free
theorem zg6 {kindOf : Str -> Option NameKind} {x : Str} : ∀ {binds : List (Str × Value)} {m : Str -> Option Value},(∀ v,(x,v) ∉ binds) -> bindL kindOf binds m x = m x
 | [],_,_=>rfl
 | (n,v) :: r,m,h=>by
   unfold bindL
   rw [zg6 fun w hw=>h w (List.mem_cons_of_mem _ hw)]
   split
   . have : x ≠ n:=by rintro rfl; exact h v List.mem_cons_self
     simp [this]
   . rfl
theorem zgQ {kindOf : Str -> Option NameKind} {x : Str} : ∀ {binds : List (Str × Value)} {m : Str -> Option Value},(∀ v,(x,v) ∉ binds) -> bindC kindOf binds m x = m x
 | [],_,_=>rfl
 | (n,v) :: r,m,h=>by
   unfold bindC
   rw [zgQ fun w hw=>h w (List.mem_cons_of_mem _ hw)]
   split
   . rfl
   . have : x ≠ n:=by rintro rfl; exact h v List.mem_cons_self
     simp [this]
theorem zg3 {kindOf : Str -> Option NameKind} {x : Str} {v : Value} : ∀ {P : List Str} {vs : List Value} {i : Nat} {m : Str -> Option Value},P.Nodup -> P[i]? = some x -> vs[i]? = some v -> kindOf x = some .local ->
   bindL kindOf (P.zip vs) m x = some v
 | [],_,_,_,_,h,_,_=>by simp at h
 | _ :: _,[],_,_,_,_,h,_=>by simp at h
 | p :: P,w :: vs,0,m,nd,h1,h2,hk=>by
   simp at h1 h2; subst h1; subst h2
   show bindL kindOf ((p,w) :: P.zip vs) m p = _
   unfold bindL
   rw [zg6 fun v hv=>(List.nodup_cons.mp nd).1 (List.of_mem_zip hv).1,if_pos hk]
   simp
 | p :: P,w :: vs,i + 1,m,nd,h1,h2,hk=>by
   show bindL kindOf ((p,w) :: P.zip vs) m x = _
   unfold bindL
   exact zg3 (i:=i) (List.nodup_cons.mp nd).2 (by simpa using h1) (by simpa using h2) hk
theorem zgO {kindOf : Str -> Option NameKind} {x : Str} {v : Value} : ∀ {P : List Str} {vs : List Value} {i : Nat} {m : Str -> Option Value},P.Nodup -> P[i]? = some x -> vs[i]? = some v -> kindOf x ≠ some .local ->
   bindC kindOf (P.zip vs) m x = some v
 | [],_,_,_,_,h,_,_=>by simp at h
 | _ :: _,[],_,_,_,_,h,_=>by simp at h
 | p :: P,w :: vs,0,m,nd,h1,h2,hk=>by
   simp at h1 h2; subst h1; subst h2
   show bindC kindOf ((p,w) :: P.zip vs) m p = _
   unfold bindC
   rw [zgQ fun v hv=>(List.nodup_cons.mp nd).1 (List.of_mem_zip hv).1,if_neg hk]
   simp
 | p :: P,w :: vs,i + 1,m,nd,h1,h2,hk=>by
   show bindC kindOf ((p,w) :: P.zip vs) m x = _
   unfold bindC
   exact zgO (i:=i) (List.nodup_cons.mp nd).2 (by simpa using h1) (by simpa using h2) hk
def start (N : List Str) (vs : List V) : St:=vs.map some ++ List.replicate (N.length - vs.length) none
def zf7 (CX : CXT) (P : Program) (w : World) (K : PySem.W.Frag) (mg : Str -> Option Value) (base : Heap) (N : List Str) (qual : Str) (scope : Scope) (f : Addr) (cd : Value) (A : Around) (outer : List Env) (s : Shared) (H : Hp) (E : XK) : Cx where
 prog:=P
 w:=w
 K:=K
 mg:=mg
 base:=base
 A:=A.deeper (envOfC qual scope s.heap.objs.size f cd)
 N:=N
 s₀:=s
 H₀:=H
 env:=envOfC qual scope s.heap.objs.size f cd
 outer:=outer
 stack:=envOfC qual scope s.heap.objs.size f cd :: outer
 ex:=[]
 calm:=true
 fn:=fun _=>true
 pn:=[]
 xe:=fun e s'=>wpAny (model P w) (A.deeper (envOfC qual scope s.heap.objs.size f cd)) (leaving (envOfC qual scope s.heap.objs.size f cd) e) (fun _ s''=>CX outer H s E e s'') (fun e' s''=>CX outer H s E e' s'') s'
theorem zgk {sc : Scope} {n : Nat} {x : Str} (h : sc.names.lookup x = some .cell) : ∃ c,(cellsFrom n sc.names []).lookup x = some c:=by
 have q:=PySem.W.cellsFrom_some sc.names n [] (.inl h)
 exact Option.isSome_iff_exists.mp q
theorem zj9 {CX : CXT} {P : Program} {w : World} {K : PySem.W.Frag} {mg : Str -> Option Value} {base : Heap} {N ps : List Str} {qual : Str} {scope : Scope} {f : Addr} {cd : Value} {A : Around} {outer : List Env} {s s1 : Shared} {H : Hp} {E : XK} {us : List Value} {vs : List V}
   (S : zal N ps scope) (hd : A.handled = none) (e0 : zk2 P w K mg base A outer s H) (hl : vs.length = ps.length) (r : zap vs us)
   (x : InCallC s s.heap.objs.size (bindL (envOfC qual scope s.heap.objs.size f cd).kindOf (ps.zip us) fun _=>none) (cellsFrom (s.heap.objs.size + 1) scope.names []) (bindC (envOfC qual scope s.heap.objs.size f cd).kindOf (ps.zip us) fun _=>none) s1) :
   Inv (zf7 CX P w K mg base N qual scope f cd A outer s H E) [] (start N vs) H s1:=by
 have hpl : ps.length <= N.length:=by have:=congrArg List.length S.pre; rw [List.length_take] at this; lia
 obtain ⟨h1,tk,rfl,hk⟩:=x.done
 have noA : ∀ b : Addr,b ∉ (zf7 CX P w K mg base N qual scope f cd A outer s H E).ex:=fun b z=>absurd (show b ∈ ([] : List Addr) from z) (by simp)
 refine ⟨⟨e0.mod,S.kind,rfl,rfl,Nat.le_refl _,fun y z c h1 h2=>?_,fun y hy=>?_,fun y c _ h=>?_,fun _=>hd,Around.frames_deeper e0.frames,.inr ⟨rfl,rfl⟩,fun b z=>absurd z (noA b),e0.bs,e0.bsz,fun b _ _=>noA b,fun b z=>absurd z (noA b),e0.funs,e0.frf⟩,
   rfl,e0.bare,Un.kept hk,⟨_,x.toInCall.ns,fun i y v h1 h2 h3=>?_⟩,fun y c h=>⟨_,x.cell y c h⟩,e0.hok.fresh (Nat.le_refl _),fun y c h=>?_,fun p hp=>absurd (show p ∈ ([] : List (Addr × Obj)) from hp) (by simp),e0.hok.kept hk,?_⟩
 . exact name_of_addr x.apart (PySem.mem_of_lookup h1) (PySem.mem_of_lookup h2)
 . have hy : scope.names.lookup y = some .cell \/ scope.names.lookup y = some .free:=hy
   rcases hy with hy | hy
   . exact zgk hy
   . exact absurd rfl (S.nofree _ (PySem.mem_of_lookup hy))
 . exact Nat.le_of_lt (x.above y c (PySem.mem_of_lookup h))
 . have hi : i < vs.length:=by
     unfold start at h2
     by_cases hi : i < vs.length
     . exact hi
     . rw [List.getElem?_append_right (by simpa using hi)] at h2
       rw [List.getElem?_replicate] at h2
       split at h2 <;> cases h2
   have ha : vs[i]? = some v:=by
     unfold start at h2
     rw [List.getElem?_append_left (by simpa using hi),List.getElem?_map] at h2
     cases e : vs[i]? with
     | none=>rw [e] at h2; cases h2
     | some a=>rw [e] at h2; cases h2; rfl
   obtain ⟨u,hu,rv⟩:=r.get ha
   have hp : ps[i]? = some y:=by
     rw [<- S.pre,List.getElem?_take_of_lt (by lia)]; exact h1
   have ndP : ps.Nodup:=by rw [<- S.pre]; exact S.nd.sublist (List.take_sublist _ _)
   refine ⟨u,rv,?_⟩
   rcases S.par y (List.mem_of_getElem? hp) with k | k
   . exact .inl ⟨k,zg3 ndP hp hu k⟩
   . obtain ⟨c,e⟩:=zgk (n:=s.heap.objs.size + 1) k
     refine .inr ⟨.inl k,c,e,?_⟩
     have q:=x.cell y c e
     rw [zgO ndP hp hu (by show scope.names.lookup y ≠ _; rw [k]; decide)] at q
     exact q
 . exact e0.hok.fresh (Nat.le_of_lt (x.above y c (PySem.mem_of_lookup h)))
 . unfold start
   show _ = N.length
   rw [List.length_append,List.length_map,List.length_replicate]
   lia
theorem znF {CX : CXT} {P : Program} {w : World} {K : PySem.W.Frag} {mg : Str -> Option Value} {base : Heap} {k : Nat} {f : Addr} {name qual : Str} {params : Arguments} {body : List Stmt} {scope : Scope} {dV kV doc pm cdv ct oc : Value} {an od : Option Addr}
   {osl : Array (Option Value)} {N ps : List Str} {sp : Sp} (lk : K.lookup f = some ⟨oc,od,.func (PySem.W.fnOf name qual params body scope dV kV doc pm an cdv ct),osl⟩) (hcd : PySem.W.codeIn K cdv qual = true) (S : zal N ps scope)
   (len : ∀ vs H Q E,sp vs H Q E -> vs.length = ps.length)
   (hbody : ∀ (A : Around) (outer : List Env) (s : Shared) (H : Hp) (vs : List V) (Q : VK) (E : XK),zcO k (A.deeper (envOfC qual scope s.heap.objs.size f cdv)) -> sp vs H Q E ->
     ∃ t,PSs (zf7 CX P w K mg base N qual scope f cdv A outer s H E) body t /\ t { nx:=fun _ H'=>Q .non H',rt:=Q } (start N vs) H) :
   zaP P w K mg base CX (k + 1) f (PySem.W.fnOf name qual params body scope dV kV doc pm an cdv ct) ps sp:=by
 refine ⟨len,fun A outer s H args us vs Q E hr e0 hb r hsp=>?_⟩
 have hl:=len _ _ _ _ hsp
 have KX : K.In s.heap:=e0.mod.kin.keeps fun b o e=>(e0.bs b o e).1
 have lim : s.heap.NoLimit:=e0.mod.nolimit.keeps fun b o e=>(e0.bs b o e).1
 have hkind : ∀ y ∈ ps.zip us,scope.names.lookup y.1 = some .local \/ (scope.names.lookup y.1 = some .cell /\ ((cellsFrom (s.heap.objs.size + 1) scope.names []).lookup y.1).isSome = true):=fun ⟨n,v⟩ hy=>by
   rcases S.par n (List.of_mem_zip hy).1 with q | q
   . exact .inl q
   . exact .inr ⟨q,PySem.W.cellsFrom_some _ _ _ (.inl q)⟩
 refine codeAny_call_function hr.depth (KX _ _ lk) rfl S.co S.gen rfl (PySem.W.codeRec_of KX hcd) (hb _ _ _ _ ?_)
 refine wpAny_newFunctionEnv_cells S.kind hkind fun env he s1 x=>?_
 subst he
 refine ⟨lim.keeps x.toInCall.keep,codeAny_func ?_⟩
 obtain ⟨t,ht,hq⟩:=hbody A outer s H vs Q E (hr.deeper _) hsp
 have I : Inv (zf7 CX P w K mg base N qual scope f cdv A outer s H E) [] (start N vs) H s1:=zj9 S hr.hd e0 hl r x
 refine wpAny_mono (ht [] s1 (start N vs) H _ I hq) (fun fl s' hs=>?_) fun e s' hs=>hs
 have fin : ∀ {σ' : St} {H' : Hp} {v : V} {u : Value},Inv (zf7 CX P w K mg base N qual scope f cdv A outer s H E) [] σ' H' s' -> zaD v u -> Q v H' -> CE outer P w H s Q u s' :=
   fun {σ' H' v u} J rv q=>⟨v,H',J.os,J.bare,J.base,J.hok,rv,q⟩
 cases fl with
 | ret u =>
   obtain ⟨v,σ',H',J,rv,q⟩:=hs
   exact fin J rv q
 | next =>
   obtain ⟨σ',H',J,q⟩:=hs
   exact fin (v:=V.non) (u:=Value.none) J rfl q
 | brk =>
   obtain ⟨_,_,_,q⟩:=hs
   exact False.elim q
 | cont =>
   obtain ⟨_,_,_,q⟩:=hs
   exact False.elim q
end L2
namespace L2
open PySem PySem.Spec PyProof.Rows
section
variable {X : Cx} {x : Str} {p pos : Pos} {e : Expr} {es : List Expr} {t : TA} {id T : String} {r : List V -> Hp -> VK -> Prop}
def tCB (r : List V -> Hp -> VK -> Prop) (t : TA) : TE:=fun σ H Q=>t σ H fun vs H1=>r vs H1 Q
theorem zai (hc : zaj X (.builtin id) r) (hg : Gl X x) (hm : X.mg x = none) (hv : bootBuiltins x = some (.builtin id)) (ha : PA X (e :: es) t) (hn : x ≠ "__name__":=by decide) (hdb : (x == ("__debug__" : Str)) = false:=by decide)
   (he : starEach (e :: es) X.env = (false,eval e X.env) :: starEach es X.env:=by rfl) (hpl : (backTo pos (starEach es X.env)).any (·.1) = false:=by rfl) : PE X (.Call (.Name x p) (e :: es) [] pos) (tCB r t):=by
 intro pins s σ H Q I h
 refine wpAny_Call_Name_kw (zhp I hg hm hv ?_ hn hdb)
 exact PyProof.Rows.callWith_builtin1 (thn (ha pos pins s σ H _ I h) fun us s1 ⟨vs,H1,I1,r1,q1⟩=>hc pins s1 σ H1 vs us Q I1 r1 q1) he hpl
theorem zao (hc : zaj X (.type T) r) (hg : Gl X x) (hm : X.mg x = none) (hv : bootBuiltins x = some (.type T)) (ha : PA X (e :: es) t) (hn : x ≠ "__name__":=by decide) (hdb : (x == ("__debug__" : Str)) = false:=by decide)
   (he : starEach (e :: es) X.env = (false,eval e X.env) :: starEach es X.env:=by rfl) (hpl : (backTo pos (starEach es X.env)).any (·.1) = false:=by rfl) : PE X (.Call (.Name x p) (e :: es) [] pos) (tCB r t):=by
 intro pins s σ H Q I h
 refine wpAny_Call_Name_kw (zhp I hg hm hv ?_ hn hdb)
 exact PyProof.Rows.callWith_type1 (thn (ha pos pins s σ H _ I h) fun us s1 ⟨vs,H1,I1,r1,q1⟩=>hc pins s1 σ H1 vs us Q I1 r1 q1) he hpl
end
end L2
namespace L2
open PySem PySem.Spec PyProof.Rows
section
variable {κ : Type} [DecidableEq κ]
end
abbrev KT (H : Hp) : List (List Key × V) -> List (List Key × Addr × Value) -> Prop:=Paired fun p q=>p.1 = q.1 /\ H q.2.1 = some (.tup (p.1.map kV)) /\ zaD p.2 q.2.2
section
variable {P : Program} {w : World} {H : Hp} {h : Heap} {a : Addr}
end
section
variable {X : Cx} {pins : List (Addr × Obj)} {σ : St} {H : Hp} {s : Shared} {a : Addr} {y v : V} {u r : Value} {o : Option V} {A : Around} {E : Value -> Shared -> Prop}
end
section
variable {X : Cx} {pins : List (Addr × Obj)} {σ : St} {H : Hp} {s : Shared} {a : Addr} {kvs : List (Key × V)} {k : Key} {u : Value} {A : Around} {E : Value -> Shared -> Prop}
end
section
variable {X : Cx} {o i e value : Expr} {pos pos' tpos : Pos} {td ty tv : TE}
end
section
variable {X : Cx} {pos : Pos}
end
abbrev VV : List (V × V) -> List (Value × Value) -> Prop:=Paired fun p q=>zaD p.1 q.1 /\ zaD p.2 q.2
structure M1 (X : Cx) (o : Expr) (m : Str) (apos : Pos) (e : Expr) (cpos : Pos) : Prop where
 base : attributeBase o m X.env (eval o X.env) = eval o X.env
 few : ((backTo cpos (starEach [e] X.env)).all (fun x=>!x.1) && (backToKw cpos (keywordEach [] X.env)).all (fun x=>x.1.isSome)
   && decide (([e] : List Expr).length + ([] : List Keyword).length + (if ([] : List Keyword).isEmpty then 0 else 1) < 30)) = true
 line : (apos.endLine == cpos.line) = true
 trees : backTo cpos (starEach [e] X.env) = [(false,eval e X.env)]
structure M2 (X : Cx) (o : Expr) (m : Str) (apos : Pos) (e f : Expr) (cpos : Pos) : Prop where
 base : attributeBase o m X.env (eval o X.env) = eval o X.env
 few : ((backTo cpos (starEach [e,f] X.env)).all (fun x=>!x.1) && (backToKw cpos (keywordEach [] X.env)).all (fun x=>x.1.isSome)
   && decide (([e,f] : List Expr).length + ([] : List Keyword).length + (if ([] : List Keyword).isEmpty then 0 else 1) < 30)) = true
 line : (apos.endLine == cpos.line) = true
 trees : backTo cpos (starEach [e,f] X.env) = [(false,eval e X.env),(false,eval f X.env)]
section
variable {X : Cx} {pins : List (Addr × Obj)} {σ : St} {H : Hp} {s : Shared} {a : Addr} {y d : V} {u r : Value} {o : Option V} {A : Around} {E : Value -> Shared -> Prop}
end
section
variable {X : Cx} {o e f : Expr} {apos cpos : Pos} {td ty tx : TE}
end
section
variable {X : Cx} {pins : List (Addr × Obj)} {σ : St} {H : Hp} {s : Shared} {a : Addr} {kvs : List (Key × V)} {A : Around} {E : Value -> Shared -> Prop}
end
section
variable {X : Cx} {pins : List (Addr × Obj)} {σ : St} {H : Hp} {s : Shared} {a : Addr} {y : V} {u : Value} {A : Around} {E : Value -> Shared -> Prop}
end
end L2
namespace HT
open PySem PyProof.Rows
section
open PySem.SeqAt
open PySem.AutoSeq1 (wpAny_loadPart')
open PySem.MeetsSeq PySem.MeetsSeq2 PySem.MeetsSeq3
end
section
variable {prog : Program} {w : World} {A : Around} {E : Value -> Shared -> Prop} {s : Shared}
theorem cat_tup {t b : Addr} {vs ws : List Value} {Q : Value -> Shared -> Prop} (ht : IsTup s.heap t vs.toArray) (hb : IsTup s.heap b ws.toArray) (hv : vs ≠ [])
   (h1 : ws = [] -> Q (.ref t) s) (h2 : ws ≠ [] -> Q (.ref s.heap.objs.size) { s with heap:=s.heap.push { cls:=.type "tuple",data:=.seq (vs ++ ws).toArray } })
   (hsz : vs.length + ws.length <= sizeLine) : wpAny (model prog w) A (binaryOp .Add (.ref t) (.ref b)) Q E s:=by
 obtain ⟨⟨cls,dd,data,sl⟩,ho,hc,n,hd⟩:=id ht
 obtain ⟨⟨cls2,dd2,data2,sl2⟩,ho2,hc2,n2,hd2⟩:=id hb
 simp only at hc hd hc2 hd2
 subst hc hd hc2 hd2
 have e : vs.toArray ++ ws.toArray = (vs ++ ws).toArray:=by simp
 by_cases hw : ws = []
 . exact concat_meets ⟨_,ho,rfl⟩ ⟨_,ho2,rfl⟩ noFill_tuple_add seq_tuple_add PySem.F.slot_tuple_add PySem.F.entry_tuple_add (PySem.F.args_tuple_add_2 _ _)
     (tuple_addW1 t b vs.toArray ws.toArray n n2 dd dd2 sl sl2 (by simpa using hv) (by simp [hw])) ⟨ho,ho2,h1 hw⟩
 . refine concat_meets ⟨_,ho,rfl⟩ ⟨_,ho2,rfl⟩ noFill_tuple_add seq_tuple_add PySem.F.slot_tuple_add PySem.F.entry_tuple_add (PySem.F.args_tuple_add_2 _ _)
     (tuple_addW2 t b vs.toArray ws.toArray n n2 dd dd2 sl sl2 (by simpa using hv) (by simpa using hw) (by rw [List.size_toArray,List.size_toArray]; exact hsz)) ⟨ho,ho2,?_⟩
   rw [e]
   exact h2 hw
def sIx (n d : Nat) : Option Int -> Nat
 | none=>d
 | some v=>if v < 0 then (v + (n : Int)).toNat else min v.toNat n
theorem zoQ (n d : Nat) (hd : d <= n) (o : Option Int) : sIx n d o <= n:=by
 cases o with
 | none=>exact hd
 | some v =>
   show (if v < 0 then (v + (n : Int)).toNat else min v.toNat n) <= n
   by_cases hv : v < 0
   . rw [if_pos hv]; lia
   . rw [if_neg hv]; exact Nat.min_le_right _ _
theorem zjA (v : Int) (n d : Nat) : (if v < 0 then max (v + (n : Int)) 0 else min v (n : Int)) = ((sIx n d (some v) : Nat) : Int):=by
 show (if v < 0 then max (v + (n : Int)) 0 else min v (n : Int)) = (((if v < 0 then (v + (n : Int)).toNat else min v.toNat n) : Nat) : Int)
 by_cases hv : v < 0
 . simp only [if_pos hv]; lia
 . simp only [if_neg hv]; lia
theorem zi6 (lo hi : Option Int) (n : Nat) : Builtin.Slice.sliceAdjust lo hi 1 (n : Int) = (((sIx n 0 lo : Nat) : Int),((sIx n n hi : Nat) : Int)):=by
 have h1 : ¬ ((1 : Int) < 0):=by lia
 unfold Builtin.Slice.sliceAdjust
 simp only [h1,if_false]
 refine Prod.ext ?_ ?_
 . cases lo with
   | none=>rfl
   | some v=>exact zjA v n 0
 . cases hi with
   | none=>rfl
   | some v=>exact zjA v n n
theorem ziW (i j : Nat) : Builtin.Slice.slicePlaces (i : Int) (j : Int) 1 = j - i:=by
 unfold Builtin.Slice.slicePlaces
 have h1 : (1 : Int) > 0:=by lia
 simp only [h1,if_true,Int.ediv_one]
 split <;> lia
theorem zgw {v : Value} {o : Option Int} {Q : Option Int -> Shared -> Prop} (p : IsPart v o) (h : Q o s) : wpAny (model prog w) A (Builtin.Slice.slicePartIndex v) Q E s:=by
 cases p with
 | none=>exact slicePart_none h
 | int i t=>exact slicePart_int h
theorem zfm {sl : Addr} {vl vu : Value} {lo hi : Option Int} {n : Nat} {Q : Int × Int × Nat -> Shared -> Prop} (hs : s.heap.IsSliceOf sl vl vu .none) (pl : IsPart vl lo) (pu : IsPart vu hi)
   (h : Q (((sIx n 0 lo : Nat) : Int),1,sIx n n hi - sIx n 0 lo) s) : wpAny (model prog w) A (Builtin.Slice.sliceApplied (.ref sl) (pure (n : Int))) Q E s:=by
 obtain ⟨os,hos,hcs,hds⟩:=id hs
 unfold Builtin.Slice.sliceApplied Builtin.Slice.sliceFields
 refine wpAny_bind (wpAny_bind (wpAny_field hos hds (x:=vl) rfl (wpAny_bind (wpAny_field hos hds (x:=vu) rfl (wpAny_bind (wpAny_field hos hds (x:=.none) rfl (wpAny_pure ?_)))))))
 refine wpAny_bind (slicePart_none ?_)
 show wpAny _ _ (if ((1 : Int) == 0) = true then _ else _) _ _ s
 rw [if_neg (by decide)]
 refine wpAny_bind (zgw pl (wpAny_bind (zgw pu (wpAny_bind (wpAny_pure ?_)))))
 show wpAny _ _ (match Builtin.Slice.sliceAdjust lo hi 1 (n : Int) with | (lo,hi)=>pure (lo,(1 : Int),Builtin.Slice.slicePlaces lo hi 1)) _ _ s
 rw [zi6 lo hi n]
 show wpAny _ _ (pure (((sIx n 0 lo : Nat) : Int),(1 : Int),Builtin.Slice.slicePlaces ((sIx n 0 lo : Nat) : Int) ((sIx n n hi : Nat) : Int) 1)) _ _ s
 rw [ziW]
 exact wpAny_pure h
theorem zkP (xs : Array Value) (i k : Nat) : ((List.range k).filterMap fun (m : Nat)=>xs[((i : Int) + (m : Int) * 1).toNat]?).toArray = ((xs.toList.drop i).take k).toArray:=by
 have e : (fun (m : Nat)=>xs[((i : Int) + (m : Int) * 1).toNat]?) = fun m=>xs[i + m]?:=by
   funext m
   have : ((i : Int) + (m : Int) * 1).toNat = i + m:=by lia
   rw [this]
 rw [e]
 have:=pick_run xs i k
 rw [List.filterMap_map] at this
 have e2 : ((fun x=>xs[x]?) ∘ fun x=>i + x) = fun m=>xs[i + m]?:=rfl
 rw [e2] at this
 rw [this]
theorem getItem_tuple_cut {t sl : Addr} {items : Array Value} {vl vu : Value} {lo hi : Option Int} {Q : Value -> Shared -> Prop} (ht : IsTup s.heap t items) (hs : s.heap.IsSliceOf sl vl vu .none) (pl : IsPart vl lo) (pu : IsPart vu hi)
   (hw : ¬ (sIx items.size 0 lo = 0 /\ sIx items.size items.size hi = items.size))
   (h : Q (.ref s.heap.objs.size) { s with heap:=s.heap.push { cls:=.type "tuple",data:=.seq ((items.toList.drop (sIx items.size 0 lo)).take (sIx items.size items.size hi - sIx items.size 0 lo)).toArray } })
   (hsz : items.size <= sizeLine) : wpAny (model prog w) A (getItem (.ref t) (.ref sl)) Q E s:=by
 have htake : sizeOk (.seq ((items.toList.drop (sIx items.size 0 lo)).take (sIx items.size items.size hi - sIx items.size 0 lo)).toArray):=by
   show ((items.toList.drop (sIx items.size 0 lo)).take (sIx items.size items.size hi - sIx items.size 0 lo)).toArray.size <= sizeLine
   rw [List.size_toArray,List.length_take,List.length_drop,Array.length_toList]
   lia
 have hj : sIx items.size items.size hi <= items.size:=zoQ _ _ (Nat.le_refl _) hi
 obtain ⟨os,hos,hcs,hds⟩:=id hs
 have hTs : s.TypeIs (.ref sl) "slice":=⟨os,hos,hcs⟩
 unfold getItem
 try with_reducible refine wpAny_holding ?_
 first | refine wpAny_bind (wpAny_pure ?_) | skip
 refine wpAny_bind (wpAny_sequenceKey ht.typeIs (by decide) ?_)
 refine wpAny_bind (wpAny_callSpecial?_slot (name:=Str.ofString "__getitem__") ht.typeIs PyProof.Rows.slot_tuple_getitem
   (wpAny_call_entry PyProof.Rows.slot_tuple_getitem ht.typeIs entry_tuple_getitem ?_ (args_tuple_getitem _ _)))
 show wpAny _ _ (Builtin.Tuple.tupleItemsOf (.ref t) >>= _) _ _ s
 refine wpAny_bind (tupleItemsOf_ ht ?_)
 refine wpAny_bind (wpAny_typeOf hTs ?_)
 rw [if_pos (by decide)]
 refine wpAny_bind (zfm hs pl pu ?_)
 have hno : ¬ ((((sIx items.size 0 lo : Nat) : Int) == 0 && (1 : Int) == 1 && (sIx items.size items.size hi - sIx items.size 0 lo) == items.size) = true):=by
   intro q
   rw [Bool.and_eq_true,Bool.and_eq_true] at q
   have q1 : ((sIx items.size 0 lo : Nat) : Int) = 0:=eq_of_beq q.1.1
   have q2 : sIx items.size items.size hi - sIx items.size 0 lo = items.size:=eq_of_beq q.2
   exact hw ⟨by lia,by lia⟩
 show wpAny _ _ (if (((sIx items.size 0 lo : Nat) : Int) == 0 && (1 : Int) == 1 && (sIx items.size items.size hi - sIx items.size 0 lo) == items.size) = true then _ else _) _ _ s
 rw [if_neg hno,zkP]
 first
   | exact wpAny_bind (m:=Builtin.Tuple.tupleExact _) (wpAny_newObj_type (wpAny_pure ⟨_,rfl,wpAny_pure h⟩) htake)
   | exact wpAny_bind (m:=Builtin.Tuple.tupleExact _) (wpAny_newObj_type (wpAny_bind (wpAny_pure (wpAny_pure ⟨_,rfl,wpAny_pure h⟩))) htake)
   | exact wpAny_bind (wpAny_bind (m:=Builtin.Tuple.tupleExact _) (wpAny_newObj_type (wpAny_pure (wpAny_pure ⟨_,rfl,wpAny_pure h⟩)) htake))
   | exact wpAny_bind (wpAny_bind (m:=Builtin.Tuple.tupleExact _) (wpAny_newObj_type (wpAny_pure ⟨_,rfl,wpAny_pure h⟩) htake))
end
end HT
namespace L2
open PySem PySem.Spec PyProof.Rows
abbrev TO:=St -> Hp -> (Option Int -> Hp -> Prop) -> Prop
def PO (X : Cx) (e : Option Expr) (t : TO) : Prop :=
 ∀ (pins : List (Addr × Obj)) (s : Shared) (σ : St) (H : Hp) (Q : Option Int -> Hp -> Prop),Inv X pins σ H s -> t σ H Q ->
   wpAny (model X.prog X.w) X.A (evalPart e X.env) (fun u s'=>∃ o H',Inv X pins σ H' s' /\ IsPart u o /\ Q o H') X.xe s
def zjx : TO:=fun _ H Q=>Q none H
def znb (t : TE) : TO:=fun σ H Q=>t σ H fun x H1=>∃ i,x = .int i /\ Q (some i) H1
section
variable {X : Cx} {e : Expr} {te : TE} {lo hi : Option Expr} {tl th : TO} {pos p2 : Pos}
theorem zc5 : PO X none zjx:=by
 intro pins s σ H Q I h
 rw [evalPart_none]
 exact wpAny_pure ⟨none,H,I,.none,h⟩
theorem zdc (h : PE X e te) : PO X (some e) (znb te):=by
 intro pins s σ H Q I hw
 rw [evalPart_some]
 refine thn (h pins s σ H _ I hw) fun u s1 ⟨x,H1,I1,r1,q1⟩=>?_
 obtain ⟨i,rfl,q⟩:=q1
 obtain ⟨t,rfl⟩:=r1
 exact ⟨some i,H1,I1,.int i t,q⟩
def SlR (X : Cx) (r : V -> Option Int -> Option Int -> Hp -> VK -> Prop) : Prop :=
 ∀ (pins : List (Addr × Obj)) (s : Shared) (σ : St) (H : Hp) (x : V) (v vl vu : Value) (lo hi : Option Int) (sl : Addr) (Q : VK),Inv X pins σ H s -> zaD x v -> s.heap.IsSliceOf sl vl vu .none -> IsPart vl lo -> IsPart vu hi -> r x lo hi H Q ->
   ∃ T id,typeLookup (.type T) "__getitem__" = pure (some (.builtin id)) /\ s.TypeIs v T /\ wpAny (model X.prog X.w) X.A (getItem v (.ref sl)) (EP X pins σ Q) X.xe s
theorem SlR.or {r r' : V -> Option Int -> Option Int -> Hp -> VK -> Prop} (h : SlR X r) (h' : SlR X r') : SlR X (fun x lo hi H Q=>r x lo hi H Q \/ r' x lo hi H Q):=by
 intro pins s σ H x v vl vu lo hi sl Q I rx hs pl pu q
 rcases q with q | q
 . exact h pins s σ H x v vl vu lo hi sl Q I rx hs pl pu q
 . exact h' pins s σ H x v vl vu lo hi sl Q I rx hs pl pu q
def tSl (r : V -> Option Int -> Option Int -> Hp -> VK -> Prop) (te : TE) (tl th : TO) : TE:=fun σ H Q=>te σ H fun x H1=>tl σ H1 fun l H2=>th σ H2 fun u H3=>r x l u H3 Q
theorem zce {r : V -> Option Int -> Option Int -> Hp -> VK -> Prop} (hr : SlR X r) (he : PE X e te) (hl : PO X lo tl) (hu : PO X hi th) : PE X (.Subscript e (.Slice lo hi none p2) pos) (tSl r te tl th):=by
 intro pins s σ H Q I h
 refine Subscript_ (thn (he pins s σ H _ I h) fun v s1 ⟨x,H1,I1,r1,q1⟩=>?_)
 refine wpAny_Slice (thn (hl pins s1 σ H1 _ I1 q1) fun vl s2 ⟨l,H2,I2,pl,q2⟩=>thn (hu pins s2 σ H2 _ I2 q2) fun vu s3 ⟨u,H3,I3,pu,q3⟩=>?_)
 rw [evalPart_none]
 refine wpAny_pure ?_
 have I4 : Inv X pins σ H3 { s3 with heap:=s3.heap.push { cls:=.type "slice",data:=.fields #[vl,vu,.none] } }:=I3.kept (t':=s3.toks) fun b ob q=>Heap.get?_push_of_some _ q
 obtain ⟨T,id,hT,ht,hg⟩:=hr pins { s3 with heap:=s3.heap.push { cls:=.type "slice",data:=.fields #[vl,vu,.none] } } σ H3 x v vl vu l u s3.heap.objs.size Q I4 r1 (Heap.IsSliceOf.new ..) pl pu q3
 show wpAny (model X.prog X.w) X.A (subscriptTail e (.Slice lo hi none p2) v (.ref s3.heap.objs.size)) (EP X pins σ Q) X.xe { s3 with heap:=s3.heap.push { cls:=.type "slice",data:=.fields #[vl,vu,.none] } }
 exact tail_any (ops:=[.ref s3.heap.objs.size,v]) ht hT hg (by with_unfolding_all rfl)
def ze0 (xs : List V) (lo hi : Option Int) : List V:=(xs.drop (HT.sIx xs.length 0 lo)).take (HT.sIx xs.length xs.length hi - HT.sIx xs.length 0 lo)
theorem zfA (xs : List V) (lo hi : Option Int) : (ze0 xs lo hi).length <= xs.length:=by
 unfold ze0
 rw [List.length_take,List.length_drop]
 lia
def zo5 (K : PySem.W.Frag) : V -> Option Int -> Option Int -> Hp -> VK -> Prop:=fun x lo hi H Q=>∃ a xs,x = .ref a /\ SqT K H a xs /\
 ¬ (HT.sIx xs.length 0 lo = 0 /\ HT.sIx xs.length xs.length hi = xs.length) /\ ∀ p,H p = none -> Q (.ref p) (upd H p (.tup (ze0 xs lo hi)))
theorem zoe : SlR X (zo5 X.K):=by
 intro pins s σ H x v vl vu lo hi sl Q I rx hs pl pu h
 obtain ⟨a,xs,rfl,hx,hw,q⟩:=h
 cases rx
 obtain ⟨its,r,ht,hz⟩:=I.tuple hx
 have hlen : its.toArray.size = xs.length:=by rw [List.size_toArray]; exact r.length.symm
 refine ⟨"tuple",_,PyProof.Rows.slot_tuple_getitem.lookup,ht.typeIs,?_⟩
 refine HT.getItem_tuple_cut ht hs pl pu (by rw [hlen]; exact hw) ?_ (by rw [hlen]; exact hz)
 rw [hlen]
 refine ⟨.ref s.heap.objs.size,_,I.laid (t':=s.toks) (o:=.tup (ze0 xs lo hi)) (fun b ob q=>Heap.get?_push_of_some _ q) (Nat.le_refl _) ?_,rfl,q _ (I.hok.fresh (Nat.le_refl _))⟩
 exact ⟨Nat.le_trans (zfA xs lo hi) hz,_,(r.drop (HT.sIx xs.length 0 lo)).take (HT.sIx xs.length xs.length hi - HT.sIx xs.length 0 lo),IsTup.new _ _⟩
def znp (K : PySem.W.Frag) : R2:=fun x y H Q=>∃ a b xs ys,x = .ref a /\ y = .ref b /\ SqT K H a xs /\ SqT K H b ys /\ xs ≠ [] /\ xs.length + ys.length <= sizeLine /\
 (ys = [] -> Q (.ref a) H) /\ (ys ≠ [] -> ∀ p,H p = none -> Q (.ref p) (upd H p (.tup (xs ++ ys))))
theorem zap.nil_iff {xs : List V} {us : List Value} (r : zap xs us) : us = [] ↔ xs = []:=by
 cases r with
 | nil=>simp
 | cons _ _=>simp
theorem zmq : OpR X (binaryOp .Add) (znp X.K):=by
 intro pins s σ H x y v u Q I rx ry h
 obtain ⟨a,b,xs,ys,rfl,rfl,ha,hb,hx,hz,q1,q2⟩:=h
 cases rx
 cases ry
 obtain ⟨its,r1,p1,_⟩:=I.tuple ha
 obtain ⟨its2,r2,p2,_⟩:=I.tuple hb
 refine HT.cat_tup p1 p2 (fun z=>hx (r1.nil_iff.mp z)) (fun z=>⟨.ref a,H,I,rfl,q1 (r2.nil_iff.mp z)⟩) (fun z=>?_) (by rw [<- r1.length,<- r2.length]; exact hz)
 refine ⟨.ref s.heap.objs.size,_,I.laid (t':=s.toks) (o:=.tup (xs ++ ys)) (fun b ob q=>Heap.get?_push_of_some _ q) (Nat.le_refl _) ?_,rfl,q2 (fun w=>z (r2.nil_iff.mpr w)) _ (I.hok.fresh (Nat.le_refl _))⟩
 exact ⟨by rw [List.length_append]; exact hz,_,r1.append r2,IsTup.new _ _⟩
end
end L2
namespace L2
open PySem PySem.Spec PyProof.Rows
def ixN (n : Nat) (i : Int) : Option Nat:=if 0 <= i then (if i < n then some i.toNat else none) else if -(n : Int) <= i then some (i + n).toNat else none
def atI {α : Type} (xs : List α) (i : Int) : Option α:=(ixN xs.length i).bind fun j=>xs[j]?
theorem zju {n : Nat} {i : Int} {j : Nat} (h : ixN n i = some j) : seqIndex? i n = some j /\ j < n /\ -(n : Int) <= i /\ i < n:=by
 unfold ixN at h
 by_cases h0 : 0 <= i
 . rw [if_pos h0] at h
   by_cases h1 : i < n
   . rw [if_pos h1] at h
     have e : i.toNat = j:=Option.some.inj h
     exact ⟨by rw [seqIndex_of h0 h1,e],by lia,by lia,h1⟩
   . rw [if_neg h1] at h; cases h
 . rw [if_neg h0] at h
   by_cases h1 : -(n : Int) <= i
   . rw [if_pos h1] at h
     have e : (i + n).toNat = j:=Option.some.inj h
     exact ⟨by rw [seqIndex_neg (by lia) h1,e],by lia,h1,by lia⟩
   . rw [if_neg h1] at h; cases h
theorem zhc {α : Type} {xs : List α} {i : Int} {v : α} (h : atI xs i = some v) : ∃ j,seqIndex? i xs.length = some j /\ xs[j]? = some v /\ j < xs.length /\ -(xs.length : Int) <= i /\ i < xs.length:=by
 unfold atI at h
 cases e : ixN xs.length i with
 | none=>rw [e] at h; cases h
 | some j =>
   rw [e] at h
   obtain ⟨h1,h2,h3,h4⟩:=zju e
   exact ⟨j,h1,h,h2,h3,h4⟩
theorem zdV {α : Type} {xs : List α} {j : Nat} {v : α} (h : xs[j]? = some v) : atI xs (j : Int) = some v:=by
 have hj : j < xs.length:=(List.getElem?_eq_some_iff.mp h).1
 have e : ixN xs.length (j : Int) = some j:=by
   unfold ixN
   rw [if_pos (by lia),if_pos (by lia)]; simp
 unfold atI; rw [e]; exact h
def zmo (b : Expr) : Prop:=∀ o i,subscripted b false o i = operate [o,i] (getItem o i)
def IxR (X : Cx) (r : R2) : Prop :=
 ∀ (value slice : Expr) (pins : List (Addr × Obj)) (s : Shared) (σ : St) (H : Hp) (x y : V) (v u : Value) (Q : VK),Inv X pins σ H s -> zaD x v -> zaD y u -> r x y H Q ->
   subscripted slice false v u = operate [v,u] (getItem v u) -> wpAny (model X.prog X.w) X.A (subscriptTail value slice v u) (EP X pins σ Q) X.xe s
def MtR (X : Cx) (id : String) (r : V -> List V -> Hp -> VK -> Prop) : Prop :=
 ∀ (pins : List (Addr × Obj)) (s : Shared) (σ : St) (H : Hp) (x : V) (xs : List V) (v : Value) (us : List Value) (Q : VK),Inv X pins σ H s -> zaD x v -> zap xs us -> r x xs H Q ->
   wpAny (model X.prog X.w) X.A (call (.builtin id) (v :: us)) (EP X pins σ Q) X.xe s
section
variable {X : Cx} {a b : Expr} {ta tb : TE} {pos : Pos}
theorem IxR.or {r r' : R2} (h : IxR X r) (h' : IxR X r') : IxR X (fun x y H Q=>r x y H Q \/ r' x y H Q):=by
 intro value slice pins s σ H x y v u Q I rx ry q hs
 rcases q with q | q
 . exact h value slice pins s σ H x y v u Q I rx ry q hs
 . exact h' value slice pins s σ H x y v u Q I rx ry q hs
theorem zeK {r : R2} (hr : IxR X r) (ha : PE X a ta) (hb : PE X b tb) (hs : zmo b) : PE X (.Subscript a b pos) (tOp r ta tb):=by
 intro pins s σ H Q I h
 exact Subscript_ (zor ha hb I h fun v u s2 x y H2 I2 rx ry q=>hr a b pins s2 σ H2 x y v u Q I2 rx ry q (hs _ _))
def zpn (K : PySem.W.Frag) : R2:=fun x y H Q=>∃ p xs i v,x = .ref p /\ y = .int i /\ SqL K H p xs /\ atI xs i = some v /\ Q v H
def zoV (K : PySem.W.Frag) : R2:=fun x y H Q=>∃ p xs i v,x = .ref p /\ y = .int i /\ SqT K H p xs /\ atI xs i = some v /\ Q v H
def zpc : R2:=fun x y H Q=>∃ z i c,x = .str z /\ y = .int i /\ z.length <= sizeLine /\ atI z.cps.toList i = some c /\ Q (.str ⟨#[c]⟩) H
theorem zl6 : IxR X (zpn X.K):=by
 intro value slice pins s σ H x y v u Q I rx ry h hs
 obtain ⟨p,xs,i,z,rfl,rfl,hq,he,q⟩:=h
 cases rx
 obtain ⟨t,rfl⟩:=ry
 obtain ⟨its,r,pl,hz⟩:=I.list hq
 obtain ⟨j,h1,h2,h3,h4,h5⟩:=zhc he
 obtain ⟨w,ew,rw'⟩:=r.get h2
 have hl:=r.length
 have hn:=zer
 have fin : EP X pins σ Q w s:=⟨z,H,I,rw',q⟩
 by_cases h0 : 0 <= i
 . have hj : i.toNat = j:=by
     rw [seqIndex_of h0 h5] at h1
     exact Option.some.inj h1
   exact item_listR pl.isList h0 (by lia) (by rw [hj]; simpa using ew) fin hs
 . have hj : (i + (its.toArray.size : Int)).toNat = j:=by
     rw [seqIndex_neg (by lia) h4] at h1
     rw [List.size_toArray,<- hl]
     exact Option.some.inj h1
   exact subscriptTail_builtinR (x:=w) pl.isList.typeIs slot_list_getitem.lookup
     (wpAny_getItem_list_neg (Q:=fun r s'=>r = w /\ EP X pins σ Q r s') pl.isList (by lia) (by rw [List.size_toArray] <;> lia) (by lia) (by rw [hj]; simpa using ew) ⟨rfl,fin⟩) hs
theorem zoh : IxR X (zoV X.K):=by
 intro value slice pins s σ H x y v u Q I rx ry h hs
 obtain ⟨p,xs,i,z,rfl,rfl,hq,he,q⟩:=h
 cases rx
 obtain ⟨t,rfl⟩:=ry
 obtain ⟨its,r,pl,hz⟩:=I.tuple hq
 obtain ⟨j,h1,h2,h3,h4,h5⟩:=zhc he
 obtain ⟨w,ew,rw'⟩:=r.get h2
 have hl:=r.length
 have hn:=zer
 have fin : EP X pins σ Q w s:=⟨z,H,I,rw',q⟩
 exact subscriptTail_builtinR (x:=w) pl.typeIs slot_tuple_getitem.lookup
   (getItem_tuple (j:=j) (Q:=fun r s'=>r = w /\ EP X pins σ Q r s') pl (by lia) (by lia) (by rw [List.size_toArray,<- hl]; exact h1) (by simpa using ew) ⟨rfl,fin⟩) hs
theorem znN : IxR X zpc:=by
 intro value slice pins s σ H x y v u Q I rx ry h hs
 obtain ⟨z,i,c,rfl,rfl,hz,he,q⟩:=h
 obtain ⟨t,rfl⟩:=rx
 obtain ⟨t',rfl⟩:=ry
 obtain ⟨j,h1,h2,h3,h4,h5⟩:=zhc he
 have hl : z.cps.toList.length = z.length:=by simp [Str.length]
 rw [hl] at h1 h4 h5
 have hn:=zer
 exact tail_any (typeIs_str s z t) slot_str_getitem.lookup (getItem_str (c:=c) (by
   have e1 : decide (i < -(2 ^ 63 : Int)) = false:=decide_eq_false (by lia)
   have e2 : decide (i ≥ 2 ^ 63) = false:=decide_eq_false (by lia)
   rw [e1,e2,Bool.or_false]) (by rw [h1]; simpa using h2) ⟨.str ⟨#[c]⟩,H,I.tok _,⟨_,rfl⟩,q⟩) hs
def rIx (K : PySem.W.Frag) : R2:=fun x y H Q=>zpn K x y H Q \/ zoV K x y H Q \/ zpc x y H Q
theorem zdg : IxR X (rIx X.K):=zl6.or (zoh.or znN)
theorem ziG (its : List Value) (n j : Nat) (u : Value) : Obj.mapSeq (·.setIfInBounds j u) { cls:=.type "list",data:=.seq its.toArray n } = { cls:=.type "list",data:=.seq (its.set j u).toArray n }:=by
 simp [Obj.mapSeq]
theorem Inv.lst {pins : List (Addr × Obj)} {σ : St} {H : Hp} {s : Shared} {p : Addr} {xs : List V} (I : Inv X pins σ H s) (h : H p = some (.lst xs)) :
   ∃ (its : List Value) (n : Nat),zap xs its /\ s.heap.get? p = some { cls:=.type "list",data:=.seq its.toArray n } /\ xs.length <= sizeLine:=by
 obtain ⟨z,its,n,r,e⟩:=I.hok p _ h
 exact ⟨its,n,r,e,z⟩
theorem Inv.lstUpd {pins : List (Addr × Obj)} {σ : St} {H : Hp} {s : Shared} {p : Addr} {xs ys : List V} {its its' : List Value} {n n' : Nat} {f : Obj -> Obj} (I : Inv X pins σ H s) (h : H p = some (.lst xs))
   (ho : s.heap.get? p = some { cls:=.type "list",data:=.seq its.toArray n }) (hf : f { cls:=.type "list",data:=.seq its.toArray n } = { cls:=.type "list",data:=.seq its'.toArray n' }) (r : zap ys its') (hz : ys.length <= sizeLine) (t : Nat) :
   Inv X pins σ (upd H p (.lst ys)) { s with heap:=s.heap.update p f,toks:=t }:=by
 have e : (s.heap.update p f).get? p = some { cls:=.type "list",data:=.seq its'.toArray n' }:=by
   rw [Heap.get?_update_self f ho (by rw [hf] <;> rfl),hf]
 refine I.write (x:=p) (e:=p) (by rw [h]; trivial) (.inl rfl) (fun b u hb q=>(Heap.get?_update_other _ _ (Ne.symm hb)).trans q) ⟨_,e⟩ ?_
 exact ⟨hz,its',n',r,e⟩
def znr : V -> V -> V -> Hp -> (Hp -> Prop) -> Prop:=fun o i v H Q=>∃ p xs k j,o = .ref p /\ i = .int k /\ H p = some (.lst xs) /\ ixN xs.length k = some j /\ Q (upd H p (.lst (xs.set j v)))
theorem ziq : zpo X znr:=by
 intro pins s σ H o i v ov iv u Q I ro ri rv h
 obtain ⟨p,xs,k,j,rfl,rfl,hp,hj,q⟩:=h
 cases ro
 obtain ⟨t,rfl⟩:=ri
 obtain ⟨its,n,r,ho,hz⟩:=I.lst hp
 obtain ⟨h1,h2,h3,h4⟩:=zju hj
 have hl:=r.length
 have hn:=zer
 have I' : Inv X pins σ (upd H p (.lst (xs.set j v))) { s with heap:=s.heap.update p (Obj.mapSeq (·.setIfInBounds j u)) } :=
   I.lstUpd hp ho (ziG its n j u) (r.set rv j) (by rw [List.length_set]; exact hz) s.toks
 by_cases h0 : 0 <= k
 . have hk : k.toNat = j:=by
     rw [seqIndex_of h0 h4] at h1
     exact Option.some.inj h1
   exact PySem.W.ki_setAt ho h0 (by lia) (by rw [List.size_toArray,<- hl]; exact h4) (by rw [hk]; exact ⟨_,I',q⟩)
 . have hk : (k + (its.toArray.size : Int)).toNat = j:=by
     rw [seqIndex_neg (by lia) h3] at h1
     rw [List.size_toArray,<- hl]
     exact Option.some.inj h1
   exact PySem.W.ki_setBack ho (by lia) (by rw [List.size_toArray,<- hl]; exact h3) (by lia) (by rw [hk]; exact ⟨_,I',q⟩)
theorem zhH (lo hi : Option Int) (n : Nat) : (sliceBounds lo hi none n).1 = ((HT.sIx n 0 lo : Nat) : Int) /\ (sliceBounds lo hi none n).2.1 = ((HT.sIx n n hi : Nat) : Int) /\ (sliceBounds lo hi none n).2.2 = 1:=by
 refine ⟨?_,?_,rfl⟩
 . cases lo with
   | none=>simp [sliceBounds,HT.sIx]
   | some i =>
     simp only [sliceBounds,HT.sIx,Option.getD_none,show (1 : Int) > 0 by decide,if_true]
     by_cases h : i < 0
     . simp only [h,if_true] <;> lia
     . simp only [h,if_false] <;> lia
 . cases hi with
   | none=>simp [sliceBounds,HT.sIx]
   | some i =>
     simp only [sliceBounds,HT.sIx,Option.getD_none,show (1 : Int) > 0 by decide,if_true]
     by_cases h : i < 0
     . simp only [h,if_true] <;> lia
     . simp only [h,if_false] <;> lia
theorem zgH (its : List Value) (lo hi : Option Int) : slicePick its.toArray lo hi none = ((its.drop (HT.sIx its.length 0 lo)).take (HT.sIx its.length its.length hi - HT.sIx its.length 0 lo)).toArray:=by
 obtain ⟨h1,h2,h3⟩:=zhH lo hi its.toArray.size
 unfold slicePick
 rw [h1,h2,h3]
 simp only [sliceRange_one,pick_run,List.size_toArray] <;> rfl
def zpB (K : PySem.W.Frag) : V -> Option Int -> Option Int -> Hp -> VK -> Prop:=fun x lo hi H Q=>∃ a xs,x = .ref a /\ SqL K H a xs /\ ∀ p,H p = none -> Q (.ref p) (upd H p (.lst (ze0 xs lo hi)))
theorem zmH : SlR X (zpB X.K):=by
 intro pins s σ H x v vl vu lo hi sl Q I rx hs pl pu h
 obtain ⟨a,xs,rfl,hx,q⟩:=h
 cases rx
 obtain ⟨its,r,ht,hz⟩:=I.list hx
 have hlen:=r.length
 refine ⟨"list",_,slot_list_getitem.lookup,ht.isList.typeIs,?_⟩
 refine wpAny_getItem_list_slice ht.isList hs pl pu .none (by simp) ?_ (by rw [List.size_toArray] <;> lia)
 rw [zgH,<- hlen]
 refine ⟨.ref s.heap.objs.size,_,I.laid (t':=s.toks) (o:=.lst (ze0 xs lo hi)) (fun b ob q=>Heap.get?_push_of_some _ q) (Nat.le_refl _) ?_,rfl,q _ (I.hok.fresh (Nat.le_refl _))⟩
 exact ⟨Nat.le_trans (zfA xs lo hi) hz,_,0,(r.drop (HT.sIx xs.length 0 lo)).take (HT.sIx xs.length xs.length hi - HT.sIx xs.length 0 lo),Heap.get?_push_size _ rfl⟩
theorem zho : zaj X (.builtin "len") (fun xs H Q=>∃ p ys,xs = [.ref p] /\ (SqL X.K H p ys \/ SqT X.K H p ys) /\ Q (.int ys.length) H):=by
 intro pins s σ H xs us Q I r h
 obtain ⟨p,ys,rfl,hq,q⟩:=h
 obtain ⟨u,rfl,rx⟩:=zc1 r
 cases rx
 have hn:=zer
 rcases hq with hq | hq
 . obtain ⟨its,r',pl,hz⟩:=I.list hq
   have hlen:=r'.length
   exact Calls.call_len_list pl.isList (by simp only [List.size_toArray] <;> lia) ⟨.int ys.length,H,I.tok _,⟨s.toks + 1,by rw [List.size_toArray,hlen]⟩,q⟩
 . obtain ⟨its,r',pl,hz⟩:=I.tuple hq
   have hlen:=r'.length
   exact len_tuple pl (by simp only [List.size_toArray] <;> lia) ⟨.int ys.length,H,I.tok _,⟨s.toks + 1,by rw [List.size_toArray,hlen]⟩,q⟩
theorem zhO : zaj X (.builtin "len") (fun xs H Q=>∃ z,xs = [.str z] /\ z.length <= sizeLine /\ Q (.int z.length) H):=by
 intro pins s σ H xs us Q I r h
 obtain ⟨z,rfl,hz,q⟩:=h
 obtain ⟨u,rfl,t,rfl⟩:=zc1 r
 have hn:=zer
 exact len_str (by lia) ⟨.int z.length,H,I.tok _,⟨_,rfl⟩,q⟩
theorem zht : zaj X (.type "list") (fun xs H Q=>∃ p ys,xs = [.ref p] /\ (SqL X.K H p ys \/ SqT X.K H p ys) /\ ∀ l,H l = none -> Q (.ref l) (upd H l (.lst ys))):=by
 intro pins s σ H xs us Q I r h
 obtain ⟨p,ys,rfl,hq,q⟩:=h
 obtain ⟨u,rfl,rx⟩:=zc1 r
 cases rx
 have fin : ∀ (its : List Value),zap ys its -> ys.length <= sizeLine -> ∀ (h' : Heap) (c' : Nat),(∀ b o',s.heap.get? b = some o' -> h'.get? b = some o') ->
     h'.get? s.heap.objs.size = some { cls:=.type "list",dict:=none,data:=.seq its.toArray c',slots:=#[] } -> EP X pins σ Q (.ref s.heap.objs.size) { s with heap:=h' }:=fun its r' hz h' c' kp e =>
   ⟨.ref s.heap.objs.size,_,I.laid (t':=s.toks) kp (Nat.le_refl _) (show zbE X.prog X.w _ h' _ (.lst ys) from ⟨hz,its,c',r',e⟩),rfl,q _ (I.hok.fresh (Nat.le_refl _))⟩
 rcases hq with hq | hq
 . obtain ⟨its,r',pl,hz⟩:=I.list hq
   have hlen:=r'.length
   obtain ⟨o,ho,hc,n,hd⟩:=pl.isList
   exact call_list_seq p (.inl rfl) ho hc hd (fun h' c' kp e=>fin its r' hz h' c' kp e) (by simp only [List.size_toArray] <;> lia)
 . obtain ⟨its,r',pl,hz⟩:=I.tuple hq
   have hlen:=r'.length
   obtain ⟨o,ho,hc,n,hd⟩:=pl
   exact call_list_seq p (.inr rfl) ho hc hd (fun h' c' kp e=>fin its r' hz h' c' kp e) (by simp only [List.size_toArray] <;> lia)
theorem zgC : zaj X (.type "tuple") (fun xs H Q=>∃ p ys,xs = [.ref p] /\ ((SqL X.K H p ys /\ ∀ l,H l = none -> Q (.ref l) (upd H l (.tup ys))) \/ (SqT X.K H p ys /\ Q (.ref p) H))):=by
 intro pins s σ H xs us Q I r h
 obtain ⟨p,ys,rfl,h⟩:=h
 obtain ⟨u,rfl,rx⟩:=zc1 r
 cases rx
 rcases h with ⟨hq,q⟩ | ⟨hq,q⟩
 . obtain ⟨its,r',pl,hz⟩:=I.list hq
   have hlen:=r'.length
   refine call_tuple_list pl.isList (fun h' kp=>?_) (by simp only [List.size_toArray] <;> lia)
   have I1 : Inv X pins σ H { s with heap:=h' }:=I.kept (t':=s.toks) kp
   have I2 : Inv X pins σ (upd H h'.objs.size (.tup ys)) { s with heap:=h'.push { cls:=.type "tuple",data:=.seq its.toArray } } :=
     I1.laid (t':=s.toks) (fun b o e=>Heap.get?_push_of_some _ e) (Nat.le_refl _) (show zbE X.prog X.w _ _ _ (.tup ys) from ⟨hz,its,r',IsTup.new _ _⟩)
   exact ⟨.ref h'.objs.size,_,I2,rfl,q _ (I1.hok.fresh (Nat.le_refl _))⟩
 . obtain ⟨its,r',pl,hz⟩:=I.tuple hq
   exact call_tuple_same pl ⟨.ref p,H,I,rfl,q⟩
def tyV (K : PySem.W.Frag) (T : String) (x : V) (H : Hp) : Prop:=match x with
 | .str _=>T = "str"
 | .int _=>T = "int"
 | .ref p=>(T = "list" /\ ∃ xs,SqL K H p xs) \/ (T = "tuple" /\ ∃ o,K.lookup p = some o /\ o.cls = .type "tuple" /\ o.dict = none) \/
     (T = "dict" /\ ((∃ kvs,H p = some (.dK kvs)) \/ ∃ kvs,H p = some (.dT kvs))) \/ (T = "set" /\ ∃ S n,H p = some (.set S n))
 | _=>False
theorem znG {pins : List (Addr × Obj)} {σ : St} {H : Hp} {s : Shared} {T : String} {x : V} {v : Value} (I : Inv X pins σ H s) (r : zaD x v) (ty : tyV X.K T x H) :
   s.TypeIs v T /\ ∀ a,v = .ref a -> ∃ ob,s.heap.get? a = some ob /\ ob.dict = none:=by
 cases x with
 | str z =>
   obtain ⟨t,rfl⟩:=r
   cases (show T = "str" from ty)
   exact ⟨typeIs_str s z t,fun _ e=>nomatch e⟩
 | int i =>
   obtain ⟨t,rfl⟩:=r
   cases (show T = "int" from ty)
   exact ⟨typeIs_int s i t,fun _ e=>nomatch e⟩
 | ref p =>
   cases r
   rcases ty with ⟨rfl,xs,hq⟩ | ⟨rfl,o,hk,hc,hd⟩ | ⟨rfl,hk⟩ | ⟨rfl,S,n,hk⟩
   . obtain ⟨its,_,pl,_⟩:=I.list hq
     refine ⟨pl.isList.typeIs,fun a e=>?_⟩
     cases e
     obtain ⟨o,n,e,c,hd,_⟩:=pl
     exact ⟨o,e,hd⟩
   . refine ⟨⟨o,I.kIn p o hk,hc⟩,fun a e=>?_⟩
     cases e
     exact ⟨o,I.kIn _ o hk,hd⟩
   . have z : ∃ o,s.heap.get? p = some o /\ o.ExactDict:=by
       rcases hk with ⟨kvs,hk⟩ | ⟨kvs,hk⟩
       . obtain ⟨_,_,_,_,o,_,_,e,ex,_⟩:=I.hok p _ hk
         exact ⟨o,e,ex⟩
       . obtain ⟨_,_,_,_,o,_,_,e,ex,_⟩:=I.hok p _ hk
         exact ⟨o,e,ex⟩
     obtain ⟨o,e,ex⟩:=z
     refine ⟨⟨o,e,ex.1⟩,fun a e2=>?_⟩
     cases e2
     exact ⟨o,e,ex.2.1⟩
   . obtain ⟨o,_,_,_,e,ex,_⟩:=I.hok p _ hk
     refine ⟨⟨o,e,ex.1⟩,fun a e2=>?_⟩
     cases e2
     exact ⟨o,e,ex.2.1⟩
 | _=>exact False.elim ty
def tBM (K : PySem.W.Frag) (T : String) (r : V -> List V -> Hp -> VK -> Prop) (to : TE) (t : TA) : TE:=fun σ H Q=>to σ H fun x H1=>tyV K T x H1 /\ t σ H1 fun xs H2=>r x xs H2 Q
variable {o e : Expr} {es : List Expr} {to : TE} {t : TA} {name : Str} {apos cpos : Pos} {T id : String} {r : V -> List V -> Hp -> VK -> Prop}
theorem zb0 (pa : PlainAttrs T) (slot : Slot T name id) (hty : typeOf (.builtin id) = pure (.type "method_descriptor")) (hm : MtR X id r) (ho : PE X o to) (ha : PA X (e :: es) t)
   (hbase : attributeBase o name X.env (eval o X.env) = eval o X.env:=by rfl)
   (hfew : ((backTo cpos (starEach (e :: es) X.env)).all (fun x=>!x.1) && (backToKw cpos (keywordEach [] X.env)).all (fun x=>x.1.isSome)
     && decide ((e :: es).length + ([] : List Keyword).length + (if ([] : List Keyword).isEmpty then 0 else 1) < 30)) = true:=by rfl)
   (hline : (apos.endLine == cpos.line) = true:=by rfl) (hs : starEach (e :: es) X.env = (false,eval e X.env) :: starEach es X.env:=by rfl) (hplain : (backTo cpos (starEach es X.env)).any (·.1) = false:=by rfl) :
   PE X (.Call (.Attribute o name apos) (e :: es) [] cpos) (tBM X.K T r to t):=by
 intro pins s σ H Q I h
 refine wpAny_Call_method_late hbase hfew hline rfl (thn (ho pins s σ H _ I h) fun v s1 ⟨x,H1,I1,r1,ty,q1⟩=>?_)
 obtain ⟨h1,h2⟩:=znG I1 r1 ty
 refine ⟨T,id,pa,slot,hty,h1,h2,?_⟩
 have hA:=ha cpos pins s1 σ H1 _ I1 q1
 rw [hs] at hA ⊢
 refine Calls.callWith_builtin (by show (false || (backTo cpos (starEach es X.env)).any (·.1)) = false; rw [hplain] <;> rfl) (Calls.evalArgs_plain ?_)
 exact thn hA fun us s2 ⟨vs,H2,I2,r2,q2⟩=>hm pins s2 σ H2 x vs v us Q I2 r1 r2 q2
/- xs.append(e),list.index on a module's tuple .. are MtR facts of 06m -/
end
end L2
namespace L2
open PySem PySem.Spec PyProof.Rows
def MtM (X : Cx) (id : String) (r : V -> List V -> Hp -> VK -> Prop) : Prop :=
 ∀ (pins : List (Addr × Obj)) (s : Shared) (σ : St) (H : Hp) (x : V) (xs : List V) (v : Value) (us : List Value) (Q : VK),Inv X pins σ H s -> zaD x v -> zap xs us -> r x xs H Q ->
   wpAny (model X.prog X.w) X.A (call (.builtin id) (v :: us)) (EP X pins σ Q) X.xe s
theorem zap.one : ∀ {x : V} {us : List Value},zap [x] us -> ∃ u,us = [u] /\ zaD x u
 | _,_,.cons r .nil=>⟨_,rfl,r⟩
section
variable {X : Cx} {pins : List (Addr × Obj)} {σ : St} {H : Hp} {s : Shared} {l b : Addr} {xs ys zs : List V}
theorem Inv.lset {its its' : List Value} {n : Nat} {f : Array Value -> Array Value} {t' : Nat} (I : Inv X pins σ H s) (hH : H l = some (.lst xs))
   (e : s.heap.get? l = some { cls:=.type "list",data:=.seq its.toArray n }) (hf : f its.toArray = its'.toArray) (hv : zap ys its') (hz : ys.length <= sizeLine) :
   Inv X pins σ (upd H l (.lst ys)) { s with heap:=s.heap.update l (Obj.mapSeq f),toks:=t' }:=by
 have q:=PySem.IsL.update e f
 rw [hf] at q
 refine I.write (x:=l) (e:=l) (by rw [hH]; exact trivial) (.inl rfl) (fun b' u hb hu=>(Heap.get?_update_other s.heap (Obj.mapSeq f) (Ne.symm hb)).trans hu) ⟨_,q⟩ ?_
 exact ⟨hz,its',_,hv,q⟩
theorem Inv.lnew {its : List Value} {t' : Nat} (I : Inv X pins σ H s) (hv : zap ys its) (hz : ys.length <= sizeLine) :
   Inv X pins σ (upd H s.heap.objs.size (.lst ys)) { s with heap:=s.heap.push { cls:=.type "list",data:=.seq its.toArray },toks:=t' } :=
 I.laid (fun _ _ q=>Heap.get?_push_of_some _ q) (Nat.le_refl _) ⟨hz,its,0,hv,Heap.get?_push_size _ rfl⟩
theorem Inv.fresh (I : Inv X pins σ H s) : H s.heap.objs.size = none:=I.hok.fresh (Nat.le_refl _)
theorem Inv.lstM (I : Inv X pins σ H s) (hH : H l = some (.lst xs)) : xs.length <= sizeLine /\ ∃ (its : List Value) (n : Nat),zap xs its /\ xs.length = its.length /\ s.heap.get? l = some { cls:=.type "list",data:=.seq its.toArray n }:=by
 obtain ⟨z,its,n,r,e⟩:=I.hok l _ hH
 exact ⟨z,its,n,r,r.length,e⟩
end
section
variable {X : Cx}
def zjD : V -> List V -> Hp -> VK -> Prop:=fun x vs H Q=>∃ l xs y,x = .ref l /\ vs = [y] /\ H l = some (.lst xs) /\ xs.length < sizeLine /\ Q .non (upd H l (.lst (xs ++ [y])))
theorem zdR : MtM X "list.append" zjD:=by
 intro pins s σ H x vs v us Q I rx rv h
 obtain ⟨l,xs,y,rfl,rfl,hH,hz,q⟩:=h
 cases rx
 obtain ⟨u,rfl,ru⟩:=rv.one
 obtain ⟨z,its,n,r,hl,e⟩:=I.lstM hH
 refine call_meets F.slot_list_append ⟨_,e,rfl⟩ F.entry_list_append (F.args_list_append_2 _ _) (PySem.list_append l its.toArray n u (by rw [List.size_toArray]; lia)) ⟨e,?_⟩
 refine ⟨.non,_,I.lset (its':=its ++ [u]) hH e (by simp) (r.append (.cons ru .nil)) ?_,rfl,q⟩
 rw [List.length_append,List.length_singleton]
 lia
def zoc : R2:=fun x y H Q=>∃ l b xs zs,x = .ref l /\ y = .ref b /\ H l = some (.lst xs) /\ H b = some (.lst zs) /\ xs.length + zs.length <= sizeLine /\ ∀ p,H p = none -> Q (.ref p) (upd H p (.lst (xs ++ zs)))
theorem zof : OpR X (binaryOp .Add) zoc:=by
 intro pins s σ H x y v u Q I rx ry h
 obtain ⟨l,b,xs,zs,rfl,rfl,hH,hB,hz,q⟩:=h
 cases rx
 cases ry
 obtain ⟨z,its,n,r,hl,e⟩:=I.lstM hH
 obtain ⟨z2,its2,n2,r2,hl2,e2⟩:=I.lstM hB
 refine PySem.P.add_list e e2 ?_ (by rw [List.size_toArray,List.size_toArray]; lia)
 have ea : its.toArray ++ its2.toArray = (its ++ its2).toArray:=by simp
 rw [ea]
 exact ⟨.ref _,_,I.lnew (t':=s.toks) (r.append r2) (by rw [List.length_append]; lia),rfl,q _ I.fresh⟩
end
section
variable {prog : Program} {w : World} {A : Around} {E : Value -> Shared -> Prop} {s : Shared}
end
section
variable {X : Cx}
end
end L2
namespace Att
open PySem PySem.W PySem.Calls PyProof.Rows
theorem zfM {P : Params} {h : Heap} : ∀ (ns : List Int) (vs : List Value),WellAll P h vs (ns.map WData.int) -> IntsAre vs ns:=by
 intro ns
 induction ns with
 | nil =>
   intro vs w
   rw [List.map_nil] at w
   cases w
   exact .nil
 | cons n ns ih =>
   intro vs w
   rw [List.map_cons] at w
   cases w with
   | cons a b =>
     cases a
     exact .cons _ _ (ih _ b)
theorem zjV {l : OpenLaw} {n : Nat} (hn : l.most = some n) {P : Params} {h : Heap} {args : List WData} {vals : List Value}
   (hpre : l.row.toRowW.claim.pre args = true) (hwl : WellAll P h vals args) :
   ∃ a vs ns,vals = [Value.ref a] /\ args = [WData.list (ns.map WData.int)] /\ h.get? a = some { cls:=.type "list",data:=.seq vs.toArray } /\ IntsAre vs ns /\ ns.length <= n:=by
 have hsh : WShape.hasAll [] args [.list .int] = true:=(pre_splitW hpre).1
 have hc : l.pre.holds [] { args:=args } = true:=(pre_splitW hpre).2
 obtain ⟨d,r,rfl,h1,h2⟩:=hasAllW_cons hsh
 obtain rfl:=hasAllW_nil h2
 obtain ⟨xs,rfl,h3⟩:=hasW_list h1
 obtain ⟨ns,rfl⟩:=items_int h3
 have hlen : ns.length <= n:=by
   unfold OpenLaw.pre at hc
   have h4 : (WTm.not (.lt (.lit (.int (n : Int))) (.len (.arg 0)))).holds [] { args:=[.list (ns.map .int)] } = true:=by
     have h4:=(holds_andW hc).1
     rw [hn] at h4
     exact h4
   have h5:=condW_of h4 (w_not (w_lt w_lit (w_len_list (w_arg rfl))))
   rw [List.length_map] at h5
   refine Nat.le_of_not_lt fun q=>?_
   have q' : (n : Int) < ((ns.length : Nat) : Int):=by lia
   first
     | (rw [decide_eq_true q'] at h5; exact absurd h5 (by decide))
     | (simp at h5; lia)
 cases hwl with
 | cons w1 w2 =>
   cases w2
   cases w1 with
   | list ho hall=>exact ⟨_,_,ns,rfl,rfl,ho,zfM ns _ hall,hlen⟩
theorem zki (l : OpenLaw) (args : List WData) : l.row.toRowW.claim.post args (.bool true) args = true :=
 postW_of (r:=l.row.toRowW) (X:=(true == true))
   (show WShape.has [] (.bool true) .bool = true by first | rfl | decide | simp [WShape.has,WShape.arms,WShape.armsAll])
   (show (WTm.eq .res (.lit (.bool true))).value [] { args:=args,res:=some (.bool true),after:=args } = some (.bool (true == true)) from w_eq_bool (w_res rfl) w_lit) rfl
theorem attach_call {l : OpenLaw} {n : Nat} {q : Program} {loose : List Str} {XP : (Str -> Option Value) -> Heap -> Prop} {YP : World -> Heap -> Prop} {d : DefRec}
   (hn : l.most = some n) (hdf : d.params.defaults = [])
   (call : ∀ (w : World) (s₀ s₁ : Shared) (mg mb : Str -> Option Value) (fa : Addr) (o : Obj) (pm cd doc : Value) (a : Addr) (vs : List Value) (ns : List Int),
     Ground q loose [] XP w s₀ mg mb s₁.heap -> YP w s₁.heap ->
     s₁.heap.get? fa = some o -> o.data = .func (docDef d.name d.params d.body d.scope pm cd doc) -> s₁.heap.CodeRec cd d.name -> mg d.name = some (.ref fa) ->
     s₁.heap.get? a = some { cls:=.type "list",data:=.seq vs.toArray } -> IntsAre vs ns -> ns.length <= n -> s₁.gens = #[] ->
     codeAny (model l.prog w) callerA (.call (.ref fa) ⟨[.ref a],[]⟩) (fun r s'=>r = .ok (.ret (.bool true)) /\ OldK s₁.heap s'.heap /\ s'.os = s₁.os /\ AllBare s'.gens) s₁) :
   WalkO q loose XP YP l.row.toRowW d [] (fun f vs=>PySem.call f vs):=by
 intro w s₀ s₁ mg mb G Y fa o pm cd doc dV kV ho hd hcd hD hmg hg args vals as hpre hlay hrd hwl hlo
 obtain rfl : dV = .none:=Dflts.none hD hdf
 obtain rfl : kV = .none:=Dflts.noKw hD
 obtain ⟨a,vs,ns,rfl,rfl,hobj,hints,hlen⟩:=zjV hn hpre hwl
 refine enter_call (codeAny_mono (call w s₀ s₁ mg mb fa o pm cd doc a vs ns G Y ho (fd_plain hd) hcd hmg hobj hints hlen hg) fun r s' hq=>?_)
 obtain ⟨rfl,h2,h3,h4⟩:=hq
 exact ⟨.inl ⟨.bool true,.bool true,[],rfl,fun _=>rfl,.bool true,zki l _,fun _=>⟨List.Pairwise.nil,fun _ hm=>(nomatch hm)⟩⟩,h2,h3,h4⟩
section
variable {prog : Program} {w : World} {A : Around} {E : Value -> Shared -> Prop} {s : Shared} {K : Frag}
def zpR (h : Heap) (L d : Addr) : List (Addr × Obj):=(List.range h.objs.size).filterMap fun a=>if a = L \/ a = d then none else (h.get? a).map fun o=>(a,o)
end
end Att
namespace L2
open PySem PySem.Spec PyProof.Rows
theorem zgR : ∀ {vs : List Value} {ns : List Int},IntsAre vs ns -> zap (ns.map V.int) vs
 | _,_,.nil=>.nil
 | _,_,.cons n t h=>.cons ⟨t,rfl⟩ (zgR h)
def zl4 (H : Hp) : Prop:=∀ b,H b = none \/ ∃ o xs,H b = some (.frz o (.lst xs))
theorem zlR {P : Program} {w : World} {K : PySem.W.Frag} {mg mb : Str -> Option Value} {CX : CXT} {k : Nat} {fa a : Addr} {fd : FuncData} {x : Str} {sp : Sp} {s₁ : Shared} {vs : List Value} {ns : List Int}
   (KX : K.In s₁.heap) (hns : s₁.heap.Ns mainGlobals mg) (hb : s₁.heap.Ns builtinsNs mb) (hbb : ∀ x : Str,x ≠ "__name__" -> mb x = bootBuiltins x) (hlim : s₁.heap.NoLimit) (hg : s₁.gens = #[])
   (ha : s₁.heap.get? a = some { cls:=.type "list",data:=.seq vs.toArray }) (hi : IntsAre vs ns) (hl : ns.length <= sizeLine) (hr : zcO k callerA)
   (F : ∀ base : Heap,K.In base -> base.Ns mainGlobals mg -> zaP P w K mg base CX k fa fd [x] sp) (hbind : ∀ (s : Shared) (u : Value),BindsTo s fd ⟨[u],[]⟩ [(x,u)])
   (hsp : ∀ H : Hp,zl4 H -> SqL K H a (ns.map V.int) -> sp [.ref a] H (fun v _=>v = .bl true) fun _ _ _=>False)
   (hCX : ∀ H e s',CX [] H s₁ (fun _ _ _=>False) e s' -> False) :
   codeAny (model P w) callerA (.call (.ref fa) ⟨[.ref a],[]⟩) (fun r s'=>r = .ok (.ret (.bool true)) /\ OldK s₁.heap s'.heap /\ s'.os = s₁.os /\ AllBare s'.gens) s₁:=by
 have rv:=zgR hi
 have lenV:=hi.length
 -- from an abstract heap in which nothing but the script may be tracked
 have core : ∀ H : Hp,zl4 H -> SqL K H a (ns.map V.int) -> HOk P w H s₁.heap -> (∀ b,H b ≠ none -> b = a) -> (H a ≠ none -> K.lookup a = none) ->
     codeAny (model P w) callerA (.call (.ref fa) ⟨[.ref a],[]⟩) (fun r s'=>r = .ok (.ret (.bool true)) /\ OldK s₁.heap s'.heap /\ s'.os = s₁.os /\ AllBare s'.gens) s₁:=by
   intro H hO hS hok hA hK
   have base_of : ∀ {b : Addr} {o : Obj},s₁.heap.get? b = some o -> H b = none -> (zhI s₁.heap H).get? b = some o:=fun e n=>zkn e n
   have noA : ∀ {b : Addr} {o : Obj} {es : Array DictEntry} {ep : Nat},s₁.heap.get? b = some o -> o.data = .dict es ep -> H b = none:=fun {b o es ep} e d=>by
     cases q : H b with
     | none=>rfl
     | some u =>
       have e' : b = a:=hA b (by rw [q]; simp)
       subst e'
       rw [ha] at e; cases e
       have d' : Data.seq vs.toArray _ = Data.dict es ep:=d
       cases d'
   have nsK : ∀ {b : Addr} {m : Str -> Option Value},s₁.heap.Ns b m -> (zhI s₁.heap H).Ns b m:=fun {b m} ⟨o,es,ep,e,d,r⟩=>⟨o,es,ep,base_of e (noA e d),d,r⟩
   have hKb : K.In (zhI s₁.heap H):=fun b o e=>base_of (KX b o e) (by
     cases q : H b with
     | none=>rfl
     | some u =>
       have e' : b = a:=hA b (by rw [q]; simp)
       subst e'
       rw [hK (by rw [q]; simp)] at e; cases e)
   have hM : Mod K mg (zhI s₁.heap H):=⟨hKb,nsK hns,⟨mb,nsK hb,hbb⟩,let ⟨mc,h1,h2⟩:=hlim; ⟨mc,nsK h1,h2⟩⟩
   have e0 : zk2 P w K mg (zhI s₁.heap H) callerA [] s₁ H:=⟨rfl,hM,fun b o e=>zmk e,Nat.le_of_eq (zjR _ _),trivial,fun b hb=>absurd (show b ∈ ([] : List Addr) from hb) (by simp),hok,.of_eq hg⟩
   refine codeAny_mono ((F _ hKb (nsK hns)).run callerA [] s₁ H ⟨[.ref a],[]⟩ [.ref a] [.ref a] _ _ hr e0 (hbind s₁ (.ref a)) (.cons rfl .nil) (hsp H hO hS)) fun r s' h=>?_
   cases r with
   | error e=>exact (hCX H e s' h).elim
   | ok fl =>
     cases fl with
     | next=>exact False.elim h
     | brk=>exact False.elim h
     | cont=>exact False.elim h
     | ret u =>
       obtain ⟨v,H',os,bare,un,hok',r',q⟩:=h
       have q' : v = .bl true:=q
       subst q'
       obtain rfl : u = Value.bool true:=r'
       refine ⟨rfl,OldK.of_keep fun b o e=>?_,os,bare⟩
       cases q : H b with
       | none=>exact un.keep b o e q (by intro z; exact absurd (show b ∈ ([] : List Addr) from z) (by simp)) (by simp)
       | some u =>
         rcases hO b with z | ⟨ob,xs,z⟩
         . rw [q] at z; cases z
         . have z2:=un.frzs b ob _ z
           obtain ⟨e1,_⟩:=hok b _ z
           obtain ⟨e2,_⟩:=hok' b _ z2
           rw [e] at e1; cases e1
           exact e2
 cases hk : K.lookup a with
 | some o =>
   -- the script is one of the module's own objects
   have e:=KX a o hk
   rw [ha] at e
   cases e
   refine core (fun _=>none) (fun _=>.inl rfl) (.inr ⟨_,vs.toArray,_,hk,rfl,rfl,rfl,by rw [List.size_toArray,lenV]; exact hl,by simpa using rv⟩) (fun b u z=>by have z' : (none : Option HO) = some u:=z; cases z') (fun b z=>absurd rfl z) fun z=>absurd rfl z
 | none =>
   refine core (fun b=>if b = a then some (.frz { cls:=.type "list",data:=.seq vs.toArray } (.lst (ns.map V.int))) else none) (fun b=>?_) (.inl (.inr ⟨{ cls:=.type "list",data:=.seq vs.toArray },if_pos rfl⟩)) (fun b u z=>?_) (fun b z=>?_) fun _=>hk
   . by_cases hb : b = a
     . exact .inr ⟨_,_,if_pos hb⟩
     . exact .inl (if_neg hb)
   . by_cases hb : b = a
     . have z':=(if_pos hb).symm.trans z
       cases z'
       subst hb
       exact ⟨ha,by rw [List.length_map]; exact hl,vs,_,rv,ha⟩
     . have z':=(if_neg hb).symm.trans z
       cases z'
   . by_cases hb : b = a
     . exact hb
     . exact absurd (if_neg hb) z
end L2
namespace L2
open PySem PySem.Spec PyProof.Rows
abbrev KOf {K : PySem.W.Frag} {h : Heap} (_ : K.In h) : PySem.W.Frag:=K
theorem walk_of {l : PySem.W.OpenLaw} {n k : Nat} {q : Program} {loose : List Str} {XP : (Str -> Option Value) -> Heap -> Prop} {YP : World -> Heap -> Prop} {d : DefRec} {K : Params -> PySem.W.Frag} {CX : World -> CXT} {sp : World -> Sp} {x : Str}
   (hn : l.most = some n) (hn2 : n <= sizeLine) (hdf : d.params.defaults = []) (hr : zcO k callerA)
   (hY : ∀ (w : World) (h : Heap),YP w h -> (K w.params).In h)
   (F : ∀ (w : World) (mg : Str -> Option Value) (fa : Addr) (h : Heap),(K w.params).In h -> h.Ns mainGlobals mg -> mg d.name = some (.ref fa) ->
     ∃ fd : FuncData,(∀ (s : Shared) (u : Value),BindsTo s fd ⟨[u],[]⟩ [(x,u)]) /\
       ∀ base : Heap,(K w.params).In base -> base.Ns mainGlobals mg -> zaP l.prog w (K w.params) mg base (CX w) k fa fd [x] (sp w))
   (hsp : ∀ (w : World) (H : Hp) (a : Addr) (ns : List Int),ns.length <= n -> zl4 H -> SqL (K w.params) H a (ns.map V.int) -> sp w [.ref a] H (fun v _=>v = .bl true) fun _ _ _=>False)
   (hCX : ∀ (w : World) (H : Hp) (s : Shared) (e : Value) (s' : Shared),CX w [] H s (fun _ _ _=>False) e s' -> False) :
   PySem.W.WalkO q loose XP YP l.row.toRowW d [] (fun f vs=>PySem.call f vs):=by
 refine Att.attach_call hn hdf fun w s₀ s₁ mg mb fa o pm cd doc a vs ns G Y ho hd hcd hmg hobj hints hlen hg=>?_
 have KX:=hY w _ Y
 obtain ⟨fd,hb,hF⟩:=F w mg fa _ KX G.T.g hmg
 exact zlR KX G.T.g G.T.b G.T.builtins G.T.nolimit hg hobj hints (Nat.le_trans hlen hn2) hr hF hb (fun H hO hS=>hsp w H a ns hlen hO hS) fun H e s'=>hCX w H s₁ e s'
end L2
namespace L2
open PySem PySem.Spec PyProof.Rows
def zdT (s : Stmt) : Arguments:=match s with
 | .FunctionDef _ a _ _ _ _ _ _ _ _=>a
 | _=>{ posonlyargs:=[],args:=[],vararg:=none,kwonlyargs:=[],kw_defaults:=[],kwarg:=none,defaults:=[] }
def zco (s : Stmt) : List Stmt:=match s with
 | .FunctionDef _ _ b _ _ _ _ _ _ _=>b
 | _=>[]
def zae (s : Stmt) : Scope:=match s with
 | .FunctionDef _ _ _ _ _ _ sc _ _ _=>sc
 | _=>{ kind:=.function,names:=[],isGenerator:=false,isCoroutine:=false }
abbrev CX0 : CXT:=fun _ _ _ _ _ _=>False
abbrev E0 : XK:=fun _ _ _=>False
theorem zpw {X : Cx} : ze9 CX0 X E0:=fun _ _ _ _ _ _ _ h=>h.elim
structure Fun (K : PySem.W.Frag) (x qual : Str) (st : Stmt) (f : Addr) (fd : FuncData) : Prop where
 ex : ∃ (oc : Value) (od : Option Addr) (kV doc pm : Value) (an : Option Addr) (cdv ct : Value) (osl : Array (Option Value)),
   fd = PySem.W.fnOf x qual (zdT st) (zco st) (zae st) .none kV doc pm an cdv ct /\ K.lookup f = some ⟨oc,od,.func fd,osl⟩ /\ PySem.W.codeIn K cdv qual = true
 kp : PySem.W.keepIn K (.ref f) = true
section
variable {P : Program} {w : World} {K : PySem.W.Frag} {mg : Str -> Option Value} {base : Heap}
theorem Fun.ok {x qual : Str} {st : Stmt} {f : Addr} {fd : FuncData} {N ps : List Str} {k : Nat} {sp : Sp} (F : Fun K x qual st f fd) (S : zal N ps (zae st)) (len : ∀ vs H Q E,sp vs H Q E -> vs.length = ps.length)
   (hbody : ∀ (cdv : Value) (A : Around) (outer : List Env) (s : Shared) (H : Hp) (vs : List V) (Q : VK) (E : XK),zcO k (A.deeper (envOfC qual (zae st) s.heap.objs.size f cdv)) -> sp vs H Q E ->
     ∃ t,PSs (zf7 CX0 P w K mg base N qual (zae st) f cdv A outer s H E).nox (zco st) t /\ t { nx:=fun _ H'=>Q .non H',rt:=Q } (start N vs) H) : zaP P w K mg base CX0 (k + 1) f fd ps sp:=by
 obtain ⟨oc,od,kV,doc,pm,an,cdv,ct,osl,rfl,lk,hcd⟩:=F.ex
 refine znF lk hcd S len fun A outer s H vs Q E hr hsp=>?_
 obtain ⟨t,h,q⟩:=hbody cdv A outer s H vs Q E hr hsp
 exact ⟨t,h.nox,q⟩
theorem Fun.binds {x qual : Str} {st : Stmt} {f : Addr} {fd : FuncData} {ps : List Str} (F : Fun K x qual st f fd)
   (h : ∀ (kV doc pm : Value) (an : Option Addr) (cdv ct : Value) (us : List Value),us.length = ps.length -> bindArgs (PySem.W.fnOf x qual (zdT st) (zco st) (zae st) .none kV doc pm an cdv ct) ⟨us,[]⟩ = pure (ps.zip us)) : zgN K fd ps []:=by
 obtain ⟨oc,od,kV,doc,pm,an,cdv,ct,osl,rfl,lk,hcd⟩:=F.ex
 exact .all (h kV doc pm an cdv ct)
theorem zll {x qual : Str} {st : Stmt} {f : Addr} {oc : Value} {od an : Option Addr} {osl : Array (Option Value)} {kV doc pm cdv ct : Value} (l : K.lookup f = some ⟨oc,od,.func (PySem.W.fnOf x qual (zdT st) (zco st) (zae st) .none kV doc pm an cdv ct),osl⟩)
   (c : PySem.W.codeIn K cdv qual = true) (k : PySem.W.keepIn K (.ref f) = true) : Fun K x qual st f (PySem.W.fnOf x qual (zdT st) (zco st) (zae st) .none kV doc pm an cdv ct):=⟨⟨oc,od,kV,doc,pm,an,cdv,ct,osl,rfl,l,c⟩,k⟩
end
theorem zd0 {n : Nat} (h : n <= 1000) : n < sizeLine:=Nat.lt_of_le_of_lt h (by decide)
section
variable {X : Cx}
theorem pv (i : Nat) {x : Str} {pos : Pos} (hN : X.N[i]? = some x:=by rfl) (hv : Vis X.env.scope x:=by first | exact Or.inl rfl | exact Or.inr (Or.inl rfl) | exact Or.inr (Or.inr rfl)) (hd : (x == ("__debug__" : Str)) = false:=by decide)
   (hcd : (x == ("__classdict__" : Str)) = false:=by decide) : PE X (.Name x pos) (zlt i):=zn2 hN hv hd hcd
end
theorem zmM {A B : Prop} (h : B) : if false = true then A else B:=by
 rw [if_neg Bool.false_ne_true]
 exact h
theorem zl7 {A B : Prop} (h : A) : if true = true then A else B:=by
 rw [if_pos rfl]
 exact h
def zah (H H' : Hp) : Prop:=∀ b o,H b = some o -> H' b = some o
theorem zah.refl (H : Hp) : zah H H:=fun _ _ h=>h
theorem zah.trans {H H1 H2 : Hp} (a : zah H H1) (b : zah H1 H2) : zah H H2:=fun c o h=>b c o (a c o h)
theorem zah.seq {K : PySem.W.Frag} {H H' : Hp} {a : Addr} {xs : List V} (e : zah H H') (h : SqL K H a xs) : SqL K H' a xs:=by
 rcases h with (h | ⟨o,h⟩) | h
 . exact .inl (.inl (e _ _ h))
 . exact .inl (.inr ⟨o,e _ _ h⟩)
 . exact .inr h
end L2
namespace GM
def dv (t b : Int) : Int:=if b < 0 then -((Int.gcd t b : Nat) : Int) else ((Int.gcd t b : Nat) : Int)
theorem zhe {t b : Int} (hb : b ≠ 0) : 0 < Int.gcd t b:=Int.gcd_pos_of_ne_zero_right t hb
theorem zni {t b : Int} (hb : b ≠ 0) : dv t b ≠ 0:=by
 have:=zhe (t:=t) hb
 unfold dv
 split <;> lia
theorem zbO {a d : Int} (h : d ∣ a) (hd : d ≠ 0) : a.fdiv d = a / d:=by
 obtain ⟨k,rfl⟩:=h
 rw [Int.mul_fdiv_cancel_left _ hd,Int.mul_ediv_cancel_left _ hd]
theorem zko {t b : Int} (hb : b ≠ 0) : t.fdiv (dv t b) = (Rat.divInt t b).num:=by
 have hg:=zhe (t:=t) hb
 have h1 : ((Int.gcd t b : Nat) : Int) ∣ t:=Int.gcd_dvd_left ..
 rw [Rat.num_divInt,Int.gcd_comm b t]
 unfold dv
 by_cases h : b < 0
 . rw [if_pos h,Int.sign_eq_neg_one_of_neg h,zbO (Int.neg_dvd.mpr h1) (by lia),Int.ediv_neg]
   obtain ⟨k,hk⟩:=h1
   have : (-1 : Int) * t = ((Int.gcd t b : Nat) : Int) * (-k):=by rw [Int.neg_one_mul,Int.mul_neg,<- hk]
   rw [this,Int.mul_ediv_cancel_left _ (by lia)]
   have e : t / ((Int.gcd t b : Nat) : Int) = k:=Int.ediv_eq_of_eq_mul_right (by lia) hk
   rw [e]
 . rw [if_neg h,Int.sign_eq_one_of_pos (by lia),Int.one_mul,zbO h1 (by lia)]
theorem zn9 {t b : Int} (hb : b ≠ 0) : b.fdiv (dv t b) = ((Rat.divInt t b).den : Int):=by
 have hg:=zhe (t:=t) hb
 have h1 : ((Int.gcd t b : Nat) : Int) ∣ b:=Int.gcd_dvd_right ..
 rw [Rat.den_divInt,if_neg hb,Int.gcd_comm b t]
 unfold dv
 by_cases h : b < 0
 . rw [if_pos h,zbO (Int.neg_dvd.mpr h1) (by lia),Int.ediv_neg,Int.natCast_ediv]
   obtain ⟨k,hk⟩:=h1
   have : (b.natAbs : Int) = ((Int.gcd t b : Nat) : Int) * (-k):=by rw [Int.mul_neg,<- hk]; lia
   rw [this,Int.mul_ediv_cancel_left _ (by lia)]
   have e : b / ((Int.gcd t b : Nat) : Int) = k:=Int.ediv_eq_of_eq_mul_right (by lia) hk
   rw [e]
 . rw [if_neg h,zbO h1 (by lia),Int.natCast_ediv]
   have : (b.natAbs : Int) = b:=by lia
   rw [this]
def zgf (p q : Int) : Bool:=decide (1 <= q) && decide (Int.gcd p q = 1)
theorem zj4 (r : Rat) : zgf r.num r.den = true:=by
 have h:=r.reduced
 have hd:=r.den_pos
 simp only [zgf,Bool.and_eq_true,decide_eq_true_eq]
 refine ⟨by lia,?_⟩
 have : Nat.gcd r.num.natAbs r.den = 1:=h
 simpa [Int.gcd] using this
theorem zij {a b : Int} (hb : 0 < b) (ha : 0 <= a) : Int.gcd b (a % b) = Int.gcd a b:=by
 rw [Int.gcd_comm a b]
 have e : a = a % b + b * (a / b):=(Int.emod_add_mul_ediv a b).symm
 conv=>rhs; rw [e]
 rw [Int.gcd_add_mul_left_right]
structure Bd (n : Nat) (x : Int) : Prop where
 lt : x.natAbs < 2 ^ n
theorem Bd.mono {m n : Nat} {x : Int} (h : Bd m x) (e : m <= n) : Bd n x:=⟨Nat.lt_of_lt_of_le h.lt (Nat.pow_le_pow_right (by decide) e)⟩
theorem Bd.mul {m n : Nat} {x y : Int} (h : Bd m x) (k : Bd n y) : Bd (m + n) (x * y):=by
 refine ⟨?_⟩
 rw [Int.natAbs_mul,Nat.pow_add]
 exact Nat.mul_lt_mul'' h.lt k.lt
theorem Bd.add {m n : Nat} {x y : Int} (h : Bd m x) (k : Bd n y) : Bd (max m n + 1) (x + y):=by
 have h1:=(h.mono (Nat.le_max_left m n)).lt
 have h2:=(k.mono (Nat.le_max_right m n)).lt
 refine ⟨?_⟩
 rw [Nat.pow_succ]
 lia
theorem Bd.le {n : Nat} {x y : Int} (h : Bd n x) (e : y.natAbs <= x.natAbs) : Bd n y:=⟨Nat.lt_of_le_of_lt e h.lt⟩
theorem Bd.log {n : Nat} {x : Int} (h : Bd n x) (hn : 0 < n) : x.natAbs.log2 < n:=by
 by_cases e : x.natAbs = 0
 . rw [e]; exact hn
 . exact (Nat.log2_lt e).mpr h.lt
theorem zoy (t b : Int) (hb : b ≠ 0) : (Rat.divInt t b).num.natAbs <= t.natAbs:=by
 rw [<- zko hb]
 have h1 : dv t b ∣ t:=by
   have : ((Int.gcd t b : Nat) : Int) ∣ t:=Int.gcd_dvd_left ..
   unfold dv; split
   . exact Int.neg_dvd.mpr this
   . exact this
 rw [zbO h1 (zni hb)]
 exact Int.natAbs_ediv_le_natAbs t _
theorem zot (t b : Int) (hb : b ≠ 0) : (Rat.divInt t b).den <= b.natAbs:=by
 rw [Rat.den_divInt,if_neg hb]
 exact Nat.div_le_self _ _
structure Bdr (n : Nat) (x : Rat) : Prop where
 t : Bd n x.num
 b : Bd n (x.den : Int)
theorem Bd.of128 {m : Int} (h1 : -100000000000000000000000000000000000000 <= m) (h2 : m <= 100000000000000000000000000000000000000) : Bd 128 m:=⟨by
 have e : (2 : Nat) ^ 128 = 340282366920938463463374607431768211456:=by decide
 rw [e]
 lia⟩
def push (a b : Rat) : Nat -> Rat -> Rat
 | 0,x=>x
 | n + 1,x=>a * push a b n x + b
end GM
namespace GM
end GM
namespace GM
def zpj (a b : Rat) (n : Nat) (xs : List Rat) : List Rat:=(xs.tail.map fun y=>push a b n (y + (1 - xs.headD 0))) ++ [0]
def turned (a b : Rat) (ns : List Int) (xs : List Rat) : Nat -> List Rat
 | 0=>xs
 | k + 1=>zpj a b (ns.getD k 0).toNat (turned a b ns xs k)
end GM
namespace GM
theorem zl1 (t b : Int) : Int.gcd (if t < 0 then -t else t) b = Int.gcd t b:=by split <;> simp
end GM
namespace GM
theorem getD_mem {α : Type} {xs : List α} {d : α} {i : Nat} (h : i < xs.length) : xs.getD i d ∈ xs:=by
 rw [List.getD_eq_getElem?_getD,List.getElem?_eq_getElem h]
 exact List.getElem_mem h
structure zpH (x : Rat) : Prop where
 nn : 0 <= x
 lt : x < 1
 den : x.den <= 60
end GM
namespace GM
end GM
set_option Elab.async false
set_option linter.all false
set_option maxRecDepth 100000
namespace L2
open PySem PySem.Spec PyProof.Rows GM
section
variable {K : PySem.W.Frag} {H H' H2 : Hp} {a p : Addr} {xs ys : List V} {o : HO}
theorem zah.upd (h : H p = none) : zah H (upd H p o):=fun b u e=>by
 rw [za6 (zaF e h)]
 exact e
theorem zah.sqT (s : zah H H') (h : SqT K H a xs) : SqT K H' a xs:=by
 rcases h with (h | ⟨o,h⟩) | h
 . exact .inl (.inl (s _ _ h))
 . exact .inl (.inr ⟨o,s _ _ h⟩)
 . exact .inr h
structure zaK (H H' : Hp) : Prop where
 t : ∀ b xs,H b = some (.tup xs) -> H' b = some (.tup xs)
 f : ∀ b o u,H b = some (.frz o u) -> H' b = some (.frz o u)
theorem zah.keep (s : zah H H') : zaK H H':=⟨fun b xs h=>s _ _ h,fun b o u h=>s _ _ h⟩
theorem zaK.refl (H : Hp) : zaK H H:=(zah.refl H).keep
theorem zaK.trans (a : zaK H H') (b : zaK H' H2) : zaK H H2:=⟨fun c xs h=>b.t _ _ (a.t _ _ h),fun c o u h=>b.f _ _ _ (a.f _ _ _ h)⟩
theorem zaK.sqT (k : zaK H H') (h : SqT K H a xs) : SqT K H' a xs:=by
 rcases h with (h | ⟨o,h⟩) | h
 . exact .inl (.inl (k.t _ _ h))
 . exact .inl (.inr ⟨o,k.f _ _ _ h⟩)
 . exact .inr h
def SqF (K : PySem.W.Frag) (H : Hp) (a : Addr) (xs : List V) : Prop :=
 (∃ o,H a = some (.frz o (.lst xs))) \/
   ∃ (o : Obj) (its : Array Value) (n : Nat),K.lookup a = some o /\ o.cls = .type "list" /\ o.dict = none /\ o.data = .seq its n /\ its.size <= sizeLine /\ zap xs its.toList
theorem SqF.sq (h : SqF K H a xs) : SqL K H a xs:=by
 rcases h with ⟨o,h⟩ | h
 . exact .inl (.inr ⟨o,h⟩)
 . exact .inr h
theorem zaK.sqF (k : zaK H H') (h : SqF K H a xs) : SqF K H' a xs:=by
 rcases h with ⟨o,h⟩ | h
 . exact .inl ⟨o,k.f _ _ _ h⟩
 . exact .inr h
def Exc (p : Addr) (H H' : Hp) : Prop:=∀ b o,b ≠ p -> H b = some o -> H' b = some o
theorem Exc.keep (e : Exc p H H') (h : H p = some (.lst xs)) : zaK H H' :=
 ⟨fun b ys hb=>e b _ (znA hb h (by intro z; cases z)) hb,fun b o u hb=>e b _ (znA hb h (by intro z; cases z)) hb⟩
theorem zah.exc (s : zah H H') : Exc p H H':=fun b o _ h=>s b o h
theorem Exc.refl (p : Addr) (H : Hp) : Exc p H H:=fun _ _ _ h=>h
theorem Exc.trans (a : Exc p H H') (b : Exc p H' H2) : Exc p H H2:=fun c o n h=>b c o n (a c o n h)
theorem Exc.upd (p : Addr) (H : Hp) (o : HO) : Exc p H (upd H p o):=fun b u n h=>by
 rw [za6 n]
 exact h
theorem Exc.at (e : Exc p H H') {q : Addr} {u : HO} (n : q ≠ p) (h : H q = some u) : H' q = some u:=e q u n h
end
mutual
def Is (K : PySem.W.Frag) (H : Hp) : V -> PyData -> Prop
 | v,.none=>v = .non
 | v,.bool b=>v = .bl b
 | v,.int i=>v = .int i
 | v,.str x=>v = .str x
 | v,.tuple ds=>∃ a xs,v = .ref a /\ SqT K H a xs /\ IsAll K H xs ds
 | v,.list ds=>∃ a xs,v = .ref a /\ SqL K H a xs /\ IsAll K H xs ds
 | v,.dict _=>∃ a kvs,v = .ref a /\ H a = some (.dK kvs)
def IsAll (K : PySem.W.Frag) (H : Hp) : List V -> List PyData -> Prop
 | xs,[]=>xs = []
 | xs,d :: ds=>∃ x r,xs = x :: r /\ Is K H x d /\ IsAll K H r ds
end
section
variable {K : PySem.W.Frag} {H H' : Hp} {v : V} {xs : List V} {ds : List PyData} {d : PyData}
theorem zay {i : Int} : Is K H v (.int i) ↔ v = .int i:=by rw [Is]
theorem zeH {b : Bool} : Is K H v (.bool b) ↔ v = .bl b:=by rw [Is]
theorem zaZ {x : Str} : Is K H v (.str x) ↔ v = .str x:=by rw [Is]
theorem zeU : Is K H v .none ↔ v = .non:=by rw [Is]
theorem zau : Is K H v (.tuple ds) ↔ ∃ a xs,v = .ref a /\ SqT K H a xs /\ IsAll K H xs ds:=by rw [Is]
theorem zaU : Is K H v (.list ds) ↔ ∃ a xs,v = .ref a /\ SqL K H a xs /\ IsAll K H xs ds:=by rw [Is]
theorem ziZ {kv : List (PyData × PyData)} : Is K H v (.dict kv) ↔ ∃ a kvs,v = .ref a /\ H a = some (.dK kvs):=by rw [Is]
theorem zaY : IsAll K H xs [] ↔ xs = []:=by rw [IsAll]
theorem zaq : IsAll K H xs (d :: ds) ↔ ∃ x r,xs = x :: r /\ Is K H x d /\ IsAll K H r ds:=by rw [IsAll]
theorem IsAll.cons (h : Is K H v d) (t : IsAll K H xs ds) : IsAll K H (v :: xs) (d :: ds):=zaq.mpr ⟨v,xs,rfl,h,t⟩
theorem IsAll.nil : IsAll K H [] []:=zaY.mpr rfl
theorem IsAll.length : ∀ {ds : List PyData} {xs : List V},IsAll K H xs ds -> xs.length = ds.length
 | [],_,h=>by rw [zaY.mp h]; rfl
 | d :: ds,_,h=>by
   obtain ⟨x,r,rfl,_,t⟩:=zaq.mp h
   rw [List.length_cons,List.length_cons,IsAll.length t]
theorem IsAll.get : ∀ {ds : List PyData} {xs : List V} {i : Nat} {d : PyData},IsAll K H xs ds -> ds[i]? = some d -> ∃ x,xs[i]? = some x /\ Is K H x d
 | [],_,_,_,_,e=>by simp at e
 | d :: ds,_,0,_,h,e=>by
   obtain ⟨x,r,rfl,q,_⟩:=zaq.mp h
   simp at e; subst e
   exact ⟨x,rfl,q⟩
 | d :: ds,_,i + 1,d',h,e=>by
   obtain ⟨x,r,rfl,_,t⟩:=zaq.mp h
   obtain ⟨y,h1,h2⟩:=IsAll.get (i:=i) t (by simpa using e)
   exact ⟨y,by simpa using h1,h2⟩
theorem IsAll.append : ∀ {ds es : List PyData} {xs ys : List V},IsAll K H xs ds -> IsAll K H ys es -> IsAll K H (xs ++ ys) (ds ++ es)
 | [],_,_,_,h,t=>by rw [zaY.mp h]; exact t
 | d :: ds,_,_,_,h,t=>by
   obtain ⟨x,r,rfl,q,u⟩:=zaq.mp h
   exact .cons q (IsAll.append u t)
mutual
theorem Is.same (s : zah H H') : ∀ (d : PyData) (v : V),Is K H v d -> Is K H' v d
 | .none,v,h=>by rw [zeU] at h ⊢; exact h
 | .bool _,v,h=>by rw [zeH] at h ⊢; exact h
 | .int _,v,h=>by rw [zay] at h ⊢; exact h
 | .str _,v,h=>by rw [zaZ] at h ⊢; exact h
 | .tuple ds,v,h=>by
   obtain ⟨a,xs,e,q,t⟩:=zau.mp h
   exact zau.mpr ⟨a,xs,e,s.sqT q,IsAll.same s ds xs t⟩
 | .list ds,v,h=>by
   obtain ⟨a,xs,e,q,t⟩:=zaU.mp h
   exact zaU.mpr ⟨a,xs,e,s.seq q,IsAll.same s ds xs t⟩
 | .dict _,v,h=>by
   obtain ⟨a,kvs,e,q⟩:=ziZ.mp h
   exact ziZ.mpr ⟨a,kvs,e,s _ _ q⟩
theorem IsAll.same (s : zah H H') : ∀ (ds : List PyData) (xs : List V),IsAll K H xs ds -> IsAll K H' xs ds
 | [],xs,h=>by rw [zaY] at h ⊢; exact h
 | d :: ds,xs,h=>by
   obtain ⟨x,r,e,q,t⟩:=zaq.mp h
   exact zaq.mpr ⟨x,r,e,Is.same s d x q,IsAll.same s ds r t⟩
end
end
/- no list and no dict within -/
mutual
def Imm : PyData -> Bool
 | .none=>true
 | .bool _=>true
 | .int _=>true
 | .str _=>true
 | .tuple ds=>ImmAll ds
 | .list _=>false
 | .dict _=>false
def ImmAll : List PyData -> Bool
 | []=>true
 | d :: ds=>Imm d && ImmAll ds
end
section
variable {K : PySem.W.Frag} {H H' : Hp}
mutual
theorem Is.keep (k : zaK H H') : ∀ (d : PyData) (v : V),Imm d = true -> Is K H v d -> Is K H' v d
 | .none,v,_,h=>by rw [zeU] at h ⊢; exact h
 | .bool _,v,_,h=>by rw [zeH] at h ⊢; exact h
 | .int _,v,_,h=>by rw [zay] at h ⊢; exact h
 | .str _,v,_,h=>by rw [zaZ] at h ⊢; exact h
 | .tuple ds,v,i,h=>by
   obtain ⟨a,xs,e,q,t⟩:=zau.mp h
   exact zau.mpr ⟨a,xs,e,k.sqT q,IsAll.keep k ds xs (by rw [Imm] at i; exact i) t⟩
 | .list ds,v,i,h=>by rw [Imm] at i; cases i
 | .dict _,v,i,h=>by rw [Imm] at i; cases i
theorem IsAll.keep (k : zaK H H') : ∀ (ds : List PyData) (xs : List V),ImmAll ds = true -> IsAll K H xs ds -> IsAll K H' xs ds
 | [],xs,_,h=>by rw [zaY] at h ⊢; exact h
 | d :: ds,xs,i,h=>by
   obtain ⟨x,r,e,q,t⟩:=zaq.mp h
   rw [ImmAll,Bool.and_eq_true] at i
   exact zaq.mpr ⟨x,r,e,Is.keep k d x i.1 q,IsAll.keep k ds r i.2 t⟩
end
end
def N (r : Rat) : PyData:=.tuple [.int r.num,.int (r.den : Int)]
theorem zkD (r : Rat) : Imm (N r) = true:=by simp [N,Imm,ImmAll]
section
variable {K : PySem.W.Frag} {H H' : Hp} {v : V} {r : Rat}
theorem zoT : Is K H v (N r) ↔ ∃ a,v = .ref a /\ SqT K H a [.int r.num,.int (r.den : Int)]:=by
 unfold N
 rw [zau]
 constructor
 . rintro ⟨a,xs,e,q,t⟩
   obtain ⟨x,r1,rfl,q1,t⟩:=zaq.mp t
   obtain ⟨y,r2,rfl,q2,t⟩:=zaq.mp t
   rw [zaY.mp t,zay.mp q1,zay.mp q2] at q
   exact ⟨a,e,q⟩
 . rintro ⟨a,e,q⟩
   exact ⟨a,_,e,q,.cons (zay.mpr rfl) (.cons (zay.mpr rfl) .nil)⟩
end
section
variable {X : Cx} {pins : List (Addr × Obj)} {σ : St} {H : Hp} {s : Shared}
mutual
theorem Inv.reads (I : Inv X pins σ H s) : ∀ (d : PyData) (v : V) (u : Value),d.canLay0 = true -> Is X.K H v d -> zaD v u -> ∃ as,Reads s.heap u d as
 | .none,v,u,_,h,r=>by
   cases zeU.mp h
   cases (show u = Value.none from r)
   exact ⟨_,.none⟩
 | .bool b,v,u,_,h,r=>by
   cases zeH.mp h
   cases (show u = Value.bool b from r)
   exact ⟨_,.bool b⟩
 | .int i,v,u,_,h,r=>by
   cases zay.mp h
   obtain ⟨t,e⟩:=(show ∃ t,u = Value.int i t from r)
   cases e
   exact ⟨_,.int i t⟩
 | .str x,v,u,_,h,r=>by
   cases zaZ.mp h
   obtain ⟨t,e⟩:=(show ∃ t,u = Value.str x t from r)
   cases e
   exact ⟨_,.str x t⟩
 | .tuple ds,v,u,c,h,r=>by
   obtain ⟨a,xs,e,q,t⟩:=zau.mp h
   subst e
   cases (show u = Value.ref a from r)
   obtain ⟨its,rv,⟨o,e1,e2,n,e3⟩,_⟩:=I.tuple q
   obtain ⟨as,ra⟩:=Inv.readsAll I ds xs its (by rw [PyData.canLay0] at c; exact c) t rv
   exact ⟨_,.tuple e1 e2 e3 (by simpa using ra)⟩
 | .list ds,v,u,c,h,r=>by
   obtain ⟨a,xs,e,q,t⟩:=zaU.mp h
   subst e
   cases (show u = Value.ref a from r)
   obtain ⟨its,rv,⟨o,n,e1,e2,_,e3⟩,_⟩:=I.list q
   obtain ⟨as,ra⟩:=Inv.readsAll I ds xs its (by rw [PyData.canLay0] at c; exact c) t rv
   exact ⟨_,.list e1 e2 e3 (by simpa using ra)⟩
 | .dict _,v,u,c,h,r=>by rw [PyData.canLay0] at c; cases c
theorem Inv.readsAll (I : Inv X pins σ H s) : ∀ (ds : List PyData) (xs : List V) (us : List Value),PyData.canLayAll0 ds = true -> IsAll X.K H xs ds -> zap xs us -> ∃ as,ReadsAll s.heap us ds as
 | [],xs,us,_,h,r=>by
   rw [zaY.mp h] at r
   cases r
   exact ⟨_,.nil⟩
 | d :: ds,xs,us,c,h,r=>by
   obtain ⟨x,l,e,q,t⟩:=zaq.mp h
   subst e
   rw [PyData.canLayAll0,Bool.and_eq_true] at c
   cases r with
   | cons r1 r2 =>
     obtain ⟨as,h1⟩:=Inv.reads I d x _ c.1 q r1
     obtain ⟨bs,h2⟩:=Inv.readsAll I ds l _ c.2 t r2
     exact ⟨_,.cons h1 h2⟩
end
end
section
variable {X : Cx}
open PySem.SeqAt (shaped)
def zgD (K : PySem.W.Frag) : R2:=fun x y H Q=>∃ d e,Is K H x d /\ Is K H y e /\ shaped d = true /\ shaped e = true /\ Q (.bl (PyData.eqv d e)) H
def zeA (K : PySem.W.Frag) : R2:=fun x y H Q=>∃ d e,Is K H x d /\ Is K H y e /\ shaped d = true /\ shaped e = true /\ Q (.bl (!PyData.eqv d e)) H
theorem zfd (hu : X.A.units + 64 < cLine) : OpR X (compareOp .Eq) (zgD X.K):=by
 intro pins s σ H x y v u Q I rx ry h
 obtain ⟨d,e,hd,he,sd,se,q⟩:=h
 obtain ⟨as,h1⟩:=I.reads d x v (PySem.SeqAt.canLay_of_shaped sd) hd rx
 obtain ⟨bs,h2⟩:=I.reads e y u (PySem.SeqAt.canLay_of_shaped se) he ry
 exact eq_dataH h1 h2 sd se hu ⟨.bl _,H,I,rfl,q⟩
theorem zc9 (hu : X.A.units + 64 < cLine) : OpR X (compareOp .NotEq) (zeA X.K):=by
 intro pins s σ H x y v u Q I rx ry h
 obtain ⟨d,e,hd,he,sd,se,q⟩:=h
 obtain ⟨as,h1⟩:=I.reads d x v (PySem.SeqAt.canLay_of_shaped sd) hd rx
 obtain ⟨bs,h2⟩:=I.reads e y u (PySem.SeqAt.canLay_of_shaped se) he ry
 exact ne_dataH h1 h2 sd se hu ⟨.bl _,H,I,rfl,q⟩
def kindOf : PyData -> String
 | .none=>"NoneType"
 | .bool _=>"bool"
 | .int _=>"int"
 | .str _=>"str"
 | .tuple _=>"tuple"
 | .list _=>"list"
 | .dict _=>"dict"
def zbY (K : PySem.W.Frag) : List V -> Hp -> VK -> Prop:=fun xs H Q=>∃ x T d b,xs = [x,.ty T] /\ Is K H x d /\ PySem.W.kitOne K (.type (kindOf d)) (.type T) = some b /\ Q (.bl b) H
theorem zbb : zaj X (.builtin "isinstance") (zbY X.K):=by
 intro pins s σ H xs us Q I r h
 obtain ⟨x,T,d,b,rfl,hd,e,q⟩:=h
 obtain ⟨u,w',rfl,rx,rt⟩:=zpv r
 cases (show w' = Value.type T from rt)
 have fin : ∀ tk,EP X pins σ Q (.bool b) { s with toks:=tk }:=fun tk=>⟨.bl b,H,I.tok _,rfl,q⟩
 cases d with
 | none =>
   cases zeU.mp hd
   cases (show u = Value.none from rx)
   exact PySem.W.kia_one PySem.W.kitx_none I.kIn True.intro e (fun z=>nomatch z) fin
 | bool y =>
   cases zeH.mp hd
   cases (show u = Value.bool y from rx)
   exact PySem.W.kia_one PySem.W.kitx_bool I.kIn True.intro e (fun z=>nomatch z) fin
 | int i =>
   cases zay.mp hd
   obtain ⟨t,q⟩:=(show ∃ t,u = Value.int i t from rx)
   cases q
   exact PySem.W.kia_one PySem.W.kitx_int I.kIn True.intro e (fun z=>nomatch z) fin
 | str y =>
   cases zaZ.mp hd
   obtain ⟨t,q⟩:=(show ∃ t,u = Value.str y t from rx)
   cases q
   exact PySem.W.kia_one PySem.W.kitx_str I.kIn True.intro e (fun z=>nomatch z) fin
 | tuple ds =>
   obtain ⟨a,xs,e1,hq,_⟩:=zau.mp hd
   subst e1
   cases (show u = Value.ref a from rx)
   obtain ⟨its,_,⟨o,h1,h2,_⟩,_⟩:=I.tuple hq
   exact PySem.W.kia_one PySem.W.kitx_tuple I.kIn ⟨o,h1,h2⟩ e (fun z=>nomatch z) fin
 | list ds =>
   obtain ⟨a,xs,e1,hq,_⟩:=zaU.mp hd
   subst e1
   cases (show u = Value.ref a from rx)
   obtain ⟨its,_,⟨o,n,h1,h2,_⟩,_⟩:=I.list hq
   exact PySem.W.kia_one PySem.W.kitx_list I.kIn ⟨o,h1,h2⟩ e (fun z=>nomatch z) fin
 | dict kv =>
   obtain ⟨a,kvs,e1,hq⟩:=ziZ.mp hd
   subst e1
   cases (show u = Value.ref a from rx)
   obtain ⟨_,_,vs,_,o,es,ep,h1,h2,_⟩:=(show zbE X.prog X.w H s.heap a (.dK kvs) from I.hok a _ hq)
   exact PySem.W.kia_one PySem.W.kitx_dict I.kIn ⟨o,h1,h2.1⟩ e (fun z=>nomatch z) fin
def isA (T : String) (d : PyData) : Bool:=(kindOf d == T) || (kindOf d == "bool" && T == "int")
theorem zmZ {K : PySem.W.Frag} (d : PyData) : PySem.W.kitOne K (.type (kindOf d)) (.type "int") = some (isA "int" d):=by cases d <;> rfl
theorem zlK {K : PySem.W.Frag} (d : PyData) : PySem.W.kitOne K (.type (kindOf d)) (.type "bool") = some (isA "bool" d):=by cases d <;> rfl
theorem zkb {K : PySem.W.Frag} (d : PyData) : PySem.W.kitOne K (.type (kindOf d)) (.type "tuple") = some (isA "tuple" d):=by cases d <;> rfl
theorem zkH {K : PySem.W.Frag} (d : PyData) : PySem.W.kitOne K (.type (kindOf d)) (.type "list") = some (isA "list" d):=by cases d <;> rfl
theorem zmt {K : PySem.W.Frag} (d : PyData) : PySem.W.kitOne K (.type (kindOf d)) (.type "str") = some (isA "str" d):=by cases d <;> rfl
theorem MulBd {m n : Nat} {i j : Int} (h : Bd m i) (k : Bd n j) (hm : m <= 1000000) (hn : n <= 1000000) : IntMulOk i j:=by
 have f : ∀ {m : Nat} {i : Int},Bd m i -> m <= 1000000 -> Builtin.Int.intBits i <= 2 ^ 20:=by
   intro m i h hm
   have e : (2 : Nat) ^ 20 = 1048576:=by decide
   have l:=(h.mono (Nat.le_succ m)).log (Nat.succ_pos m)
   unfold Builtin.Int.intBits
   split <;> lia
 exact .of_bits (f h hm) (f k hn)
theorem zbC : OpR X (binaryOp .Mult) (rI IntMulOk fun i j=>.int (i * j)):=opI fun _ _ _ _ _ _ _ hc q=>mul_int q hc
def zny (_ j : Int) : Prop:=j ≠ 0 /\ Bd 8999 j
theorem zcW : OpR X (binaryOp .FloorDiv) (rI zny fun i j=>.int (i.fdiv j)):=opI fun _ _ _ _ _ _ _ hc q =>
 floordiv_int hc.1 q (.inl (PyProof.noPylong_of_log2 (Nat.lt_succ_of_lt (hc.2.log (by decide)))))
theorem zmm : OpR X (binaryOp .Add) (fun x y H Q=>(rI0 fun i j=>.int (i + j)) x y H Q \/ (zoc x y H Q \/ ∃ i j,x = .str i /\ y = .str j /\ i.length + j.length <= sizeLine /\ Q (.str (i ++ j)) H)):=zoL.or (zof.or ziK)
end
end L2
set_option Elab.async false
set_option linter.all false
set_option maxRecDepth 100000
namespace L2
open PySem PySem.Spec PyProof.Rows GM
theorem zbv : bootBuiltins "len" = some (.builtin "len"):=by decide +kernel
theorem zkz : bootBuiltins "abs" = some (.builtin "abs"):=by decide +kernel
theorem zav : bootBuiltins "isinstance" = some (.builtin "isinstance"):=by decide +kernel
theorem zfl : bootBuiltins "int" = some (.type "int"):=by decide +kernel
theorem zmI : bootBuiltins "bool" = some (.type "bool"):=by decide +kernel
theorem zdj : bootBuiltins "str" = some (.type "str"):=by decide +kernel
theorem zbs : bootBuiltins "tuple" = some (.type "tuple"):=by decide +kernel
theorem zjN : bootBuiltins "list" = some (.type "list"):=by decide +kernel
def mkT (K : PySem.W.Frag) (xs : List V) (H : Hp) (Q : VK) : Prop:=xs.length <= sizeLine /\ ∀ p,H p = none -> Q (.ref p) (upd H p (.tup xs))
def mkL (K : PySem.W.Frag) (xs : List V) (H : Hp) (Q : VK) : Prop:=xs.length <= sizeLine /\ ∀ p,H p = none -> Q (.ref p) (upd H p (.lst xs))
def znv (K : PySem.W.Frag) (t : TA) : TE:=fun σ H Q=>t σ H fun xs H1=>mkT K xs H1 Q
def zm7 (K : PySem.W.Frag) (t : TA) : TE:=fun σ H Q=>t σ H fun xs H1=>mkL K xs H1 Q
def zm8 : R2:=fun x y H Q=>(rI0 fun i j=>.int (i + j)) x y H Q \/ (zoc x y H Q \/ ∃ i j,x = .str i /\ y = .str j /\ i.length + j.length <= sizeLine /\ Q (.str (i ++ j)) H)
def zpl : List V -> Hp -> VK -> Prop:=fun xs H Q=>∃ i : Int,xs = [.int i] /\ Q (.int (if i < 0 then -i else i)) H
def zd3 (K : PySem.W.Frag) : List V -> Hp -> VK -> Prop:=fun xs H Q=>∃ p ys,xs = [.ref p] /\ (SqL K H p ys \/ SqT K H p ys) /\ Q (.int ys.length) H
def zpi : List V -> Hp -> VK -> Prop:=fun xs H Q=>(∃ i,xs = [.int i] /\ Q (.int i) H) \/ ∃ k,xs = [.bl k] /\ Q (.int (if k then 1 else 0)) H
section
variable {X : Cx} {e : Expr} {es : List Expr} {te : TE} {t : TA} {pos : Pos}
theorem ze2 {x1} (h : PA X es t) : PE X (.Tuple es x1 pos) (znv X.K t):=zn1 h
theorem zbA (h : PA X es t) : PE X (.List es pos) (zm7 X.K t):=zon h
theorem zaM : OpR X (binaryOp .Add) zm8:=zmm
theorem zgS : zaj X (.builtin "abs") zpl:=zk3
theorem zaT : zaj X (.builtin "len") (zd3 X.K):=zho
theorem zgZ : zaj X (.type "int") zpi:=zj8
theorem zeM {x : Str} {i : Int} {pos : Pos} (hg : Gl X x) (hm : ∃ t,X.mg x = some (.int i t)) (hd : (x == ("__debug__" : Str)) = false:=by decide) : PE X (.Name x pos) (tC (.int i)):=by
 obtain ⟨t,hm⟩:=hm
 exact zfR hg hm ⟨t,rfl⟩ hd
theorem zkY {x : Str} {i : Str} {pos : Pos} (hg : Gl X x) (hm : ∃ t,X.mg x = some (.str i t)) (hd : (x == ("__debug__" : Str)) = false:=by decide) : PE X (.Name x pos) (tC (.str i)):=by
 obtain ⟨t,hm⟩:=hm
 exact zfR hg hm ⟨t,rfl⟩ hd
end
section
variable {K : PySem.W.Frag} {σ : St} {H H' : Hp} {Q : VK} {QA : List V -> Hp -> Prop} {QB : Bool -> Hp -> Prop} {QS : St -> Hp -> Prop} {QH : Hp -> Prop} {D : zcJ} {ta tb te : TE} {tt tu : TT} {t tr : TA} {s1 s2 : TS} {g : TG} {gs : TGs} {r : R2} {v w : V} {xs ys : List V} {i : Nat} {m n : Int}
theorem zoI (h : σ[i]? = some (some v)) (q : Q v H) : zlt i σ H Q:=⟨v,h,q⟩
theorem zpQ (q : Q v H) : tC v σ H Q:=q
theorem zpC (h : ta σ H fun x H1=>tb σ H1 fun y H2=>r x y H2 Q) : tOp r ta tb σ H Q:=h
theorem zpz {u : V -> Hp -> VK -> Prop} (h : ta σ H fun x H1=>u x H1 Q) : tUn u ta σ H Q:=h
theorem zoP (h : t σ H fun xs H1=>mkT K xs H1 Q) : znv K t σ H Q:=h
theorem zoE (h : t σ H fun xs H1=>mkL K xs H1 Q) : zm7 K t σ H Q:=h
theorem zoJ (q : QA [] H) : zn5 σ H QA:=q
theorem zmC (h : te σ H fun x H1=>tr σ H1 fun xs H2=>QA (x :: xs) H2) : zjP te tr σ H QA:=h
theorem zmQ {sp : Sp} {E : XK} (h : t σ H fun vs H1=>sp vs H1 Q E) : zgL sp [] E t σ H Q:=by
 simpa only [zgL,List.append_nil] using h
theorem zpt {u : List V -> Hp -> VK -> Prop} (h : t σ H fun vs H1=>u vs H1 Q) : tCB u t σ H Q:=h
theorem zmn (h : te σ H fun x H'=>∃ k,x = .bl k /\ QB k H') : zkF te σ H QB:=h
theorem zpp (h : te σ H fun x H'=>∃ k,x = .bl k /\ QB k H') : tB te σ H QB:=h
theorem zok (h : tt σ H fun c H1=>if c = true then tu σ H1 QB else QB false H1) : zpu tt tu σ H QB:=h
theorem zpa (h : tt σ H fun c H1=>if c = true then QB true H1 else tu σ H1 QB) : tOr tt tu σ H QB:=h
theorem znO (h : tt σ H fun c H1=>QB (!c) H1) : zpe tt σ H QB:=h
theorem zmJ (h : ta σ H fun x H1=>∃ c,x = .bl c /\ if c = true then tb σ H1 Q else Q (.bl false) H1) : znE ta tb σ H Q:=h
theorem zoO (h : ta σ H fun x H1=>∃ c,x = .bl c /\ if c = true then Q (.bl true) H1 else tb σ H1 Q) : zo3 ta tb σ H Q:=h
theorem zmA (h : ta σ H fun x H1=>∃ c,x = .bl c /\ Q (.bl (!c)) H1) : znx ta σ H Q:=h
theorem zoC (h : tt σ H fun c H1=>if c = true then ta σ H1 Q else tb σ H1 Q) : tIf tt ta tb σ H Q:=h
-- statements
theorem znJ (h : s1 { D with nx:=s2 D } σ H) : zox s1 s2 D σ H:=h
theorem zmi (h : D.nx σ H) : znn D σ H:=h
theorem znV (h : te σ H D.rt) : zpD te D σ H:=h
theorem znY (h : tt σ H fun b H1=>if b = true then s1 D σ H1 else s2 D σ H1) : zo1 tt s1 s2 D σ H:=h
theorem zoA (h : te σ H fun x H1=>g x σ H1 D.nx) : zk0 te g D σ H:=h
theorem zma (h : te σ H fun _ H1=>D.nx σ H1) : zng te D σ H:=h
theorem znZ {i j : Nat} (h : t σ H fun vs H1=>∃ v w,vs = [v,w] /\ D.nx ((σ.set i (some v)).set j (some w)) H1) : zoW i j t D σ H:=h
theorem zmN {i j : Nat} (q : QS ((σ.set i (some v)).set j (some w)) H) : ∃ v' w',[v,w] = [v',w'] /\ QS ((σ.set i (some v')).set j (some w')) H:=⟨v,w,rfl,q⟩
-- targets
theorem zlu (q : QS (σ.set i (some v)) H) : zgb i v σ H QS:=q
theorem zmp {tset : zm4} (h : ta σ H fun o H1=>tb σ H1 fun i H2=>tset o i v H2 fun H3=>QS σ H3) : zo0 ta tb tset v σ H QS:=h
theorem zmz {p : Addr} {k : Int} {j : Nat} (h : H p = some (.lst xs)) (e : ixN xs.length k = some j) (q : ∀ H',Exc p H H' -> H' p = some (.lst (xs.set j v)) -> QH H') : znr (.ref p) (.int k) v H QH :=
 ⟨p,xs,k,j,rfl,rfl,h,e,q _ (Exc.upd p H _) zas⟩
-- ints
theorem zog {f : Int -> Int -> V} (q : Q (f m n) H) : rI0 f (.int m) (.int n) H Q:=⟨m,n,rfl,rfl,q⟩
theorem zkA {C : Int -> Int -> Prop} {f : Int -> Int -> V} (c : C m n) (q : Q (f m n) H) : rI C f (.int m) (.int n) H Q:=⟨m,n,rfl,rfl,c,q⟩
theorem zpx {f : Int -> V} (q : Q (f m) H) : rU f (.int m) H Q:=⟨m,rfl,q⟩
theorem zmh (q : Q (.int (m + n)) H) : zm8 (.int m) (.int n) H Q:=.inl ⟨m,n,rfl,rfl,q⟩
theorem zob (q : Q (.int (if m < 0 then -m else m)) H) : zpl [.int m] H Q:=⟨m,rfl,q⟩
theorem zmS {p : Addr} (h : SqT K H p xs) (q : Q (.int xs.length) H) : zd3 K [.ref p] H Q:=⟨p,xs,rfl,.inr h,q⟩
theorem zeQ {p : Addr} (h : SqL K H p xs) (q : Q (.int xs.length) H) : zd3 K [.ref p] H Q:=⟨p,xs,rfl,.inl h,q⟩
theorem zl2 {b : Bool} (q : Q (.int (if b then 1 else 0)) H) : zpi [.bl b] H Q:=.inr ⟨b,rfl,q⟩
-- comparisons
theorem zoB (q : Q (.bl (decide (m = n))) H) : zgD K (.int m) (.int n) H Q :=
 ⟨.int m,.int n,zay.mpr rfl,zay.mpr rfl,rfl,rfl,by
   have e : PyData.eqv (.int m) (.int n) = decide (m = n):=by
     rw [PyData.eqv,Bool.beq_eq_decide_eq]
   rw [e]; exact q⟩
theorem zn3 (q : Q (.bl (!decide (m = n))) H) : zeA K (.int m) (.int n) H Q :=
 ⟨.int m,.int n,zay.mpr rfl,zay.mpr rfl,rfl,rfl,by
   have e : PyData.eqv (.int m) (.int n) = decide (m = n):=by
     rw [PyData.eqv,Bool.beq_eq_decide_eq]
   rw [e]; exact q⟩
theorem zoD {d e : PyData} (h : Is K H v d) (k : Is K H w e) (sd : PySem.SeqAt.shaped d = true) (se : PySem.SeqAt.shaped e = true) (q : Q (.bl (PyData.eqv d e)) H) : zgD K v w H Q:=⟨d,e,h,k,sd,se,q⟩
theorem zlh {d e : PyData} (h : Is K H v d) (k : Is K H w e) (sd : PySem.SeqAt.shaped d = true) (se : PySem.SeqAt.shaped e = true) (q : Q (.bl (!PyData.eqv d e)) H) : zeA K v w H Q:=⟨d,e,h,k,sd,se,q⟩
theorem ze6 {T : String} {d : PyData} (h : Is K H v d) (e : PySem.W.kitOne K (.type (kindOf d)) (.type T) = some (isA T d)) (q : Q (.bl (isA T d)) H) : zbY K [v,.ty T] H Q:=⟨v,T,d,_,rfl,h,e,q⟩
def zg7 : PyData -> Bool
 | .tuple _=>true
 | _=>false
def zi0 : PyData -> Bool
 | .int _=>true
 | .bool _=>true
 | _=>false
def zoK : PyData -> Bool
 | .bool _=>true
 | _=>false
def zkI : PyData -> Bool
 | .list _=>true
 | _=>false
def zjz : PyData -> Bool
 | .str _=>true
 | _=>false
theorem zj7 {d : PyData} : zg7 d = true ↔ ∃ ds,d = .tuple ds:=by cases d <;> simp [zg7]
theorem zkZ {d : PyData} (h : Is K H v d) (q : Q (.bl (zg7 d)) H) : zbY K [v,.ty "tuple"] H Q:=ze6 h (zkb d) (by have e : isA "tuple" d = zg7 d:=(by cases d <;> rfl); rw [e]; exact q)
theorem zlf {d : PyData} (h : Is K H v d) (q : Q (.bl (zi0 d)) H) : zbY K [v,.ty "int"] H Q:=ze6 h (zmZ d) (by have e : isA "int" d = zi0 d:=(by cases d <;> rfl); rw [e]; exact q)
theorem zlQ {d : PyData} (h : Is K H v d) (q : Q (.bl (zoK d)) H) : zbY K [v,.ty "bool"] H Q:=ze6 h (zlK d) (by have e : isA "bool" d = zoK d:=(by cases d <;> rfl); rw [e]; exact q)
theorem zlq {d : PyData} (h : Is K H v d) (q : Q (.bl (zkI d)) H) : zbY K [v,.ty "list"] H Q:=ze6 h (zkH d) (by have e : isA "list" d = zkI d:=(by cases d <;> rfl); rw [e]; exact q)
theorem zia {d : PyData} (h : Is K H v d) (q : Q (.bl (zjz d)) H) : zbY K [v,.ty "str"] H Q:=ze6 h (zmt d) (by have e : isA "str" d = zjz d:=(by cases d <;> rfl); rw [e]; exact q)
-- items
theorem zda {p : Addr} {m : Int} (h : SqT K H p xs) (e : atI xs m = some v) (q : Q v H) : rIx K (.ref p) (.int m) H Q:=.inr (.inl ⟨p,xs,m,v,rfl,rfl,h,e,q⟩)
theorem zfc {p : Addr} {m : Int} (h : SqL K H p xs) (e : atI xs m = some v) (q : Q v H) : rIx K (.ref p) (.int m) H Q:=.inl ⟨p,xs,m,v,rfl,rfl,h,e,q⟩
theorem znQ {α : Type} {xs : List α} {m : Int} (h0 : 0 <= m) (h1 : m < xs.length) : ∃ v,atI xs m = some v /\ v ∈ xs:=by
 obtain ⟨k,rfl⟩ : ∃ k : Nat,m = (k : Int):=⟨m.toNat,by lia⟩
 have l : k < xs.length:=by lia
 exact ⟨xs[k],zdV (by simp [l]),List.getElem_mem l⟩
theorem zfP {p : Addr} {m : Int} (P : V -> Prop) (h : SqL K H p xs) (h0 : 0 <= m) (h1 : m < xs.length) (hP : ∀ x ∈ xs,P x) (q : ∀ x,P x -> Q x H) : rIx K (.ref p) (.int m) H Q:=by
 obtain ⟨x,e,hx⟩:=znQ h0 h1
 exact zfc h e (q x (hP x hx))
theorem zm0 {r : Rat} (h : Is K H v (N r)) (q : Q (.int r.num) H) : rIx K v (.int 0) H Q:=by
 obtain ⟨a,rfl,h'⟩:=zoT.mp h
 exact zda h' rfl q
theorem zm3 {r : Rat} (h : Is K H v (N r)) (q : Q (.int (r.den : Int)) H) : rIx K v (.int 1) H Q:=by
 obtain ⟨a,rfl,h'⟩:=zoT.mp h
 exact zda h' rfl q
theorem za1 {ds : List PyData} {d : PyData} {j : Nat} (h : Is K H v (.tuple ds)) (e : ds[j]? = some d) (q : ∀ x,Is K H x d -> Q x H) : rIx K v (.int (j : Int)) H Q:=by
 obtain ⟨a,xs,rfl,h,t⟩:=zau.mp h
 obtain ⟨x,e1,hx⟩:=t.get e
 exact zda h (zdV e1) (q x hx)
theorem zfQ {ds : List PyData} (h : Is K H v (.tuple ds)) (q : Q (.int ds.length) H) : zd3 K [v] H Q:=by
 obtain ⟨a,xs,rfl,h,t⟩:=zau.mp h
 exact zmS h (by rw [t.length]; exact q)
theorem zit {α : Type} {l : List α} (h : l.length <= 1000) : l.length <= sizeLine:=Nat.le_of_lt (zd0 h)
theorem zlO (z : xs.length <= 1000) (q : ∀ p H',H p = none -> zah H H' -> H' p = some (.tup xs) -> Q (.ref p) H') : mkT K xs H Q:=⟨zit z,fun p hp=>q p _ hp (zah.upd hp) zas⟩
theorem zbq (z : xs.length <= 1000) (q : ∀ p H',H p = none -> zah H H' -> H' p = some (.lst xs) -> Q (.ref p) H') : mkL K xs H Q:=⟨zit z,fun p hp=>q p _ hp (zah.upd hp) zas⟩
theorem zdl {ds : List PyData} (z : xs.length <= 1000) (h : IsAll K H xs ds) (q : ∀ v H',zah H H' -> Is K H' v (.tuple ds) -> Q v H') : mkT K xs H Q :=
 zlO z fun p H' _ s e=>q _ H' s (zau.mpr ⟨p,xs,rfl,.of e,IsAll.same s ds xs h⟩)
theorem zmT {r : Rat} (e1 : m = r.num) (e2 : n = (r.den : Int)) (q : ∀ v H',zah H H' -> Is K H' v (N r) -> Q v H') : mkT K [.int m,.int n] H Q:=by
 subst e1 e2
 exact zlO (by show 2 <= 1000; decide) fun p H' _ s e=>q _ H' s (zoT.mpr ⟨p,rfl,.of e⟩)
-- tests
theorem zmD {p : Prop} [Decidable p] {A B : Prop} (h1 : p -> A) (h2 : ¬ p -> B) : if decide p = true then A else B:=by
 by_cases h : p
 . rw [decide_eq_true h,if_pos rfl]; exact h1 h
 . rw [decide_eq_false h,if_neg Bool.false_ne_true]; exact h2 h
theorem zkB {p : Prop} [Decidable p] {A B : Prop} (h1 : ¬ p -> A) (h2 : p -> B) : if (!decide p) = true then A else B:=by
 by_cases h : p
 . rw [decide_eq_true h]; exact zmM (h2 h)
 . rw [decide_eq_false h]; exact zl7 (h1 h)
theorem zl9 {b : Bool} {A B : Prop} (h1 : b = true -> A) (h2 : b = false -> B) : if b = true then A else B:=by
 cases b
 . exact zmM (h2 rfl)
 . exact zl7 (h1 rfl)
theorem zkw {b : Bool} {A B : Prop} (h1 : b = false -> A) (h2 : b = true -> B) : if (!b) = true then A else B:=by
 cases b
 . exact zl7 (h1 rfl)
 . exact zmM (h2 rfl)
end
section
variable {c : TT} {tb : TS} {D : zcJ} {σ : St} {H : Hp}
def ixI (σ : St) (i : Nat) : Int:=match σ[i]? with
 | some (some (.int y))=>y
 | _=>0
def zlE (Pv : St -> Hp -> Prop) (μ : St -> Nat) (tb : TS) (D : zcJ) (σ' : St) (H1 : Hp) : Prop :=
 ∃ M : St -> Hp -> Prop,(∀ σ2 H2,M σ2 H2 -> ∃ m',m' < μ σ' /\ (m' = μ σ2 /\ Pv σ2 H2)) /\ tb { D with nx:=M,ct:=M,bk:=D.nx } σ' H1
theorem zie (Pv : St -> Hp -> Prop) (μ : St -> Nat) (h0 : Pv σ H)
   (hs : ∀ σ' H',Pv σ' H' -> c σ' H' fun b H1=>if b = true then zlE Pv μ tb D σ' H1 else D.nx σ' H1) : zk9 c tb D σ H:=by
 refine ⟨fun m σ H=>m = μ σ /\ Pv σ H,⟨_,rfl,h0⟩,?_⟩
 rintro m σ H ⟨rfl,p⟩
 exact hs σ H p
theorem zjo {Pv : St -> Hp -> Prop} {μ : St -> Nat} {σ' : St} {H1 : Hp} (h : tb { D with nx:=fun σ2 H2=>μ σ2 < μ σ' /\ Pv σ2 H2,ct:=fun σ2 H2=>μ σ2 < μ σ' /\ Pv σ2 H2,bk:=D.nx } σ' H1) : zlE Pv μ tb D σ' H1 :=
 ⟨_,fun σ2 H2 q=>⟨_,q.1,rfl,q.2⟩,h⟩
def zo2 (g : TG) (tb : TS) (D : zcJ) (σ : St) (vs : List V) (H1 : Hp) : Prop:=∃ j : Int,vs = [.int j] /\ -(2 ^ 62) <= j /\ j < 2 ^ 62 /\
 ∃ W : Nat -> Nat -> St -> Hp -> Prop,(∃ m,W 0 m σ H1) /\ ∀ i m σ H,W i m σ H ->
   ((Itr 0 j.toNat).stop i H /\ D.nx σ H) \/ ((Itr 0 j.toNat).go i H /\ ∃ M : St -> Hp -> Prop,(∀ σ' H',M σ' H' -> ∃ m',m' < m /\ W (i + 1) m' σ' H') /\ ∀ x H',(Itr 0 j.toNat).yld i H x H' -> g x σ H' fun σ2 H2=>tb { D with nx:=M,ct:=M,bk:=D.nx } σ2 H2)
theorem zmg {ta : TA} {g : TG} (h : ta σ H fun vs H1=>zo2 g tb D σ vs H1) : zo9 (zk5 ta) g tb D σ H:=h
theorem zdS {g : TG} {n : Int} (h0 : -1000000000 <= n) (h1 : n < 1000000000) (Pv : Nat -> St -> Hp -> Prop) (p : Pv 0 σ H)
   (hs : ∀ (i : Nat) σ H,i < n.toNat -> Pv i σ H -> g (.int (i : Int)) σ H fun σ2 H2=>tb { D with nx:=Pv (i + 1),ct:=Pv (i + 1),bk:=D.nx } σ2 H2)
   (hd : ∀ σ H,Pv n.toNat σ H -> D.nx σ H) : zo2 g tb D σ [.int n] H:=by
 refine ⟨n,rfl,by lia,by lia,zjX (lo:=0) Pv p (fun i σ H hi q=>?_) hd⟩
 have e : (0 : Int) + (i : Int) = (i : Int):=by lia
 rw [e]
 exact hs i σ H hi q
end
section
variable {K : PySem.W.Frag} {te : TE} {g : TG} {tb : TS} {D : zcJ} {σ : St} {H : Hp} {a : Addr} {xs : List V}
end
theorem zoz {K : PySem.W.Frag} {H : Hp} {a : Addr} {xs : List V} (hO : zl4 H) (h : SqL K H a xs) : SqF K H a xs:=by
 rcases h with (h | ⟨o,h⟩) | h
 . rcases hO a with z | ⟨ob,ys,z⟩
   . rw [h] at z; cases z
   . rw [h] at z; cases z
 . exact .inl ⟨o,h⟩
 . exact .inr h
theorem znL {K : PySem.W.Frag} {H : Hp} {Q : VK} {a : Addr} {ns : List Int} {m : Int} (h : SqF K H a (ns.map V.int)) (h0 : 0 <= m) (h1 : m < ((ns.map V.int).length : Int)) (q : ∀ z,Q (.int z) H) : rIx K (.ref a) (.int m) H Q:=by
 refine zfP (fun v=>∃ z,v = .int z) h.sq h0 h1 (fun x hx=>?_) (fun x hx=>?_)
 . obtain ⟨z,_,rfl⟩:=List.mem_map.mp hx
   exact ⟨z,rfl⟩
 . obtain ⟨z,rfl⟩:=hx
   exact q z
section
variable {K : PySem.W.Frag} {H H' : Hp} {v : V} {d : PyData} {a : Addr} {xs : List V} {o : HO}
theorem Is.by (s : zah H H') (h : Is K H v d) : Is K H' v d:=Is.same s d v h
theorem Is.byN {r : Rat} (s : zaK H H') (h : Is K H v (N r)) : Is K H' v (N r):=Is.keep s _ v (zkD r) h
theorem Is.byK (s : zaK H H') (i : Imm d = true) (h : Is K H v d) : Is K H' v d:=Is.keep s _ v i h
end
end L2
set_option Elab.async false
set_option linter.all false
set_option maxRecDepth 100000
namespace L2
open PySem PySem.Spec PyProof.Rows GM
def za4 (X : Cx) (N' : List Str) (scope : Scope) (cl : List (Str × Addr)) (C : Addr) (s₀ : Shared) (H₀ : Hp) (fp : List Addr) (pins : List (Addr × Obj)) : Cx where
 prog:=X.prog
 w:=X.w
 K:=X.K
 mg:=X.mg
 base:=X.base
 A:=X.A
 N:=N'
 s₀:=s₀
 H₀:=H₀
 env:=compEnvC scope cl C X.env
 outer:=X.stack
 stack:=X.stack
 ex:=fp
 fn:=fun _=>false
 calm:=X.calm
 pn:=X.pn ++ pins
 xe:=fun _ _=>False
structure zlD (X : Cx) (scope : Scope) (cl : List (Str × Addr)) : Prop where
 clos : closureFor scope X.env = pure cl
 sub : ∀ x c,cl.lookup x = some c -> X.env.cells.lookup x = some c
 has : ∀ x,((relabel scope X.env).names.lookup x = some .cell \/ (relabel scope X.env).names.lookup x = some .free) -> ∃ c,cl.lookup x = some c
def zaH (src : List (Option Nat)) (σ : St) : St:=src.map fun o=>match o with
 | none=>none
 | some j=>(σ[j]?).join
def znD (X : Cx) (N' : List Str) (src : List (Option Nat)) : Prop :=
 N'.length = src.length /\ ∀ (i j : Nat) (x : Str),N'[i]? = some x -> src[i]? = some (some j) -> X.N[j]? = some x /\ X.env.scope.names.lookup x = some .cell
section
variable {X : Cx} {pins : List (Addr × Obj)} {σ : St} {H : Hp} {s : Shared} {N' : List Str} {scope : Scope} {cl : List (Str × Addr)} {src : List (Option Nat)} {fp : List Addr}
theorem Inv.block {h₁ : Heap} {tk : Nat} (I : Inv X pins σ H s) (hk : scope.kind = .function) (cok : zlD X scope cl) (sok : znD X N' src) (hf : ∀ b ∈ fp,zej X pins H b) (hlt : ∀ b ∈ fp,b < s.heap.objs.size)
   (hns : h₁.Ns s.heap.objs.size fun _=>none) (old : ∀ b o,s.heap.get? b = some o -> h₁.get? b = some o)
   (hvis : ∀ (i : Nat) x,N'[i]? = some x -> src[i]? ≠ some none -> (relabel scope X.env).names.lookup x = some .cell \/ (relabel scope X.env).names.lookup x = some .free) :
   Inv (za4 X N' scope cl s.heap.objs.size s H fp pins) [] (zaH src σ) H { s with heap:=h₁,toks:=tk }:=by
 have hfr : H s.heap.objs.size = none:=I.hok.fresh (Nat.le_refl _)
 have cne : ∀ x c,cl.lookup x = some c -> c < s.heap.objs.size:=fun x c e=>by
   obtain ⟨v,q⟩:=I.cell x c (cok.sub x c e)
   exact q.lt
 have fplt : ∀ b ∈ fp,b ∉ frs X.stack:=fun b hb z=>by
   obtain ⟨_,f1,f2,_⟩:=hf b hb
   exact (List.mem_cons.mp (I.stkSub b z)).elim f1 f2
 refine ⟨⟨I.ok.mod,?_,I.ok.glob,I.ok.blt,Nat.le_refl _,fun x y c h1 h2=>?_,fun x hx=>?_,fun x c hx=>?_,I.ok.hd,I.ok.frames,.inl rfl,fun b hb=>⟨?_,fun x c e=>?_⟩,I.bs,Nat.le_trans I.ok.bsz I.sz,fun b o e=>?_,fplt,I.stack,I.stkFree⟩,
   rfl,I.bare,Un.kept old,⟨_,hns,fun i x v h1 h2 h3=>?_⟩,fun x c e=>?_,hfr,fun x c e=>?_,fun p hp=>?_,I.hok.kept old,?_⟩
 . show (relabel scope X.env).kind = .function
   exact hk
 . exact I.ok.inj x y c (cok.sub x c h1) (cok.sub y c h2)
 . exact cok.has x hx
 . exact absurd (show false = true from hx) Bool.false_ne_true
 . exact Nat.ne_of_lt (hlt b hb)
 . exact (hf b hb).2.2.2.2.1 x c (cok.sub x c e)
 . intro hb
   obtain ⟨_,_,_,f3,_⟩:=hf b hb
   rcases f3 with z | z
   . exact I.ok.noex b o e z
   . exact absurd (Nat.lt_of_lt_of_le (Heap.lt_size e) (Nat.le_trans I.ok.bsz z)) (Nat.lt_irrefl _)
 . -- a name of the frame around
   have hsrc : ∃ j,src[i]? = some (some j) /\ σ[j]? = some (some v):=by
     unfold zaH at h2
     rw [List.getElem?_map] at h2
     cases q : src[i]? with
     | none=>rw [q] at h2; cases h2
     | some o =>
       rw [q] at h2
       cases o with
       | none=>cases h2
       | some j =>
         refine ⟨j,rfl,?_⟩
         have h2' : (σ[j]?).join = some v:=Option.some.inj h2
         cases q2 : σ[j]? with
         | none=>rw [q2] at h2'; cases h2'
         | some z=>rw [q2] at h2'; exact congrArg some h2'
   obtain ⟨j,hj,hv⟩:=hsrc
   obtain ⟨hN,hc⟩:=sok.2 i j x h1 hj
   obtain ⟨m,_,hl⟩:=I.loc
   obtain ⟨u,ru,lk⟩:=hl j x v hN hv (.inr (.inl hc))
   refine ⟨u,ru,.inr ⟨hvis i x h1 (by rw [hj]; intro z; cases z),?_⟩⟩
   rcases lk with ⟨k,_⟩ | ⟨_,c,ec,hcell⟩
   . have k' : X.env.scope.names.lookup x = some .local:=k
     rw [hc] at k'; cases k'
   . obtain ⟨c',ec'⟩:=cok.has x (hvis i x h1 (by rw [hj]; intro z; cases z))
     have:=cok.sub x c' ec'
     rw [ec] at this; cases this
     obtain ⟨o,ho,hd⟩:=hcell
     exact ⟨c,ec',o,old c o ho,hd⟩
 . obtain ⟨v,o,ho,hd⟩:=I.cell x c (cok.sub x c e)
   exact ⟨v,o,old c o ho,hd⟩
 . exact I.freeC x c (cok.sub x c e)
 . have hp' : p ∈ (X.pn ++ pins) ++ []:=hp
   rw [List.append_nil] at hp'
   obtain ⟨e,n,ne,nf,d⟩:=I.pin p hp'
   refine ⟨old _ _ e,n,Nat.ne_of_lt (Heap.lt_size e),fun z=>?_,d⟩
   exact (List.mem_cons.mp (I.stkSub p.1 z)).elim ne nf
 . show (zaH src σ).length = N'.length
   unfold zaH
   rw [List.length_map,sok.1]
end
def zkN : TT:=fun _ H Q=>Q true H
def PTs (X : Cx) (ifs : List Expr) (t : TT) : Prop :=
 ∀ (pins : List (Addr × Obj)) (s : Shared) (σ : St) (H : Hp) (Q : Bool -> Hp -> Prop),Inv X pins σ H s -> t σ H Q ->
   wpAny (model X.prog X.w) X.A (forIn ifs true fun c r=>if r = true then do let ok <- isTrue c X.env (eval c X.env); pure (ForInStep.yield ok) else pure (ForInStep.yield r)) (TP X pins σ Q) X.xe s
theorem zaL {X : Cx} : PTs X [] zkN:=fun _ _ _ H _ I h=>wpAny_tests_nil ⟨H,I,h⟩
section
variable {prog : Program} {w : World} {A : Around} {R : Result -> Shared -> Prop} {s : Shared}
theorem zhl {elt target iter : Expr} {ifs : List Expr} {scope : Scope} {pos : Pos} {it acc : Value} {env : Env} (I : Nat -> Shared -> Prop)
   (turn : ∀ n s,I n s -> wpAny (model prog w) A (pyNext it) (fun r s₁=>match r with
     | none=>R (.ok .next) s₁
     | some v=>wpAny (model prog w) A (letOwnedTupleGo target it v) (fun _ s₁'=>wpAny (model prog w) A (assign target env v) (fun _ s₂ =>
         wpAny (model prog w) A (forIn ifs true fun c r=>if r = true then do let ok <- isTrue c env (eval c env); pure (ForInStep.yield ok) else pure (ForInStep.yield r)) (fun ok s₃ =>
           if ok = true then wpAny (model prog w) A (eval elt env) (fun x s₄ =>
             wpAny (model prog w) A (call (.builtin "list.append") [acc,x]) (fun _ s₅=>∃ m,m < n /\ I m s₅) (fun _ _=>False) s₄) (fun _ _=>False) s₃
           else ∃ m,m < n /\ I m s₃) (fun _ _=>False) s₂) (fun _ _=>False) s₁') (fun _ _=>False) s₁) (fun _ _=>False) s)
   (n : Nat) (h : I n s) : codeAny (model prog w) A (.compLoop (.ListComp elt [⟨target,iter,ifs,0⟩] scope pos) 0 it acc env) R s:=by
 refine codeAny_loop rfl I (fun n s hI=>?_) n h
 show wpAny _ A ((compTurn (.ListComp elt [⟨target,iter,ifs,0⟩] scope pos) 0 it acc env).onRaise (fun x=>do noteFrame x env; theTreesLotGoes x)) _ _ s
 refine wpAny_noted ?_
 rw [compTurn_list]
 refine wpAny_bind (wpAny_standAt (wpAny_bind (wpAny_mono (turn n s hI) (fun r s₁ h₁=>?_) fun _ _ h'=>h'.elim)))
 cases r with
 | none=>exact wpAny_pure h₁
 | some v =>
   refine wpAny_bind (wpAny_mono h₁ (fun _ s₁' h₁'=>?_) fun _ _ h'=>h'.elim)
   refine wpAny_bind (wpAny_mono h₁' (fun _ s₂ h₂=>wpAny_bind (wpAny_mono h₂ (fun ok s₃ h₃=>?_) fun _ _ h'=>h'.elim)) fun _ _ h'=>h'.elim)
   cases ok with
   | false=>exact wpAny_pure ⟨rfl,h₃⟩
   | true=>exact wpAny_bind (wpAny_bind (wpAny_mono h₃ (fun x s₄ h₄=>wpAny_bind (wpAny_mono h₄ (fun _ s₅ h₅=>wpAny_pure (wpAny_pure ⟨rfl,h₅⟩)) fun _ _ h'=>h'.elim)) fun _ _ h'=>h'.elim))
end
def zem (g : TG) (tt : TT) (te : TE) (J : It) (D : Addr) (σ0 : St) (H0 : Hp) (Q : Hp -> Prop) : Prop :=
 ∃ W : Nat -> Nat -> St -> Hp -> Prop,(∃ m,W 0 m σ0 H0) /\ ∀ i m σ' H',W i m σ' H' ->
   (J.stop i H' /\ Q H') \/ (J.go i H' /\ ∃ M : St -> Hp -> Prop,(∀ σ2 H2,M σ2 H2 -> ∃ m',m' < m /\ W (i + 1) m' σ2 H2) /\
     ∀ x H2,J.yld i H' x H2 -> g x σ' H2 fun σ3 H3=>tt σ3 H3 fun ok H4=>if ok = true then te σ3 H4 fun y H5=>∃ ys,H5 D = some (.lst ys) /\ ys.length < sizeLine /\ M σ3 (upd H5 D (.lst (ys ++ [y]))) else M σ3 H4)
def zgM (src : List (Option Nat)) (wi : TI) (g : TG) (tt : TT) (te : TE) : TE:=fun σ H Q=>wi σ H fun J H1=>∀ D,H1 D = none -> zem g tt te J D (zaH src σ) (upd H1 D (.lst [])) (fun H'=>Q (.ref D) H')
structure znm (Y : Cx) (tg : Expr) (J : It) (fp : List Addr) (it : Addr) (tn : Nat -> Heap -> Prop) : Prop where
 item : ∀ (i : Nat) (pins : List (Addr × Obj)) (s : Shared) (σ : St) (H : Hp) (E : Value -> Shared -> Prop),Inv Y pins σ H s -> (∀ b ∈ fp,zej Y pins H b) -> tn i s.heap -> J.go i H ->
   wpAny (model Y.prog Y.w) Y.A (pyNext (.ref it)) (fun r s1=>∃ u,r = some u /\ wpAny (model Y.prog Y.w) Y.A (letOwnedTupleGo tg (.ref it) u) (fun _ s2=>∃ x H',Inv Y pins σ H' s2 /\ zaD x u /\ J.yld i H x H' /\ tn (i + 1) s2.heap /\ ∀ b ∈ fp,H' b = none) E s1) E s
 done : ∀ (i : Nat) (pins : List (Addr × Obj)) (s : Shared) (σ : St) (H : Hp) (E : Value -> Shared -> Prop),Inv Y pins σ H s -> (∀ b ∈ fp,zej Y pins H b) -> tn i s.heap -> J.stop i H ->
   wpAny (model Y.prog Y.w) Y.A (pyNext (.ref it)) (fun r s1=>r = none /\ Inv Y pins σ H s1) E s
theorem zh2.toC {P : Program} {w : World} {K : PySem.W.Frag} {tg : Expr} {J : It} {fp : List Addr} {it : Addr} {tn : Nat -> Heap -> Prop} (T : zh2 P w K tg J fp it tn) {Y : Cx} (h1 : Y.prog = P) (h2 : Y.w = w) (h3 : Y.K = K) (hc : Y.calm = true) : znm Y tg J fp it tn:=by
 subst h1 h2 h3
 exact ⟨T.item Y rfl rfl rfl hc,T.done Y rfl rfl rfl hc⟩
section
variable {X : Cx} {pins : List (Addr × Obj)} {σ : St} {H : Hp} {s : Shared} {N' : List Str} {scope : Scope} {cl : List (Str × Addr)} {src : List (Option Nat)} {elt tgt iter : Expr} {ifs : List Expr} {pos : Pos} {wi : TI} {g : TG} {tt : TT} {te : TE}
structure zaI (X : Cx) (N' : List Str) (scope : Scope) (cl : List (Str × Addr)) (src : List (Option Nat)) : Prop where
 kind : scope.kind = .function
 cell : ∀ y ∈ scope.names,y.2 ≠ .cell
 names : ∀ y ∈ scope.names,y.2 = .local -> scope.names.lookup y.1 = some .local
 clos : zlD X scope cl
 srco : znD X N' src
 vis : ∀ (i : Nat) x,N'[i]? = some x -> src[i]? ≠ some none -> (relabel scope X.env).names.lookup x = some .cell \/ (relabel scope X.env).names.lookup x = some .free
theorem zgJ {it : Addr} {fp : List Addr} {tn : Nat -> Heap -> Prop} {J : It} {RQ : Addr -> Hp -> Prop} {E : Value -> Shared -> Prop} {RR : Value -> Addr -> Result -> Shared -> Prop}
   (TC : ∀ C s₀ H₀,znm (za4 X N' scope cl C s₀ H₀ fp pins) tgt J fp it tn) (ok : zaI X N' scope cl src)
   (hg : ∀ C s₀ H₀ fp pins,PG (za4 X N' scope cl C s₀ H₀ fp pins) tgt g) (ht : ∀ C s₀ H₀ fp pins,PTs (za4 X N' scope cl C s₀ H₀ fp pins) ifs tt) (he : ∀ C s₀ H₀ fp pins,PE (za4 X N' scope cl C s₀ H₀ fp pins) elt te)
   (I : Inv X pins σ H s) (T : zh2 X.prog X.w X.K tgt J fp it tn) (st : tn 0 s.heap) (hf : ∀ b ∈ fp,zej X pins H b)
   (rd : ∀ D,H D = none -> zem g tt te J D (zaH src σ) (upd H D (.lst [])) (fun H'=>RQ D H'))
   (hRR : ∀ D C H' s' m,Inv X pins σ H' s' -> s'.heap.Ns C m -> zej X pins H' C -> RQ D H' -> RR (.ref D) C (.ok .next) s') :
   wpAny (model X.prog X.w) X.A (newList []) (fun acc s₃=>wpAny (model X.prog X.w) X.A (newFunctionEnv scope X.env.globals cl [] X.env.qual none .none (some X.env)) (fun cenv s₄ =>
     codeAny (model X.prog X.w) X.A (.compStart (.ListComp elt [⟨tgt,iter,ifs,0⟩] scope pos) 0 (.ref it) acc { cenv with scope:=relabel scope X.env }) (RR acc cenv.locals) s₄) E s₃) E s:=by
 -- the list
 refine wpAny_newObj_type ?_ (by show 0 <= sizeLine; exact Nat.zero_le _)
 have hD : H s.heap.objs.size = none:=I.hok.fresh (Nat.le_refl _)
 have I3 : Inv X pins σ (upd H s.heap.objs.size (.lst [])) { s with heap:=s.heap.push { cls:=.type "list",data:=.seq ([] : List Value).toArray } } :=
   I.lnew (ys:=[]) (its:=[]) (t':=s.toks) .nil (Nat.zero_le _)
 have old3 : ∀ b o,s.heap.get? b = some o -> (s.heap.push { cls:=.type "list",data:=.seq ([] : List Value).toArray }).get? b = some o:=fun b o e=>Heap.get?_push_of_some _ e
 have lt0 : ∀ b ∈ fp,b < s.heap.objs.size:=fun b hb=>by
   obtain ⟨o,e,_⟩:=T.obj 0 _ st b hb
   exact Heap.lt_size e
 have hf3 : ∀ b ∈ fp,zej X pins (upd H s.heap.objs.size (.lst [])) b:=fun b hb=>⟨by rw [za6 (Nat.ne_of_lt (lt0 b hb))]; exact (hf b hb).1,(hf b hb).2⟩
 have lt3 : ∀ b ∈ fp,b < (s.heap.push { cls:=.type "list",data:=.seq ([] : List Value).toArray }).objs.size:=fun b hb=>by
   rw [Heap.size_push]; exact Nat.lt_succ_of_lt (lt0 b hb)
 have st3 : tn 0 (s.heap.push { cls:=.type "list",data:=.seq ([] : List Value).toArray }):=T.keep _ _ _ st fun b _ o e=>old3 b o e
 obtain ⟨W,⟨m0,w0⟩,turn⟩:=rd _ hD
 generalize hs3 : ({ s with heap:=s.heap.push { cls:=.type "list",data:=.seq ([] : List Value).toArray } } : Shared) = s3 at I3 ⊢
 have hh3 : s3.heap = s.heap.push { cls:=.type "list",data:=.seq ([] : List Value).toArray }:=by rw [<- hs3]
 rw [<- hh3] at lt3 st3
 clear old3 hs3 hh3
 generalize hD' : s.heap.objs.size = D at *
 -- the block's dict
 refine wpAny_newFunctionEnv ok.cell (by intro y hy; cases hy) (fun h₁ hns₁ hsb₁=>?_) ok.kind
 have old : ∀ b o,s3.heap.get? b = some o -> h₁.get? b = some o:=fun b o e=>hsb₁.extBut b o (Nat.ne_of_lt (Heap.lt_size e)) (Heap.get?_push_of_some _ e)
 have hC : zej X pins (upd H D (.lst [])) s3.heap.objs.size:=I3.fpOk (Nat.le_refl _) (I3.hok.fresh (Nat.le_refl _))
 have IB : ∀ tk,Inv (za4 X N' scope cl s3.heap.objs.size s3 (upd H D (.lst [])) fp pins) [] (zaH src σ) (upd H D (.lst [])) { s3 with heap:=h₁,toks:=tk }:=fun tk =>
   I3.block ok.kind ok.clos ok.srco hf3 lt3 hns₁ old ok.vis
 have stB : tn 0 h₁:=T.keep _ _ _ st3 fun b _ o e=>old b o e
 -- what is true of the iterator's records within
 have stat : ∀ {H' : Hp} ,(∀ b ∈ fp,H' b = none) -> ∀ b ∈ fp,zej (za4 X N' scope cl s3.heap.objs.size s3 (upd H D (.lst [])) fp pins) [] H' b:=fun hn b hb=>by
   obtain ⟨_,f1,f2,f3,f4,f5⟩:=hf3 b hb
   refine ⟨hn b hb,Nat.ne_of_lt (lt3 b hb),fun z=>(List.mem_cons.mp (I3.stkSub b z)).elim f1 f2,.inl hb,fun x c e=>f4 x c (ok.clos.sub x c e),fun p hp=>?_⟩
   have hp' : p ∈ (X.pn ++ pins) ++ []:=hp
   rw [List.append_nil] at hp'
   exact f5 p hp'
 -- from within back to the frame around
 have back : ∀ {σ' : St} {H' : Hp} {s' : Shared},Inv (za4 X N' scope cl s3.heap.objs.size s3 (upd H D (.lst [])) fp pins) [] σ' H' s' -> Inv X pins σ H' s' /\ (∃ m,s'.heap.Ns s3.heap.objs.size m) /\ zej X pins H' s3.heap.objs.size:=fun {σ' H' s'} J=>by
   obtain ⟨m,hn,_⟩:=J.loc
   refine ⟨I3.call' (ch:=fp) J.os J.base J.hok J.bare (fun b hb=>?_),⟨m,hn⟩,⟨J.free,hC.2⟩⟩
   obtain ⟨_,f1,_,f3,f4,f5⟩:=hf3 b hb
   exact ⟨f3,f1,f4,f5⟩
 have loop : ∀ tk,codeAny (model X.prog X.w) X.A (.compLoop (.ListComp elt [⟨tgt,iter,ifs,0⟩] scope pos) 0 (.ref it) (.ref D) (compEnvC scope cl s3.heap.objs.size X.env)) (RR (.ref D) s3.heap.objs.size) { s3 with heap:=h₁,toks:=tk }:=by
   intro tk
   refine zhl (fun n s'=>∃ i σ' H',Inv (za4 X N' scope cl s3.heap.objs.size s3 (upd H D (.lst [])) fp pins) [] σ' H' s' /\ tn i s'.heap /\ (∀ b ∈ fp,H' b = none) /\ W i n σ' H') ?_ m0
     ⟨0,_,_,IB tk,stB,fun b hb=>(hf3 b hb).1,w0⟩
   rintro n s4 ⟨i,σ4,H4,I4,st4,fr4,w4⟩
   rcases turn i n σ4 H4 w4 with ⟨stop,q⟩ | ⟨go,M,hM,step⟩
   . refine thn ((TC _ _ _).done i [] s4 σ4 H4 (fun _ _=>False) I4 (stat fr4) st4 stop) fun r s5 ⟨hr,I5⟩=>?_
     subst hr
     obtain ⟨J,⟨m,hn⟩,hCf⟩:=back I5
     exact hRR D _ H4 s5 m J hn hCf q
   . refine thn ((TC _ _ _).item i [] s4 σ4 H4 (fun _ _=>False) I4 (stat fr4) st4 go) fun r s5 ⟨u,hr,h5⟩=>?_
     subst hr
     refine thn h5 fun _ s6 ⟨x,H6,I6,r6,y6,st6,fr6⟩=>?_
     have I6':=I6.pinned (stat fr6) (T.obj _ _ st6)
     have again : ∀ {σ7 : St} {H7 : Hp} {s7 : Shared},Inv (za4 X N' scope cl s3.heap.objs.size s3 (upd H D (.lst [])) fp pins) ([] ++ zf5 fp s6.heap) σ7 H7 s7 -> M σ7 H7 ->
         ∃ m,m < n /\ ∃ i σ' H',Inv (za4 X N' scope cl s3.heap.objs.size s3 (upd H D (.lst [])) fp pins) [] σ' H' s7 /\ tn i s7.heap /\ (∀ b ∈ fp,H' b = none) /\ W i m σ' H':=fun {σ7 H7 s7} I7 n7=>by
       obtain ⟨m',hm,w7⟩:=hM σ7 H7 n7
       refine ⟨m',hm,i + 1,σ7,H7,I7.unpinned,T.keep _ _ _ st6 fun b hb o e=>(I7.pin (b,o) (List.mem_append_right _ (List.mem_append_right _ (zdk hb e)))).1,fun b hb=>?_,w7⟩
       obtain ⟨o,e,d⟩:=T.obj _ _ st6 b hb
       exact (I7.pin (b,o) (List.mem_append_right _ (List.mem_append_right _ (zdk hb e)))).2.1
     refine thn (hg _ _ _ _ _ _ s6 σ4 H6 x u _ I6' r6 (step x H6 y6)) fun _ s7 ⟨σ7,H7,I7,q7⟩=>?_
     refine thn (ht _ _ _ _ _ _ s7 σ7 H7 _ I7 q7) fun k s8 ⟨H8,I8,q8⟩=>?_
     cases k with
     | false=>exact again I8 q8
     | true =>
       rw [if_pos rfl] at q8 ⊢
       refine thn (he _ _ _ _ _ _ s8 σ7 H8 _ I8 q8) fun y s9 ⟨yv,H9,I9,r9,ys,hys,hz,q9⟩=>?_
       exact thn (zdR _ s9 σ7 H9 (.ref D) [yv] (.ref D) [y] (fun _ H'=>M σ7 H') I9 rfl (.cons r9 .nil) ⟨D,ys,yv,rfl,rfl,hys,hz,q9⟩) fun _ s10 ⟨_,H10,I10,_,q10⟩=>again I10 q10
 exact codeAny_compStart_list (loop _) (T.self _ _ _ _ _ stB (loop _))
theorem zaR (hc : X.calm = true) (ok : zaI X N' scope cl src) (hi : PI X tgt iter wi)
   (hg : ∀ C s₀ H₀ fp pins,PG (za4 X N' scope cl C s₀ H₀ fp pins) tgt g) (ht : ∀ C s₀ H₀ fp pins,PTs (za4 X N' scope cl C s₀ H₀ fp pins) ifs tt) (he : ∀ C s₀ H₀ fp pins,PE (za4 X N' scope cl C s₀ H₀ fp pins) elt te)
   (hs : ∀ x,foldedSetIterable iter X.env x = pure x:=by intro _; rfl) : PE X (.ListComp elt [⟨tgt,iter,ifs,0⟩] scope pos) (zgM src wi g tt te):=by
 intro pins s σ H Q I h
 rw [eval_ListComp]
 refine wpAny_comprehension_free (use:=none) rfl hs ok.clos.clos ok.kind ok.names (thn (hi pins s σ H _ I h) fun v s1 h1=>thn h1 fun itv s2 h2=>?_)
 obtain ⟨it,fp,tn,J,H2,e,I2,T,st2,f2,rd⟩:=h2
 subst e
 refine zgJ (RQ:=fun D H'=>Q (.ref D) H') (RR:=fun acc C=>compPost (model X.prog X.w) X.A X.xe none (EP X pins σ Q) acc C) (fun _ _ _=>T.toC rfl rfl rfl hc) ok hg ht he I2 T st2 f2 rd ?_
 intro D C H' s' m J hn hC q
 obtain ⟨c0,c1,_,c3,c4,c5⟩:=hC
 exact ⟨m,hn,fun h' sb=>⟨.ref D,H',J.turned (t':=s'.toks) (fun b o hb e=>(sb.2 b hb).trans e) c0 c1 c3 c4 c5,rfl,q⟩⟩
theorem zi4 {i : Nat} {y : Str} {py spos : Pos} (hN : X.N.Nodup) (hy : X.N[i]? = some y) (hly : Loc X.env.scope y) (hc : X.calm = true) (ok : zaI X N' scope cl src) (hi : PI X tgt iter wi)
   (hg : ∀ C s₀ H₀ fp pins,PG (za4 X N' scope cl C s₀ H₀ fp pins) tgt g) (ht : ∀ C s₀ H₀ fp pins,PTs (za4 X N' scope cl C s₀ H₀ fp pins) ifs tt) (he : ∀ C s₀ H₀ fp pins,PE (za4 X N' scope cl C s₀ H₀ fp pins) elt te)
   (hsw : swapsWith (.ListComp elt [⟨tgt,iter,ifs,0⟩] scope pos) (some (.Name y py)) spos.line X.env = pure true:=by rfl)
   (hs : ∀ x,foldedSetIterable iter X.env x = pure x:=by intro _; rfl) (hf : X.fn y = true \/ X.env.scope.names.lookup y = some .local:=by first | exact .inl rfl | exact .inr rfl | assumption) :
   PS X (.Assign [.Name y py] (.ListComp elt [⟨tgt,iter,ifs,0⟩] scope pos) spos) (zk0 (zgM src wi g tt te) (zgb i)):=by
 intro pins s σ H D0 I h
 rw [exec_Assign_Name_used _ _ _ _ hsw]
 refine wpAny_bind (wpAny_standAt (wpAny_bind ?_))
 show wpAny _ X.A (do let _ <- comprehension (.ListComp elt [⟨tgt,iter,ifs,0⟩] scope pos) scope X.env _ (newList []) false (eval iter X.env) (some (assign (.Name y py) X.env))) _ _ s
 refine wpAny_bind (wpAny_mono (wpAny_comprehension_free (Q:=fun _ s'=>SP X pins D0 .next s') rfl hs ok.clos.clos ok.kind ok.names (thn (hi pins s σ H _ I h) fun v s1 h1=>thn h1 fun itv s2 h2=>?_))
   (fun _ s' hq=>wpAny_pure (wpAny_pure hq)) fun _ _ e=>e)
 obtain ⟨it,fp,tn,J,H2,e,I2,T,st2,f2,rd⟩:=h2
 subst e
 refine zgJ (RQ:=fun D H'=>zgb i (.ref D) σ H' D0.nx) (RR:=fun acc C=>compPost (model X.prog X.w) X.A X.xe (some (assign (.Name y py) X.env)) (fun _ s'=>SP X pins D0 .next s') acc C) (fun _ _ _=>T.toC rfl rfl rfl hc) ok hg ht he I2 T st2 f2 rd ?_
 intro D C H' s' m J hn hC q
 obtain ⟨c0,c1,_,c3,c4,c5⟩:=hC
 show wpAny _ _ (assign (.Name y py) X.env (.ref D)) _ _ s'
 refine wpAny_assign_Name (zha J hN hy hly (v:=.ref D) rfl (fun s'' J2 ⟨a,sb,ha⟩=>?_) hf)
 have hCa : C ≠ a:=by
   rcases ha with z | z
   . rw [z]; exact c1
   . exact (c4 y a z).symm
 exact ⟨m,hn.sameBut sb hCa,fun h' sb'=>⟨_,H',J2.turned (t':=s''.toks) (fun b o hb e=>(sb'.2 b hb).trans e) c0 c1 c3 c4 c5,q⟩⟩
end
end L2
set_option Elab.async false
set_option linter.all false
set_option maxRecDepth 100000
namespace L2
open PySem PySem.Spec PyProof.Rows GM
abbrev Tr0 (h B : Heap) (e : Addr) (cls : Value) : Prop :=
 ∃ oe vs,h.get? e = some oe /\ oe.cls = cls /\ oe.data = .fields vs /\ vs[1]? = some .none /\ vs[2]? = some .none /\ oe.dict = none /\ B.get? e = none
abbrev Tr1 (h B : Heap) (e : Addr) (cls fl : Value) : Prop :=
 ∃ oe vs T oT ts,h.get? e = some oe /\ oe.cls = cls /\ oe.data = .fields vs /\ vs[1]? = some (.ref T) /\ vs[2]? = some .none /\ oe.dict = none /\ B.get? e = none /\ B.get? T = none /\ T ≠ e /\ h.get? T = some oT /\ oT.data = .fields ts /\ ts[3]? = some fl
structure Fly (B : Heap) (l : List Env) (e : Addr) (cls fl : Value) (h : Heap) : Prop where
 st : B.StaysIn h
 fr : h.FunFrames B l
 tr : Tr1 h B e cls fl
theorem zii {f : Array Value -> Array Value} (o : Obj) : (Obj.mapFields f o).dict = o.dict:=by
 obtain ⟨c,d,dt,sl⟩:=o
 cases dt <;> rfl
theorem zcg {h : Heap} {T : Addr} {f : Obj -> Obj} {b : Addr} (n : b ≠ T) : (h.update T f).get? b = h.get? b:=Heap.get?_update_other _ _ (Ne.symm n)
theorem zdO {h : Heap} {T b : Addr} {oT o : Obj} {ts : Array Value} (hT : h.get? T = some oT) (dT : oT.data = .fields ts) (hb : h.get? b = some o) (hn : ∀ vs,o.data ≠ .fields vs) : b ≠ T:=by
 rintro rfl
 rw [hT] at hb
 cases hb
 exact hn _ dT
theorem zjd {B : Heap} {T b : Addr} {o : Obj} (n : B.get? T = none) (q : B.get? b = some o) : b ≠ T:=by
 rintro rfl
 rw [n] at q
 cases q
section
variable {M : Model} {A : Around} {E : Value -> Shared -> Prop} {s : Shared} {B : Heap} {l outer : List Env} {env : Env} {L e : Addr} {cls fl : Value} {Q : Unit -> Shared -> Prop}
theorem Fly.land (F : Fly B l e cls fl s.heap) (k : ∀ h',Fly B l e cls .none h' -> s.heap.UpToSlots h' -> Q () { s with heap:=h' }) : wpAny M A (setFlight (.ref e) none) Q E s:=by
 obtain ⟨st,fr,oe,vs,T,oT,ts,he,hc,hd,h1,h2,hdi,be,bT,ne,hT,dT,h3⟩:=F
 have sz : 3 < ts.size:=(Array.getElem?_eq_some_iff.mp h3).1
 unfold setFlight
 refine wpAny_bind (wpAny_field he hd h1 ?_)
 rw [if_pos (by simp)]
 have at3 : ∀ b,b ≠ T -> (s.heap.update T (Obj.mapFields (·.setIfInBounds 3 Value.none))).get? b = s.heap.get? b:=fun b n=>zcg n
 have tr : Tr1 (s.heap.update T (Obj.mapFields (·.setIfInBounds 3 Value.none))) B e cls .none :=
   ⟨oe,vs,T,Obj.mapFields (·.setIfInBounds 3 Value.none) oT,ts.setIfInBounds 3 Value.none,(at3 e ne.symm).trans he,hc,hd,h1,h2,hdi,be,bT,ne,
     Heap.get?_update_self _ hT (Obj.isFreed_of_fields (Obj.data_mapFields dT _)),Obj.data_mapFields dT _,by simp [sz]⟩
 refine wpAny_setField hT dT sz (k _ ⟨fun b o q=>(at3 b (zjd bT q)).trans (st b o q),fr.of_keeps fun b o hb hn=>⟨o,(at3 b (zdO hT dT hb hn)).trans hb,rfl⟩,tr⟩ fun b o hb hn=>⟨o.slots,(at3 b (zdO hT dT hb hn)).trans hb⟩)
theorem zg2 {oe : Obj} {vs : Array Value} {head : Value} {had : Bool} (hfr : A.frames = some (env :: outer)) (hf : env.frame = some L) (st : B.StaysIn s.heap) (fr : s.heap.FunFrames B (env :: outer)) (he : s.heap.get? e = some oe)
   (hd : oe.data = .fields vs) (sz : 1 < vs.size) (h2 : vs[2]? = some .none) (hdi : oe.dict = none) (be : B.get? e = none) (k : ∀ h',Fly B (env :: outer) e oe.cls (rawInt L) h' -> s.heap.UpToSlots h' -> Q () { s with heap:=h' }) :
   wpAny M A (do let a <- frameOf env; let pl <- entryPlaceOf L had; let b <- EntryCells.newEntry head a .none (rawInt L) .none pl; setField (.ref e) 1 b) Q E s:=by
 have nfr : e ∉ (env :: outer).filterMap (·.frame):=fun z=>by
   obtain ⟨_,o,ho,hnf⟩:=fr.mem z
   rw [he] at ho
   cases ho
   exact hnf vs hd
 refine wpAny_bind (wpAny_frameOf_fun hfr fr hf fun g sg=>wpAny_bind (wpAny_entryPlaceOf fun pl hpl=>?_))
 unfold EntryCells.newEntry newFields
 refine wpAny_bind (wpAny_newObj_type ?_ (hpl.sizeOk5 _ _ _ _ _))
 have eg : g.get? e = some oe:=(sg.2.1 e nfr).trans he
 have stg : B.StaysIn g:=fun b o q=>by
   rw [sg.2.1 b fun z=>?_]
   . exact st b o q
   . rw [(fr.mem z).1] at q; cases q
 generalize hob : ({ cls:=.type "traceback",data:=.fields ([head,.ref L,.none,rawInt L,.none] ++ (if pl.isEmpty then List.replicate 6 Value.none else pl)).toArray } : Obj) = tb
 have dtb : tb.data = .fields ([head,.ref L,.none,rawInt L,.none] ++ (if pl.isEmpty then List.replicate 6 Value.none else pl)).toArray:=by rw [<- hob]
 have ftb : tb.isFreed = false:=Obj.isFreed_of_fields dtb
 have e2:=Heap.get?_push_of_some (h:=g) tb eg
 have neT : g.objs.size ≠ e:=Nat.ne_of_gt (Heap.lt_size eg)
 have at3 : ∀ b o,b ≠ e -> g.get? b = some o -> ((g.push tb).update e (Obj.mapFields (·.setIfInBounds 1 (.ref g.objs.size)))).get? b = some o:=fun b o n q=>by
   rw [zcg n]
   exact Heap.get?_push_of_some _ q
 refine wpAny_setField e2 hd sz (k _ ?_ ?_)
 . have d3:=Obj.data_mapFields hd (·.setIfInBounds 1 (Value.ref g.objs.size))
   refine ⟨fun b o q=>at3 b o (zjd be q) (stg b o q),fr.of_keeps fun b o hb hn=>?_,_,_,g.objs.size,tb,_,Heap.get?_update_self _ e2 (Obj.isFreed_of_fields d3),Obj.cls_mapFields _ _,d3,by simp [sz],?_,?_,be,stg.fresh,neT,?_,dtb,?_⟩
   . obtain ⟨sl,q⟩:=sg.2.2 b o hb
     exact ⟨_,at3 b _ (zdO he hd hb hn) q,rfl⟩
   . rw [Array.getElem?_setIfInBounds_ne (by decide)]; exact h2
   . exact (zii oe).trans hdi
   . rw [zcg neT]; exact Heap.get?_push_size _ ftb
   . first | (simp; done) | (rcases hpl with rfl | ⟨_,_,_,_,_,_,_,rfl⟩ <;> simp)
 . exact fun b o hb hn=>by
     obtain ⟨sl,q⟩:=sg.2.2 b o hb
     exact ⟨sl,at3 b _ (zdO he hd hb hn) q⟩
theorem zj5 (hfr : A.frames = some (env :: outer)) (hf : env.frame = some L) (st : B.StaysIn s.heap) (fr : s.heap.FunFrames B (env :: outer)) (t : Tr0 s.heap B e cls)
   (k : ∀ h',Fly B (env :: outer) e cls (rawInt L) h' -> s.heap.UpToSlots h' -> Q () { s with heap:=h' }) : wpAny M A (noteFrame (.ref e) env) Q E s:=by
 obtain ⟨oe,vs,he,hc,hd,h1,h2,hdi,be⟩:=t
 subst hc
 unfold noteFrame
 simp only [hf]
 refine wpAny_bind (wpAny_field he hd h1 ?_)
 rw [if_neg (by decide)]
 exact zg2 hfr hf st fr he hd (Array.getElem?_eq_some_iff.mp h1).1 h2 hdi be k
theorem Fly.note (F : Fly B (env :: outer) e cls .none s.heap) (hfr : A.frames = some (env :: outer)) (hf : env.frame = some L)
   (k : ∀ h',Fly B (env :: outer) e cls (rawInt L) h' -> s.heap.UpToSlots h' -> Q () { s with heap:=h' }) : wpAny M A (noteFrame (.ref e) env) Q E s:=by
 obtain ⟨st,fr,oe,vs,T,oT,ts,he,hc,hd,h1,h2,hdi,be,bT,ne,hT,dT,h3⟩:=F
 subst hc
 unfold noteFrame
 simp only [hf]
 refine wpAny_bind (wpAny_field he hd h1 ?_)
 rw [if_pos (by simp)]
 refine wpAny_bind (wpAny_field hT dT h3 ?_)
 rw [if_neg (by simp [rawInt])]
 refine wpAny_bind (wpAny_setField hT dT (Array.getElem?_eq_some_iff.mp h3).1 ?_)
 refine zg2 hfr hf (fun b o q=>?_) (fr.of_keeps fun b o hb hn=>⟨o,?_,rfl⟩) ?_ hd (Array.getElem?_eq_some_iff.mp h1).1 h2 hdi be fun h' F' sm=>k h' F' fun b o hb hn=>sm b o ?_ hn
 . show (Heap.update _ _ _).get? b = _
   rw [zcg (zjd bT q)]; exact st b o q
 . show (Heap.update _ _ _).get? b = _
   rw [zcg (zdO hT dT hb hn)]; exact hb
 . show (Heap.update _ _ _).get? e = _
   rw [zcg ne.symm]; exact he
 . show (Heap.update _ _ _).get? b = _
   rw [zcg (zdO hT dT hb hn)]; exact hb
theorem ziT (hfr : A.frames = some (env :: outer)) (hf : env.frame = some L) (st : B.StaysIn s.heap) (fr : s.heap.FunFrames B (env :: outer)) (t : Tr0 s.heap B e cls)
   (k : ∀ h',Fly B outer e cls .none h' -> s.heap.UpToSlots h' -> Q () { s with heap:=h' }) : wpAny M A (leaving env (.ref e)) Q E s:=by
 unfold leaving
 refine wpAny_bind (zj5 hfr hf st fr t fun h1 F1 s1=>Fly.land F1 fun h2 F2 s2=>k h2 ⟨F2.st,F2.fr.2.2,F2.tr⟩ (s1.trans s2))
theorem Fly.leave (F : Fly B (env :: outer) e cls .none s.heap) (hfr : A.frames = some (env :: outer)) (hf : env.frame = some L)
   (k : ∀ h',Fly B outer e cls .none h' -> s.heap.UpToSlots h' -> Q () { s with heap:=h' }) : wpAny M A (leaving env (.ref e)) Q E s:=by
 unfold leaving
 refine wpAny_bind (F.note hfr hf fun h1 F1 s1=>Fly.land F1 fun h2 F2 s2=>k h2 ⟨F2.st,F2.fr.2.2,F2.tr⟩ (s1.trans s2))
end
theorem zbE.there {P : Program} {w : World} {H : Hp} {h : Heap} {a : Addr} {o : HO} (x : zbE P w H h a o) : ∃ u,h.get? a = some u:=by
 cases o with
 | lst xs=>obtain ⟨_,_,_,_,e⟩:=x; exact ⟨_,e⟩
 | tup xs=>obtain ⟨_,_,_,_,e,_⟩:=x; exact ⟨_,e⟩
 | dK kvs=>obtain ⟨_,_,_,_,o,_,_,e,_⟩:=x; exact ⟨_,e⟩
 | dT kvs=>obtain ⟨_,_,_,_,o,_,_,e,_⟩:=x; exact ⟨_,e⟩
 | set S n=>obtain ⟨o,_,_,_,e,_⟩:=x; exact ⟨_,e⟩
 | ins C dx fs=>obtain ⟨_,_,_,e,_⟩:=x; exact ⟨_,e⟩
 | own y=>exact x
 | xd fs=>obtain ⟨_,⟨_,_,_,e,_⟩,_⟩:=x; exact ⟨_,e⟩
 | rng lo hi=>obtain ⟨_,_,_,e⟩:=x; exact ⟨_,e⟩
 | frz ob u=>obtain ⟨e,_⟩:=x; exact ⟨_,e⟩
 | tbl ps=>exact ⟨_,x⟩
 | met f y=>exact ⟨_,x⟩
 | ext φ=>obtain ⟨_,e,_⟩:=x; exact e
structure zpr (B : Heap) (fs : List Addr) (H H' : Hp) (h : Heap) : Prop where
 trk : ∀ a o,H' a = some o -> ∃ u,B.get? a = some u
 old : ∀ b o,h.get? b = some o -> H b = none -> b ∉ fs -> B.get? b = some o
 thr : ∀ b o,h.get? b = some o -> b ∉ fs -> ∃ u,B.get? b = some u
def CX1 (P : Program) (w : World) : CXT:=fun outer H s E e s'=>∃ (ex : Addr) (C : Value) (H' : Hp) (B : Heap),e = .ref ex /\ s'.os = s.os /\ AllBare s'.gens /\ Un (frs outer) [] H H' s.heap s'.heap /\ HOk P w H' s'.heap /\
 Fly B outer ex C .none s'.heap /\ zpr B (frs outer) H H' s.heap /\ E C none H'
section
variable {B h h1 h' : Heap} {fs : List Addr} {H H' : Hp} {P : Program} {w : World}
end
section
variable {X : Cx} {pins : List (Addr × Obj)} {σ : St} {H H' : Hp} {s s' : Shared} {B : Heap} {ex : Addr} {C : Value} {E : XK} {E' : Value -> Shared -> Prop}
theorem zfx (I : Inv X pins σ H s) (hx : X.ex = []) (os : s'.os = s.os) (bare : AllBare s'.gens) (un : Un (frs X.stack) [] H H' s.heap s'.heap) (hok : HOk X.prog X.w H' s'.heap) (stB : B.StaysIn s'.heap) (ov : zpr B (frs X.stack) H H' s.heap)
   (q : E C none H') (fly : ∀ (Q : Unit -> Shared -> Prop),(∀ h',Fly B X.outer ex C .none h' -> s'.heap.UpToSlots h' -> Q () { s' with heap:=h' }) -> wpAny (model X.prog X.w) X.A (leaving X.env (.ref ex)) Q E' s') :
   wpAny (model X.prog X.w) X.A (leaving X.env (.ref ex)) (fun _ s''=>CX1 X.prog X.w X.outer X.H₀ X.s₀ E (.ref ex) s'') E' s':=by
 have base : Un X.fs [] X.H₀ H X.s₀.heap s.heap:=by have:=I.base; rwa [hx] at this
 have nL : ∀ b o,X.s₀.heap.get? b = some o -> b ∉ X.fs -> b ∉ frs X.stack:=fun b o e n z=>by
   rcases List.mem_cons.mp (I.stkSub b z) with r | r
   . exact Nat.ne_of_lt (Nat.lt_of_lt_of_le (Heap.lt_size e) I.ok.above) r
   . exact n r
 have old : ∀ b o,X.s₀.heap.get? b = some o -> X.H₀ b = none -> b ∉ X.fs -> B.get? b = some o:=fun b o e n nf =>
   ov.old b o (base.keep b o e n nf (by simp)) (base.free b o e n (by simp)) (nL b o e nf)
 have thr : ∀ b o,X.s₀.heap.get? b = some o -> b ∉ X.fs -> ∃ u,B.get? b = some u:=fun b o e nf=>by
   obtain ⟨o',e1⟩:=base.there b o e (by simp)
   exact ov.thr b o' e1 (nL b o e nf)
 refine fly _ fun h' F sm=>⟨ex,C,H',B,rfl,os.trans I.os,bare,⟨fun b o e n nf _=>F.st b o (old b o e n nf),fun b o e n hb _=>?_,fun b o e n _=>?_,fun b o e _=>?_,fun b xs e=>un.tups b xs (base.tups b xs e),
   fun b o u e=>un.frzs b o u (base.frzs b o u e),fun b ps e=>?_⟩,fun a o e=>?_,F,⟨ov.trk,old,thr⟩,q⟩
 . obtain ⟨sl,e1⟩:=base.slot b o e n hb (by simp)
   obtain ⟨sl',e2⟩:=un.any e1 (base.free b o e n (by simp)) (by simp)
   obtain ⟨_,o',ho',nr⟩:=I.ok.funs.mem hb
   rw [e] at ho'
   cases ho'
   obtain ⟨sl2,e3⟩:=sm b _ e2 nr
   exact ⟨sl2,e3⟩
 . obtain ⟨o',e1⟩:=base.there b o e (by simp)
   exact un.free b o' e1 (base.free b o e n (by simp)) (by simp)
 . by_cases hb : b ∈ X.fs
   . obtain ⟨_,o',ho',nr⟩:=I.ok.funs.mem hb
     rw [e] at ho'
     cases ho'
     have n : X.H₀ b = none:=I.ok.frf b hb
     obtain ⟨sl,e1⟩:=base.slot b o e n hb (by simp)
     obtain ⟨sl',e2⟩:=un.any e1 (base.free b o e n (by simp)) (by simp)
     obtain ⟨sl2,e3⟩:=sm b _ e2 nr
     exact ⟨_,e3⟩
   . obtain ⟨u,e1⟩:=thr b o e hb
     exact ⟨u,F.st b u e1⟩
 . obtain ⟨m1,e1⟩:=base.tbls b ps e
   obtain ⟨m2,e2⟩:=un.tbls b _ e1
   exact ⟨m1 ++ m2,by rw [e2,Array.append_assoc]⟩
 . refine (hok a o e).stay (fun b u hb r=>?_) (fun _ z=>z) fun _ _ z=>z
   have : ∃ v,B.get? b = some v:=by
     rcases hb with rfl | hb
     . exact ov.trk _ _ e
     . exact ov.trk _ _ hb
   obtain ⟨v,ev⟩:=this
   have e2:=stB b v ev
   rw [r] at e2
   cases e2
   exact F.st b u ev
theorem zj2 {e : Value} (I : Inv X pins σ H s) (hx : X.ex = []) (hs : X.stack = X.env :: X.outer) (hf : X.env.frame = some X.env.locals) (h : CX1 X.prog X.w X.stack H s E e s') :
   wpAny (model X.prog X.w) X.A (leaving X.env e) (fun _ s''=>CX1 X.prog X.w X.outer X.H₀ X.s₀ E e s'') E' s':=by
 obtain ⟨ex,C,H',B,rfl,os,bare,un,hok,F,ov,q⟩:=h
 rw [hs] at F
 exact zfx I hx os bare un hok F.st ov q fun Q k=>F.leave (I.ok.frames.trans (congrArg some hs)) hf k
theorem zjb {h' : Heap} {vs : List Value} (I : Inv X pins σ H s) (hx : X.ex = []) (hs : X.stack = X.env :: X.outer) (hf : X.env.frame = some X.env.locals) (m : Heap.MadeExcOf s.heap h' ex C vs) (q : E C none H) :
   wpAny (model X.prog X.w) X.A (leaving X.env (.ref ex)) (fun _ s''=>CX1 X.prog X.w X.outer X.H₀ X.s₀ E (.ref ex) s'') E' { s with heap:=h' }:=by
 obtain ⟨B,hB⟩ : ∃ B,B = PySem.W.hideAll s.heap (frs X.stack):=⟨_,rfl⟩
 have hin : ∀ env ∈ X.stack,∀ b,env.frame = some b -> b ∈ frs X.stack:=fun env he b hb=>List.mem_filterMap.mpr ⟨env,he,hb⟩
 have frB : s.heap.FunFrames B X.stack:=by rw [hB]; exact PySem.W.funFrames_hide I.stack hin
 have getB : ∀ {b o},s.heap.get? b = some o -> b ∉ frs X.stack -> B.get? b = some o:=fun e n=>by rw [hB]; exact PySem.W.hideAll_get _ e n
 have ofB : ∀ {b o},B.get? b = some o -> s.heap.get? b = some o:=fun r=>by rw [hB] at r; exact PySem.W.of_hideAll _ r
 have nfr : ∀ a o,H a = some o -> a ∉ frs X.stack:=fun a o e z=>by
   have:=I.stkFree a z
   rw [e] at this
   cases this
 obtain ⟨t,he,_,_⟩:=m.there
 refine zfx (B:=B) (s':={ s with heap:=h' }) I hx rfl I.bare (Un.kept m.keeps) (I.hok.kept m.keeps) (fun b o r=>m.keeps b o (ofB r))
   ⟨fun a o e=>?_,fun b o e _ nf=>getB e nf,fun b o e nf=>⟨o,getB e nf⟩⟩ q fun Q k=>?_
 . obtain ⟨u,e1⟩:=(I.hok a o e).there
   exact ⟨u,getB e1 (nfr a o e)⟩
 . rw [hs] at frB
   refine ziT (s:={ s with heap:=h' }) (I.ok.frames.trans (congrArg some hs)) hf (fun b o r=>m.keeps b o (ofB r)) (frB.of_keeps fun b o hb _=>⟨o,m.keeps b o hb,rfl⟩) ⟨_,_,he,rfl,rfl,rfl,rfl,rfl,?_⟩ k
   cases z : B.get? ex with
   | none=>rfl
   | some o =>
     have:=ofB z
     rw [m.new] at this
     cases this
end
theorem zjn {P : Program} {w : World} {K : PySem.W.Frag} {mg : Str -> Option Value} {base : Heap} {N : List Str} {qual : Str} {scope : Scope} {f : Addr} {cd : Value} {A : Around} {outer : List Env} {s : Shared} {H : Hp} {E : XK} :
   ze9 (CX1 P w) (zf7 (CX1 P w) P w K mg base N qual scope f cd A outer s H E) E:=fun pins σ H1 s1 e s' I h=>zj2 I rfl rfl rfl h
def znl (X : Cx) (C : Value) (E : XK) : Prop:=∀ (pins : List (Addr × Obj)) (σ : St) (H : Hp) (s : Shared) (h' : Heap) (ex : Addr) (vs : List Value),Inv X pins σ H s -> Heap.MadeExcOf s.heap h' ex C vs -> E C none H -> X.xe (.ref ex) { s with heap:=h' }
theorem zf9 {P : Program} {w : World} {K : PySem.W.Frag} {mg : Str -> Option Value} {base : Heap} {N : List Str} {qual : Str} {scope : Scope} {f : Addr} {cd C : Value} {A : Around} {outer : List Env} {s : Shared} {H : Hp} {E : XK} :
   znl (zf7 (CX1 P w) P w K mg base N qual scope f cd A outer s H E) C E:=fun pins σ H1 s1 h' ex vs I m q=>zjb I rfl rfl rfl m q
def zkq : List Value:=[.type "ValueError",.type "Exception",.type "BaseException",.type "object"]
theorem zmG {K : PySem.W.Frag} {h : Heap} {C : Addr} {bmB : List Value} {newId : String} (X : K.In h) (q : PySem.W.excIn K C bmB newId = true) :
   ∃ bm N nm qn bs hd sn sub ab col dd k0 k1 k2 k3 k5 mN,h.get? C = some (excClassObj nm qn C N bs bm hd sn sub ab col dd k0 k1 k2 k3 k5 newId) /\ h.Ns N mN /\ mN "__init__" = none /\ OwnTail h bmB bm:=by
 unfold PySem.W.excIn at q
 split at q
 case h_2=>cases q
 rename_i dd cd sl ho
 split at q
 case h_2=>cases q
 rename_i C' bm k0 k1 k2 k3 n k5 hm hs
 simp only [Bool.and_eq_true,beq_iff_eq,Bool.not_eq_true'] at q
 obtain ⟨⟨⟨⟨⟨rfl,rfl⟩,hdel⟩,ht⟩,hok⟩,hni⟩:=q
 obtain ⟨nm,bs,mro,ns,qn,hd,sn,sub,ab,col,del⟩:=cd
 dsimp only at hm hdel hok hni
 subst hm hdel
 have e : sl = #[k0,k1,k2,k3,some (.builtin n),k5]:=by
   cases sl
   simp only at hs
   rw [hs]
 subst e
 exact ⟨bm,ns,nm,qn,bs,hd,sn,sub,ab,col,dd,k0,k1,k2,k3,k5,_,X _ _ ho,.of_isNs (PySem.W.isNs_of_in X hok),PySem.W.nsMap_none_of_in X hok hni,PySem.W.tail_of_in X ht⟩
section
variable {X : Cx} {x : Str} {C : Addr} {E : XK} {e : Expr} {es : List Expr} {t : TA} {np cpos pos : Pos}
def zlx (C : Value) (E : XK) (t : TA) : TS:=fun _ σ H=>t σ H fun vs H1=>vs.length <= sizeLine /\ E C none H1
theorem zdL (q : PySem.W.excIn X.K C zkq "ValueError.__new__" = true) (hc : X.calm = true) (hg : Gl X x) (hm : X.mg x = some (.ref C)) (Z : znl X (.ref C) E) (ha : PA X (e :: es) t) (hdb : (x == ("__debug__" : Str)) = false:=by decide)
   (he : starEach (e :: es) X.env = (false,eval e X.env) :: starEach es X.env:=by rfl) (hpl : (backTo cpos (starEach es X.env)).any (·.1) = false:=by rfl) :
   PS X (.Raise (some (.Call (.Name x np) (e :: es) [] cpos)) none pos) (zlx (.ref C) E t):=by
 intro pins s σ H D I h
 obtain ⟨bm,N,nm,qn,bs,hd,sn,sub,ab,col,dd,k0,k1,k2,k3,k5,mN,hC,hN,hni,T⟩:=zmG I.ok.mod.kin q
 refine wpAny_Raise_call_subU (C:=C) (nm:=nm) (q:=qn) (N:=N) (bs:=bs) (bm:=bm) (hdct:=hd) (sn:=sn) (sub:=sub) (ab:=ab) (col:=col) (dd:=dd) (k0:=k0) (k1:=k1) (k2:=k2) (k3:=k3) (k5:=k5)
   F.excBase_ValueError (by decide) F.excBase_ValueError (mN:=mN) (T.hasType (by decide)) (I.ok.hd hc) (by rw [he]; show (false || (backTo cpos (starEach es X.env)).any (·.1)) = false; rw [hpl]; rfl) hni (zhg I hg hm ⟨rfl,?_⟩ hdb)
 have ha':=ha cpos pins s σ H _ I h
 rw [he] at ha' ⊢
 refine Calls.evalArgs_plain (wpAny_mono ha' (fun us s2 ⟨vs,H2,I2,r,z,q2⟩=>⟨rfl,by rw [<- r.length]; exact z,I2.bk _ _ hC,hN.keeps I2.bk,T.keeps I2.bk,fun h' ex m=>Z pins σ H2 s2 h' ex us I2 m q2⟩) fun _ _ y=>y)
end
end L2
set_option Elab.async false
set_option linter.all false
set_option maxRecDepth 100000
namespace L2
open PySem PySem.Spec PyProof.Rows GM
abbrev Cx.at (X : Cx) (pn : List (Addr × Obj)) (E : Value -> Shared -> Prop) : Cx:={ X with pn:=pn,xe:=E }
abbrev Cx.inExc (X : Cx) (pn : List (Addr × Obj)) (ex : Addr) (oe : Obj) : Cx:={ X with pn:=pn ++ [(ex,oe)],xe:=fun _ _=>False,A:=X.A.mark (some (.ref ex)),calm:=false }
section
variable {X : Cx} {pins pins' : List (Addr × Obj)} {σ : St} {H : Hp} {s : Shared} {ex : Addr} {oe : Obj}
end
section
variable {X : Cx} {CX : CXT} {k : Nat} {f : Addr} {fd : FuncData} {ps : List Str} {sp : Sp} {W : St -> XK} {x : Str} {p pos : Pos} {e : Expr} {es : List Expr} {t : TA}
end
structure znw (C : Value) (oe : Obj) : Prop where
 cls : oe.cls = C
 fld : ∃ vs,oe.data = .fields vs /\ vs[2]? = some .none
 dict : oe.dict = none
section
variable {X : Cx} {x n : Str} {G : Value} {i : Nat} {b₀ : Stmt} {body suite : List Stmt} {np hpos pos : Pos} {tb : (St -> XK) -> TS} {th : Addr -> Value -> TS}
end
structure zo8 (k : Nat) (A : Around) : Prop where
 dp : A.depth + 3 * k + 5 < recursionLimit
 un : A.units + 16 * k + 200 < cLine
structure zpW (P : Program) (w : World) (K : PySem.W.Frag) (mg : Str -> Option Value) (base : Heap) (k : Nat) (f : Addr) (fd : FuncData) (ps : List Str) (sp : Addr -> Value -> Sp) : Prop where
 len : ∀ ex C vs H Q E,sp ex C vs H Q E -> vs.length = ps.length
 run : ∀ (A : Around) (outer : List Env) (s : Shared) (H : Hp) (args : Args) (us : List Value) (vs : List V) (Q : VK) (E : XK) (ex : Addr) (C : Value) (oe : Obj),zo8 k A -> A.handled = some (.ref ex) -> s.heap.get? ex = some oe -> znw C oe -> H ex = none -> ex ∉ frs outer ->
   zk2 P w K mg base A outer s H -> BindsTo s fd args (ps.zip us) -> zap vs us -> sp ex C vs H Q E -> codeAny (model P w) A (.call (.ref f) args) (CR CX0 outer P w H s Q E) s
structure Hd (X : Cx) (ex : Addr) (C : Value) (oe : Obj) : Prop where
 hd : X.A.handled = some (.ref ex)
 pn : (ex,oe) ∈ X.pn
 ob : znw C oe
section
variable {P : Program} {w : World} {K : PySem.W.Frag} {mg : Str -> Option Value} {base : Heap}
end
section
variable {X : Cx} {k : Nat} {f : Addr} {fd : FuncData} {ps : List Str} {sp : Addr -> Value -> Sp} {x : Str} {p pos : Pos} {e : Expr} {es : List Expr} {t : TA} {ex : Addr} {C : Value} {oe : Obj}
end
end L2
set_option Elab.async false
set_option linter.all false
set_option maxRecDepth 100000
namespace L2
open PySem PySem.Spec PyProof.Rows GM
def zfI (cells : List (Str × Addr)) : List (Str × NameKind) -> List (Str × Addr) -> List (Str × Addr)
 | [],acc=>acc
 | (n,k) :: r,acc=>zfI cells r (if (k == NameKind.free) = true then (n,(cells.lookup n).getD 0) :: acc else acc)
theorem zfe {scope : Scope} {env : Env} (h : ∀ y ∈ scope.names,y.2 = .free -> ∃ c,env.cells.lookup y.1 = some c) : closureFor scope env = pure (zfI env.cells scope.names []):=by
 unfold closureFor
 generalize scope.names = names at h
 suffices g : ∀ (names : List (Str × NameKind)) (acc : List (Str × Addr)),(∀ y ∈ names,y.2 = .free -> ∃ c,env.cells.lookup y.1 = some c) ->
     (forIn names acc fun (x : Str × NameKind) (r : List (Str × Addr))=>if (x.2 == NameKind.free) = true then do let c <- cellOf env x.1; pure (ForInStep.yield ((x.1,c) :: r)) else pure (ForInStep.yield r) : Sem (List (Str × Addr))) = pure (zfI env.cells names acc) by
   have:=g names [] h
   show (_ >>= pure) = _
   rw [bind_pure]
   exact this
 intro names
 induction names with
 | nil=>intro acc _; rfl
 | cons y r ih =>
   intro acc hy
   obtain ⟨n,k⟩:=y
   rw [List.forIn_cons]
   by_cases e : (k == NameKind.free) = true
   . obtain ⟨c,hc⟩:=hy (n,k) List.mem_cons_self (beq_iff_eq.mp e)
     have hcell : cellOf env n = pure c:=by
       unfold cellOf
       rw [hc]
     simp only [e,if_true,hcell,pure_bind]
     rw [ih _ fun z hz=>hy z (List.mem_cons_of_mem _ hz)]
     show _ = pure (zfI env.cells r _)
     simp only [e,if_true,hc,Option.getD_some]
   . simp only [e,pure_bind]
     rw [if_neg (by simp),pure_bind]
     dsimp only
     rw [ih _ fun z hz=>hy z (List.mem_cons_of_mem _ hz)]
     show _ = pure (zfI env.cells r _)
     rw [if_neg e]
theorem zfr {cells : List (Str × Addr)} : ∀ (names : List (Str × NameKind)) (acc : List (Str × Addr)) (x : Str) (c : Addr),(∀ y ∈ names,y.2 = .free -> ∃ c,cells.lookup y.1 = some c) -> (∀ x c,acc.lookup x = some c -> cells.lookup x = some c) ->
   (zfI cells names acc).lookup x = some c -> cells.lookup x = some c
 | [],acc,x,c,_,ha,h=>ha x c h
 | (n,k) :: r,acc,x,c,hy,ha,h=>by
   unfold zfI at h
   refine zfr r _ x c (fun z hz=>hy z (List.mem_cons_of_mem _ hz)) (fun x' c' h'=>?_) h
   split at h'
   . rename_i e
     obtain ⟨c0,hc0⟩:=hy (n,k) List.mem_cons_self (beq_iff_eq.mp e)
     rw [List.lookup_cons] at h'
     split at h'
     . rename_i e2
       rw [beq_iff_eq.mp e2,hc0]
       rw [hc0] at h'
       exact h'
     . exact ha x' c' h'
   . exact ha x' c' h'
theorem ziv {cells : List (Str × Addr)} : ∀ (names : List (Str × NameKind)) (acc : List (Str × Addr)) (x : Str),(∃ c,acc.lookup x = some c) -> ∃ c,(zfI cells names acc).lookup x = some c
 | [],acc,x,h=>h
 | (n,k) :: r,acc,x,h=>by
   unfold zfI
   refine ziv r _ x ?_
   split
   . rw [List.lookup_cons]
     split
     . exact ⟨_,rfl⟩
     . exact h
   . exact h
theorem ziu {cells : List (Str × Addr)} : ∀ (names : List (Str × NameKind)) (acc : List (Str × Addr)) (x : Str),(x,NameKind.free) ∈ names -> ∃ c,(zfI cells names acc).lookup x = some c
 | [],acc,x,h=>nomatch h
 | (n,k) :: r,acc,x,h=>by
   unfold zfI
   rcases List.mem_cons.mp h with e | e
   . cases e
     rw [if_pos (by decide)]
     refine ziv r _ _ ?_
     rw [List.lookup_cons]
     simp
   . exact ziu r _ x e
theorem zfF (g : Str -> NameKind -> NameKind) : ∀ (names : List (Str × NameKind)) (x : Str),(names.map fun y=>(y.1,g y.1 y.2)).lookup x = (names.lookup x).map (g x)
 | [],x=>rfl
 | (n,k) :: r,x=>by
   rw [List.map_cons,List.lookup_cons,List.lookup_cons]
   dsimp only
   by_cases e : (x == n) = true
   . have e':=beq_iff_eq.mp e
     subst e'
     simp
   . rw [Bool.not_eq_true] at e
     simp only [e]
     exact zfF g r x
def zmr (env : Env) (x : Str) (k : NameKind) : NameKind:=if (k == .free && env.scope.kind == .function && env.kindOf x == some .cell) = true then .cell else k
theorem zge {scope : Scope} {env : Env} (x : Str) : (relabel scope env).names.lookup x = (scope.names.lookup x).map (zmr env x):=by
 rw [<- zfF]
 show (scope.names.map _).lookup x = _
 congr 2
 funext ⟨n,k⟩
 dsimp only [zmr]
 split <;> rfl
def zaB (inner outer : List (Str × NameKind)) (N N' : List Str) (src : List (Option Nat)) : Bool :=
 (inner.all fun y=>(y.2 != .cell) && (y.2 != .local || inner.lookup y.1 == some .local) && (y.2 != .free || outer.lookup y.1 == some .cell)) &&
 (N'.length == src.length) && ((N'.zip src).all fun p=>match p.2 with
   | none=>true
   | some j=>N[j]? == some p.1 && outer.lookup p.1 == some .cell && inner.lookup p.1 == some .free)
theorem zaI.by {X : Cx} {N' : List Str} {scope : Scope} {src : List (Option Nat)} (hk : scope.kind = .function) (hc : zaB scope.names X.env.scope.names X.N N' src = true) (hf : ∀ x,X.env.scope.names.lookup x = some .cell -> ∃ c,X.env.cells.lookup x = some c:=by exact fun x h=>zgk h) :
   zaI X N' scope (zfI X.env.cells scope.names []) src:=by
 unfold zaB at hc
 simp only [Bool.and_eq_true,List.all_eq_true,beq_iff_eq,Bool.or_eq_true,bne_iff_ne,ne_eq] at hc
 obtain ⟨⟨h1,h2⟩,h3⟩:=hc
 have fr : ∀ y ∈ scope.names,y.2 = .free -> ∃ c,X.env.cells.lookup y.1 = some c:=fun y hy e=>hf _ (((h1 y hy).2).elim (fun z=>absurd e z) id)
 have at3 : ∀ (i : Nat) (x : Str) (j : Nat),N'[i]? = some x -> src[i]? = some (some j) -> X.N[j]? = some x /\ X.env.scope.names.lookup x = some .cell /\ scope.names.lookup x = some .free:=fun i x j e1 e2=>by
   have m : (x,some j) ∈ N'.zip src:=by
     rw [List.mem_iff_getElem?]
     exact ⟨i,by rw [List.getElem?_zip_eq_some]; exact ⟨e1,e2⟩⟩
   have:=h3 _ m
   simp only [Bool.and_eq_true,beq_iff_eq] at this
   exact ⟨this.1.1,this.1.2,this.2⟩
 refine ⟨hk,fun y hy=>((h1 y hy).1).1,fun y hy e=>(((h1 y hy).1).2).elim (fun z=>absurd e z) id,⟨zfe fr,fun x c e=>zfr _ _ x c fr (fun _ _ z=>by simp at z) e,fun x e=>?_⟩,⟨h2,fun i j x e1 e2=>⟨(at3 i x j e1 e2).1,(at3 i x j e1 e2).2.1⟩⟩,fun i x e1 e2=>?_⟩
 . rw [zge] at e
   cases q : scope.names.lookup x with
   | none=>rw [q] at e; simp at e
   | some k =>
     have hm:=PySem.mem_of_lookup q
     have hk : k = .free:=by
       rw [q] at e
       simp only [Option.map_some,Option.some.injEq,zmr] at e
       have nc : k ≠ .cell:=((h1 _ hm).1).1
       rcases e with e | e
       . split at e
         . rename_i z; simp only [Bool.and_eq_true,beq_iff_eq] at z; exact z.1.1
         . exact absurd e nc
       . split at e
         . cases e
         . exact e
     subst hk
     exact ziu _ _ x hm
 . obtain ⟨o,ho⟩ : ∃ o,src[i]? = some o:=by
     have : i < src.length:=by rw [<- h2]; exact (List.getElem?_eq_some_iff.mp e1).1
     exact ⟨src[i],by simp [this]⟩
   cases o with
   | none=>exact absurd ho e2
   | some j =>
     have:=(at3 i x j e1 ho).2.2
     rw [zge,this]
     simp only [Option.map_some,Option.some.injEq,zmr]
     split
     . exact .inl rfl
     . exact .inr rfl
section
variable {prog : Program} {w : World} {A : Around} {E : Value -> Shared -> Prop} {s : Shared}
structure zpV (A : Around) (h : Heap) (ex : Addr) : Prop where
 hd : A.handled = some (.ref ex)
 ob : ∃ oe vs,h.get? ex = some oe /\ oe.data = .fields vs /\ vs[2]? = some .none
end
section
variable {X : Cx} {ex : Addr} {C : Value} {oe : Obj} {pins : List (Addr × Obj)} {σ : St} {H : Hp} {s : Shared} {pos : Pos}
variable {tg l : Expr} {tl : TE}
variable {N' : List Str} {scope : Scope} {cl : List (Str × Addr)} {src : List (Option Nat)} {elt tgt iter : Expr} {ifs : List Expr} {wi : TI} {g : TG} {tt : TT} {te : TE}
end
structure zpP (K : PySem.W.Frag) (C : Addr) : Prop where
 ga : PySem.W.findIn K (.ref C) "__getattribute__" = some (some (.builtin "BaseException.__getattribute__"))
 gh : PySem.W.findIn K (.ref C) "__getattr__" = some none
 cl : (PySem.W.clsIn K C).isSome = true
 at_ : PySem.W.findIn K (.ref C) "__class__" = some (some (.builtin "object.__class__"))
 gt : PySem.W.specialIn K (.builtin "object.__class__") "__get__" = some (some (.builtin "getset_descriptor.__get__"))
 tk : PySem.W.takesIn K (.builtin "object.__class__") = some true
 mr : PySem.W.mroIn K C (.type "object") = some true
 be : PySem.W.mroIn K C (.type "BaseException") = some true
end L2
set_option Elab.async false
set_option linter.all false
set_option maxRecDepth 100000
namespace L2
open PySem PySem.Spec PyProof.Rows GM
def zlN (K : PySem.W.Frag) (g : TG) (tt : TT) (te : TE) (src : List (Option Nat)) (σ : St) (x : V) (H1 : Hp) (Q : VK) : Prop :=
 ∃ a,x = .ref a /\ (∃ xs,SqL K H1 a xs) /\ ∀ D,H1 D = none -> zem g tt te (Itl K a) D (zaH src σ) (upd H1 D (.lst [])) (fun H'=>Q (.ref D) H')
def zlC (K : PySem.W.Frag) (g : TG) (tt : TT) (te : TE) (src : List (Option Nat)) (σ : St) (x : V) (H1 : Hp) (Q : VK) : Prop :=
 ∃ a,x = .ref a /\ (∃ xs,SqT K H1 a xs) /\ ∀ D,H1 D = none -> zem g tt te (Itt K a) D (zaH src σ) (upd H1 D (.lst [])) (fun H'=>Q (.ref D) H')
def zkG (g : TG) (tt : TT) (te : TE) (src : List (Option Nat)) (σ : St) (vs : List V) (H1 : Hp) (Q : VK) : Prop :=
 ∃ j : Int,vs = [.int j] /\ -(2 ^ 62) <= j /\ j < 2 ^ 62 /\ ∀ D,H1 D = none -> zem g tt te (Itr 0 j.toNat) D (zaH src σ) (upd H1 D (.lst [])) (fun H'=>Q (.ref D) H')
section
variable {K : PySem.W.Frag} {g : TG} {tt : TT} {te ta : TE} {tA : TA} {src : List (Option Nat)} {σ : St} {H : Hp} {Q : VK} {a : Addr} {xs : List V} {n : Int}
theorem zkE (h : ta σ H fun x H1=>zlN K g tt te src σ x H1 Q) : zgM src (znf K ta) g tt te σ H Q:=h
theorem zlp (h : ta σ H fun x H1=>zlC K g tt te src σ x H1 Q) : zgM src (zpy K ta) g tt te σ H Q:=h
theorem zkC (h : tA σ H fun vs H1=>zkG g tt te src σ vs H1 Q) : zgM src (zk5 tA) g tt te σ H Q:=h
def zjh (Pv : Addr -> Nat -> List V -> St -> Hp -> Prop) (D : Addr) (i : Nat) (σ3 : St) (y : V) (H5 : Hp) : Prop :=
 ∃ ys,H5 D = some (.lst ys) /\ ys.length < sizeLine /\ ∃ ys',Pv D (i + 1) ys' σ3 (upd H5 D (.lst (ys ++ [y])))
def zfB (Pv : Addr -> Nat -> List V -> St -> Hp -> Prop) (g : TG) (tt : TT) (te : TE) (D : Addr) (i : Nat) (x : V) (σ' : St) (H' : Hp) : Prop :=
 g x σ' H' fun σ3 H3=>tt σ3 H3 fun ok H4=>if ok = true then te σ3 H4 fun y H5=>zjh Pv D i σ3 y H5 else ∃ ys',Pv D (i + 1) ys' σ3 H4
theorem zjK {Pv : Addr -> Nat -> List V -> St -> Hp -> Prop} {D : Addr} {i : Nat} {σ3 : St} {y : V} {H5 : Hp} {ys : List V} (h : H5 D = some (.lst ys)) (z : ys.length <= 1000) (q : ∀ H6,Exc D H5 H6 -> H6 D = some (.lst (ys ++ [y])) -> Pv D (i + 1) (ys ++ [y]) σ3 H6) : zjh Pv D i σ3 y H5 :=
 ⟨ys,h,zd0 z,_,q _ (Exc.upd D H5 _) zas⟩
theorem zeC {J : It} {N : Nat} {D : Addr} {σ0 : St} {H0 : Hp} {R : Hp -> Prop} (Pv : Addr -> Nat -> List V -> St -> Hp -> Prop) (item : Nat -> V -> Prop) (h0 : Pv D 0 [] σ0 H0)
   (stop : ∀ i ys σ' H',Pv D i ys σ' H' -> N <= i -> J.stop i H') (go : ∀ i ys σ' H',Pv D i ys σ' H' -> i < N -> J.go i H') (yld : ∀ i ys σ' H' x H2,Pv D i ys σ' H' -> J.yld i H' x H2 -> H2 = H' /\ item i x)
   (hs : ∀ i x ys σ' H',i < N -> item i x -> Pv D i ys σ' H' -> zfB Pv g tt te D i x σ' H') (hd : ∀ ys σ' H',Pv D N ys σ' H' -> R H') : zem g tt te J D σ0 H0 R:=by
 refine ⟨fun i m σ' H'=>i + m = N /\ ∃ ys,Pv D i ys σ' H',⟨N,by lia,[],h0⟩,?_⟩
 rintro i m σ' H' ⟨him,ys,hp⟩
 by_cases hm : m = 0
 . subst hm
   have e : i = N:=by lia
   subst e
   exact .inl ⟨stop _ _ _ _ hp (Nat.le_refl _),hd _ _ _ hp⟩
 . refine .inr ⟨go _ _ _ _ hp (by lia),fun σ2 H2=>∃ ys,Pv D (i + 1) ys σ2 H2,fun σ2 H2 h=>⟨m - 1,by lia,by lia,h⟩,fun x H2 hy2=>?_⟩
   obtain ⟨e,hit⟩:=yld _ _ _ _ _ _ hp hy2
   subst e
   exact hs i x ys σ' H2 (by lia) hit hp
theorem ziY (hx : SqL K H a xs) (Pv : Addr -> Nat -> List V -> St -> Hp -> Prop) (h0 : ∀ D H',H D = none -> zah H H' -> H' D = some (.lst []) -> Pv D 0 [] (zaH src σ) H') (hl : ∀ D i ys σ' H',Pv D i ys σ' H' -> SqL K H' a xs)
   (hs : ∀ D i x ys σ' H',xs[i]? = some x -> Pv D i ys σ' H' -> zfB Pv g tt te D i x σ' H') (hd : ∀ D ys σ' H',Pv D xs.length ys σ' H' -> Q (.ref D) H') : zlN K g tt te src σ (.ref a) H Q:=by
 refine ⟨a,rfl,⟨xs,hx⟩,fun D hD=>zeC (N:=xs.length) Pv (fun i x=>xs[i]? = some x) (h0 D _ hD (zah.upd hD) zas) (fun i ys σ' H' hp hi=>⟨xs,hl _ _ _ _ _ hp,hi⟩) (fun i ys σ' H' hp hi=>?_) (fun i ys σ' H' x H2 hp hy=>?_)
   (fun i x ys σ' H' _ hit hp=>hs D i x ys σ' H' hit hp) (hd D)⟩
 . exact ⟨xs,xs[i],hl _ _ _ _ _ hp,by simp [hi]⟩
 . obtain ⟨e,hy⟩:=hy
   exact ⟨e,hy xs (hl _ _ _ _ _ hp)⟩
theorem zjg (hx : SqT K H a xs) (Pv : Addr -> Nat -> List V -> St -> Hp -> Prop) (h0 : ∀ D H',H D = none -> zah H H' -> H' D = some (.lst []) -> Pv D 0 [] (zaH src σ) H') (hl : ∀ D i ys σ' H',Pv D i ys σ' H' -> SqT K H' a xs)
   (hs : ∀ D i x ys σ' H',xs[i]? = some x -> Pv D i ys σ' H' -> zfB Pv g tt te D i x σ' H') (hd : ∀ D ys σ' H',Pv D xs.length ys σ' H' -> Q (.ref D) H') : zlC K g tt te src σ (.ref a) H Q:=by
 refine ⟨a,rfl,⟨xs,hx⟩,fun D hD=>zeC (N:=xs.length) Pv (fun i x=>xs[i]? = some x) (h0 D _ hD (zah.upd hD) zas) (fun i ys σ' H' hp hi=>⟨xs,hl _ _ _ _ _ hp,hi⟩) (fun i ys σ' H' hp hi=>?_) (fun i ys σ' H' x H2 hp hy=>?_)
   (fun i x ys σ' H' _ hit hp=>hs D i x ys σ' H' hit hp) (hd D)⟩
 . exact ⟨xs,xs[i],hl _ _ _ _ _ hp,by simp [hi]⟩
 . obtain ⟨e,hy⟩:=hy
   exact ⟨e,hy xs (hl _ _ _ _ _ hp)⟩
theorem zi1 (h0' : -1000000000 <= n) (h1 : n < 1000000000) (Pv : Addr -> Nat -> List V -> St -> Hp -> Prop) (h0 : ∀ D H',H D = none -> zah H H' -> H' D = some (.lst []) -> Pv D 0 [] (zaH src σ) H')
   (hs : ∀ D (i : Nat) ys σ' H',i < n.toNat -> Pv D i ys σ' H' -> zfB Pv g tt te D i (.int (i : Int)) σ' H') (hd : ∀ D ys σ' H',Pv D n.toNat ys σ' H' -> Q (.ref D) H') : zkG g tt te src σ [.int n] H Q:=by
 refine ⟨n,rfl,by lia,by lia,fun D hD=>zeC (N:=n.toNat) Pv (fun i x=>x = .int (i : Int)) (h0 D _ hD (zah.upd hD) zas) (fun i ys σ' H' hp hi=>hi) (fun i ys σ' H' hp hi=>hi) (fun i ys σ' H' x H2 hp hy=>?_)
   (fun i x ys σ' H' hi hit hp=>?_) (hd D)⟩
 . obtain ⟨e,hy⟩:=hy
   exact ⟨e,by rw [hy,Int.zero_add]⟩
 . subst hit
   exact hs D i ys σ' H' hi hp
end
structure zhQ (u' u : TS) : Prop where
 e : u' = u
theorem zmV {t u : TS} {D : zcJ} {σ : St} {H : Hp} (h : ∀ u',zhQ u' u -> t { D with nx:=u' D } σ H) : zox t u D σ H:=h u ⟨rfl⟩
theorem zhQ.go {u' u : TS} {D : zcJ} {σ : St} {H : Hp} (e : zhQ u' u) (h : u D σ H) : u' D σ H:=by rw [e.e]; exact h
end L2
set_option Elab.async false
set_option linter.all false
set_option maxRecDepth 100000
namespace L2
open PySem PySem.Spec PyProof.Rows GM
theorem zlV {P : Program} {w : World} {X : Cx} : ze9 (CX1 P w) X E0:=fun _ _ _ _ _ _ _ h=>by
 obtain ⟨_,_,_,_,_,_,_,_,_,_,_,q⟩:=h
 exact q.elim
theorem Fun.ok1 {P : Program} {w : World} {K : PySem.W.Frag} {mg : Str -> Option Value} {base : Heap} {x qual : Str} {st : Stmt} {f : Addr} {fd : FuncData} {N ps : List Str} {k : Nat} {sp : Sp} (F : Fun K x qual st f fd) (S : zal N ps (zae st)) (len : ∀ vs H Q E,sp vs H Q E -> vs.length = ps.length)
   (hbody : ∀ (cdv : Value) (A : Around) (outer : List Env) (s : Shared) (H : Hp) (vs : List V) (Q : VK) (E : XK),zcO k (A.deeper (envOfC qual (zae st) s.heap.objs.size f cdv)) -> sp vs H Q E ->
     ∃ t,PSs (zf7 (CX1 P w) P w K mg base N qual (zae st) f cdv A outer s H E) (zco st) t /\ t { nx:=fun _ H'=>Q .non H',rt:=Q } (start N vs) H) : zaP P w K mg base (CX1 P w) (k + 1) f fd ps sp:=by
 obtain ⟨oc,od,kV,doc,pm,an,cdv,ct,osl,rfl,lk,hcd⟩:=F.ex
 exact znF lk hcd S len fun A outer s H vs Q E hr hsp=>hbody cdv A outer s H vs Q E hr hsp
theorem zcw {X : Cx} {i j v : Int} {k1 k2 : Nat} {p1 p2 pos : Pos} (hc : zpA i j) (hv : i ^ j.toNat = v) : PE X (.BinOp (.Constant (.int i) k1 p1) .Pow (.Constant (.int j) k2 p2) pos) (tC (.int v)):=by
 subst hv
 exact fun pins s σ H Q I h=>(zan znR zaf zaf : PE X _ _) pins s σ H Q I ⟨i,j,rfl,rfl,hc,h⟩
theorem zkj {α : Type} [DecidableEq α] {x : α} {A B : Prop} (h : B) : if (!decide (x = x)) = true then A else B:=by simpa using h
section
variable {K : PySem.W.Frag} {σ : St} {H H' : Hp} {Q : VK} {QB : Bool -> Hp -> Prop} {D : zcJ} {t : TA} {v w : V} {xs ys : List V} {m n : Int} {r : Rat} {p : Addr}
theorem zph {A B : Prop} (h : B) : if (!true) = true then A else B:=by simpa using h
theorem zo7 {A B : Prop} (h : A) : if (!false) = true then A else B:=by simpa using h
theorem zmO {a b : V} (h : H p = some (.lst [a,b])) (h0 : 0 <= m) (h1 : m < 2) (q : ∀ z,z = a \/ z = b -> Q z H) : rIx K (.ref p) (.int m) H Q :=
 zfP (fun z=>z = a \/ z = b) (SqL.of h) h0 (by simpa using h1) (by simp) q
theorem zm6 {a b : Int} (h : H p = some (.lst [.int a,.int b])) (h0 : 0 <= m) (h1 : m < 2) (q : ∀ z,z = a \/ z = b -> Q (.int z) H) : rIx K (.ref p) (.int m) H Q :=
 zmO h h0 h1 fun z hz=>by rcases hz with rfl | rfl; exact q _ (.inl rfl); exact q _ (.inr rfl)
theorem zlX {a b c d : Int} (h : H p = some (.lst [.int a,.int b,.int c,.int d])) (h0 : 0 <= m) (h1 : m < 4) (q : ∀ z,z = a \/ z = b \/ z = c \/ z = d -> Q (.int z) H) : rIx K (.ref p) (.int m) H Q:=by
 refine zfP (fun v=>∃ z,v = .int z /\ (z = a \/ z = b \/ z = c \/ z = d)) (SqL.of h) h0 (by simpa using h1) (fun x hx=>?_) fun x hx=>?_
 . simp only [List.mem_cons,List.not_mem_nil,or_false] at hx
   rcases hx with rfl | rfl | rfl | rfl
   . exact ⟨_,rfl,by simp⟩
   . exact ⟨_,rfl,by simp⟩
   . exact ⟨_,rfl,by simp⟩
   . exact ⟨_,rfl,by simp⟩
 . obtain ⟨z,rfl,hz⟩:=hx
   exact q z hz
theorem zhN {x y : Rat} (h1 : x.num = y.num) (h2 : (x.den : Int) = y.den) : x = y:=by
 have h2' : x.den = y.den:=by lia
 exact Rat.ext h1 h2'
theorem zna (x y : Rat) : PyData.eqv (N x) (N y) = decide (x = y):=by
 have e : PyData.eqv (N x) (N y) = (decide (x.num = y.num) && decide ((x.den : Int) = y.den)):=by
   simp only [N,PyData.eqv,PyData.eqvAll,Bool.and_true,Bool.beq_eq_decide_eq]
 rw [e,Bool.eq_iff_iff,Bool.and_eq_true,decide_eq_true_eq,decide_eq_true_eq,decide_eq_true_eq]
 constructor
 . rintro ⟨h1,h2⟩; exact zhN h1 h2
 . rintro rfl; exact ⟨rfl,rfl⟩
end
def R (a b : Rat) : PyData:=.tuple [N a,N b]
structure zpK (a b : Rat) : Prop where
 a0 : 0 < a
 a4 : a <= 4
 ad : a.den <= 8
 b0 : 0 <= b
 b1 : b <= 1
 bd : b.den <= 12
 ab : 1 <= a + b
section
variable {K : PySem.W.Frag} {H : Hp} {Q : VK} {v : V} {a b : Rat} {σ : St} {gs : TGs} {QS : St -> Hp -> Prop}
end
section
variable {K : PySem.W.Frag} {H H' H2 : Hp} {Q : VK} {v w : V} {a b c d : Rat} {D : Addr}
theorem zah.grow (s : zah H H') (n : H D = none) (e : Exc D H' H2) : zah H H2:=fun b o h=>e b o (zaF h n) (s b o h)
end
theorem zlo {σ : St} {H : Hp} {Q : Bool -> Hp -> Prop} (q : Q true H) : zkN σ H Q:=q
theorem zlS {Pv : Addr -> Nat -> List V -> St -> Hp -> Prop} {g : TG} {tt : TT} {te : TE} {D : Addr} {i : Nat} {x : V} {σ' : St} {H' : Hp} (h : g x σ' H' fun σ3 H3=>tt σ3 H3 fun ok H4=>if ok = true then te σ3 H4 fun y H5=>zjh Pv D i σ3 y H5 else ∃ ys',Pv D (i + 1) ys' σ3 H4) :
   zfB Pv g tt te D i x σ' H':=h
section
variable {K : PySem.W.Frag} {σ : St} {H : Hp} {Q : VK} {E : XK} {D : zcJ} {t : TA} {C G : Value} {i : Nat} {tb : (St -> XK) -> TS} {th : Addr -> Value -> TS} {sp : Sp} {W : St -> XK} {ex C' : Addr} {b : Bool}
theorem zkQ (h : t σ H fun vs H1=>vs.length <= sizeLine /\ E C none H1) : zlx C E t D σ H:=h
end
theorem zcX (s : String) : PyData.strOk (Str.ofString s) = true:=by
 rw [Str.ofString_eq_toList,PyData.strOk]
 simp only [List.all_toArray,List.all_map,List.all_eq_true,Function.comp,decide_eq_true_eq]
 intro c _
 have:=c.valid
 simp only [Char.toNat]
 rcases this with h | h
 . have : c.val.toNat < 0xd800:=h
   lia
 . exact h.2
inductive zfX (K : PySem.W.Frag) (H : Hp) : List V -> List (Str × Bool) -> Prop
 | nil : zfX K H [] []
 | cons {x : V} {xs : List V} {w : Str} {b : Bool} {ws : List (Str × Bool)} : Is K H x (.tuple [.str w,.bool b]) -> zfX K H xs ws -> zfX K H (x :: xs) ((w,b) :: ws)
inductive zky (X : Cx) : List Expr -> List TE -> Prop
 | nil : zky X [] []
 | cons {e : Expr} {es : List Expr} {te : TE} {ts : List TE} : (∀ env,starEach (e :: es) env = (false,eval e env) :: starEach es env) -> PE X e te -> zky X es ts -> zky X (e :: es) (te :: ts)
end L2
set_option Elab.async false
set_option linter.all false
set_option maxRecDepth 100000
namespace L2
open PySem PySem.Spec PyProof.Rows GM
section
variable {K : PySem.W.Frag} {H H' H2 : Hp} {Q : VK} {R : Prop} {v w y : V} {p l : Addr} {xs ys zs : List V} {ns : List Int} {m : Int} {σ : St}
end
section
variable {K : PySem.W.Frag} {H H' H2 : Hp} {Q : VK} {R : Prop} {v w y : V} {p l : Addr} {xs ys zs : List V} {ns : List Int} {m : Int} {σ : St} {to : TE} {t : TA} {T : String} {r : V -> List V -> Hp -> VK -> Prop}
theorem zpb (h : to σ H fun x H1=>tyV K T x H1 /\ t σ H1 fun xs H2=>r x xs H2 Q) : tBM K T r to t σ H Q:=h
theorem ziH (h : SqL K H p xs) (q : R) : tyV K "list" (.ref p) H /\ R:=⟨.inl ⟨rfl,xs,h⟩,q⟩
theorem zfh (h : H l = some (.lst xs)) (z : xs.length <= 1000) (q : ∀ H',Exc l H H' -> H' l = some (.lst (xs ++ [y])) -> Q .non H') : zjD (.ref l) [y] H Q:=⟨l,xs,y,rfl,rfl,h,zd0 z,q _ (Exc.upd l H _) zas⟩
end
def zbR (K : PySem.W.Frag) : List V -> Hp -> VK -> Prop:=fun xs H Q=>∃ p ys,xs = [.ref p] /\ ((SqL K H p ys /\ ∀ l,H l = none -> Q (.ref l) (upd H l (.tup ys))) \/ (SqT K H p ys /\ Q (.ref p) H))
def zhu (K : PySem.W.Frag) : List V -> Hp -> VK -> Prop:=fun xs H Q=>∃ p ys,xs = [.ref p] /\ (SqL K H p ys \/ SqT K H p ys) /\ ∀ l,H l = none -> Q (.ref l) (upd H l (.lst ys))
theorem zbP {X : Cx} : zaj X (.type "tuple") (zbR X.K):=zgC
theorem zi8 {X : Cx} : zaj X (.type "list") (zhu X.K):=zht
def zld (K : PySem.W.Frag) : V -> Option Int -> Option Int -> Hp -> VK -> Prop:=fun x lo hi H Q=>zpB K x lo hi H Q \/ zo5 K x lo hi H Q
theorem zfk {X : Cx} : SlR X (zld X.K):=zmH.or zoe
section
variable {K : PySem.W.Frag} {H H' H2 : Hp} {Q : VK} {QO : Option Int -> Hp -> Prop} {R : Prop} {v w y : V} {p l : Addr} {xs ys zs : List V} {ds es : List PyData} {m : Int} {σ : St} {te : TE} {tl th : TO} {r : V -> Option Int -> Option Int -> Hp -> VK -> Prop} {lo hi : Option Int}
theorem zdU (h : SqL K H p ys) (q : ∀ l H',H l = none -> zah H H' -> H' l = some (.tup ys) -> Q (.ref l) H') : zbR K [.ref p] H Q:=⟨p,ys,rfl,.inl ⟨h,fun l hl=>q l _ hl (zah.upd hl) zas⟩⟩
theorem zf2 (h : Is K H v (.list ds)) (q : ∀ w H',zah H H' -> Is K H' w (.tuple ds) -> Q w H') : zbR K [v] H Q:=by
 obtain ⟨a,xs,rfl,hs,t⟩:=zaU.mp h
 exact zdU hs fun l H' _ s e=>q _ H' s (zau.mpr ⟨l,xs,rfl,.of e,IsAll.same s ds xs t⟩)
theorem zj1 (h : Is K H v (.list ds)) (q : ∀ l H' ys,H l = none -> zah H H' -> H' l = some (.lst ys) -> IsAll K H' ys ds -> Q (.ref l) H') : zhu K [v] H Q:=by
 obtain ⟨a,xs,rfl,hs,t⟩:=zaU.mp h
 exact ⟨a,xs,rfl,.inl hs,fun l hl=>q l _ xs hl (zah.upd hl) zas (IsAll.same (zah.upd hl) ds xs t)⟩
theorem zlA (h : te σ H fun x H1=>tl σ H1 fun l H2=>th σ H2 fun u H3=>r x l u H3 Q) : tSl r te tl th σ H Q:=h
theorem zjW (q : QO none H) : zjx σ H QO:=q
theorem zmK (h : te σ H fun x H1=>∃ i,x = .int i /\ QO (some i) H1) : znb te σ H QO:=h
theorem zlw {RI : Int -> Prop} (q : RI m) : ∃ i,V.int m = V.int i /\ RI i:=⟨m,rfl,q⟩
def cutD {α : Type} (xs : List α) (lo hi : Option Int) : List α:=(xs.drop (HT.sIx xs.length 0 lo)).take (HT.sIx xs.length xs.length hi - HT.sIx xs.length 0 lo)
theorem IsAll.take : ∀ {ds : List PyData} {xs : List V} (n : Nat),IsAll K H xs ds -> IsAll K H (xs.take n) (ds.take n)
 | _,_,0,h=>by simp [IsAll.nil]
 | [],_,n + 1,h=>by rw [zaY.mp h]; simp [IsAll.nil]
 | d :: ds,_,n + 1,h=>by
   obtain ⟨x,r,rfl,q,t⟩:=zaq.mp h
   rw [List.take_succ_cons,List.take_succ_cons]
   exact .cons q (IsAll.take n t)
theorem IsAll.drop : ∀ {ds : List PyData} {xs : List V} (n : Nat),IsAll K H xs ds -> IsAll K H (xs.drop n) (ds.drop n)
 | _,_,0,h=>by simpa using h
 | [],_,n + 1,h=>by rw [zaY.mp h]; simp [IsAll.nil]
 | d :: ds,_,n + 1,h=>by
   obtain ⟨x,r,rfl,q,t⟩:=zaq.mp h
   rw [List.drop_succ_cons,List.drop_succ_cons]
   exact IsAll.drop n t
theorem IsAll.cut (h : IsAll K H xs ds) : IsAll K H (ze0 xs lo hi) (cutD ds lo hi):=by
 unfold ze0 cutD
 rw [h.length]
 exact (h.drop _).take _
theorem zhL (h : SqL K H p xs) (q : ∀ l H',H l = none -> zah H H' -> H' l = some (.lst (ze0 xs lo hi)) -> Q (.ref l) H') : zld K (.ref p) lo hi H Q:=.inl ⟨p,xs,rfl,h,fun l hl=>q l _ hl (zah.upd hl) zas⟩
theorem zl8 (h : Is K H v (.list ds)) (q : ∀ l H' ys,H l = none -> zah H H' -> H' l = some (.lst ys) -> IsAll K H' ys (cutD ds lo hi) -> Q (.ref l) H') : zld K v lo hi H Q:=by
 obtain ⟨a,xs,rfl,hs,t⟩:=zaU.mp h
 exact zhL hs fun l H' hl s e=>q l H' _ hl s e (IsAll.same s _ _ t.cut)
theorem zjG (h : Is K H v (.tuple ds)) (hw : ¬ (HT.sIx ds.length 0 lo = 0 /\ HT.sIx ds.length ds.length hi = ds.length)) (q : ∀ w H',zah H H' -> Is K H' w (.tuple (cutD ds lo hi)) -> Q w H') : zld K v lo hi H Q:=by
 obtain ⟨a,xs,rfl,hs,t⟩:=zau.mp h
 refine .inr ⟨a,xs,rfl,hs,by rw [t.length]; exact hw,fun l hl=>q _ _ (zah.upd hl) (zau.mpr ⟨l,_,rfl,.of zas,IsAll.same (zah.upd hl) _ _ t.cut⟩)⟩
theorem ziz {α : Type} (xs : List α) : cutD xs none (some (-1)) = xs.dropLast:=by
 unfold cutD
 show (xs.drop 0).take (((-1 : Int) + (xs.length : Int)).toNat - 0) = _
 rw [List.drop_zero,List.dropLast_eq_take]
 congr 1
 lia
end
def TN (xs : List Rat) : PyData:=.tuple (xs.map N)
def LN (xs : List Rat) : PyData:=.list (xs.map N)
theorem zf1 : ∀ xs : List Rat,ImmAll (xs.map N) = true
 | []=>by simp [ImmAll]
 | x :: xs=>by rw [List.map_cons,ImmAll,zkD,zf1 xs]; rfl
theorem zje (xs : List Rat) : Imm (TN xs) = true:=by rw [TN,Imm]; exact zf1 xs
theorem zil : ∀ xs ys : List Rat,PyData.eqvAll (xs.map N) (ys.map N) = decide (xs = ys)
 | [],[]=>by simp [PyData.eqvAll]
 | [],y :: ys=>by simp [PyData.eqvAll]
 | x :: xs,[]=>by simp [PyData.eqvAll]
 | x :: xs,y :: ys=>by
   rw [List.map_cons,List.map_cons,PyData.eqvAll,zna,zil xs ys,Bool.eq_iff_iff,Bool.and_eq_true,decide_eq_true_eq,decide_eq_true_eq,decide_eq_true_eq,List.cons.injEq]
theorem zoq (xs ys : List Rat) : PyData.eqv (TN xs) (TN ys) = decide (xs = ys):=by
 unfold TN
 rw [PyData.eqv,zil]
section
variable {K : PySem.W.Frag} {H H' H2 : Hp} {Q : VK} {v w y : V} {p l : Addr} {vs : List V} {xs ys : List Rat} {m : Int} {σ : St}
theorem zoX {i : Nat} (t : IsAll K H vs (xs.map N)) (h : i < xs.length) : ∃ x,vs[i]? = some x /\ Is K H x (N (xs.getD i 0)):=by
 refine t.get ?_
 rw [List.getElem?_map,List.getD_eq_getElem?_getD,List.getElem?_eq_getElem h]
 rfl
theorem zkp {i : Nat} {x : V} (t : IsAll K H vs (xs.map N)) (h : vs[i]? = some x) : i < xs.length /\ Is K H x (N (xs.getD i 0)):=by
 have hl:=t.length
 rw [List.length_map] at hl
 have hi : i < xs.length:=by
   rcases Nat.lt_or_ge i vs.length with z | z
   . lia
   . rw [List.getElem?_eq_none z] at h; cases h
 obtain ⟨x',e,hx⟩:=zoX t hi
 rw [h] at e
 cases e
 exact ⟨hi,hx⟩
theorem zmc (h : Is K H v (TN xs)) (h0 : 0 <= m) (h1 : m < xs.length) (q : ∀ x,Is K H x (N (xs.getD m.toNat 0)) -> Q x H) : rIx K v (.int m) H Q:=by
 obtain ⟨a,vs,rfl,hs,t⟩:=zau.mp h
 obtain ⟨n,rfl⟩ : ∃ n : Nat,m = (n : Int):=⟨m.toNat,by lia⟩
 obtain ⟨x,e,hx⟩:=zoX (i:=n) t (by lia)
 exact zda hs (zdV e) (q x hx)
theorem zid (h : Is K H v (TN xs)) (q : Q (.int xs.length) H) : zd3 K [v] H Q:=zfQ h (by rw [List.length_map]; exact q)
theorem znt (h : H l = some (.lst vs)) (t : IsAll K H vs (xs.map N)) : Is K H (.ref l) (LN xs):=zaU.mpr ⟨l,vs,rfl,.of h,t⟩
theorem zh4 : ∀ {xs : List Rat} {vs : List V},vs.length = xs.length -> (∀ i x,vs[i]? = some x -> Is K H x (N (xs.getD i 0))) -> IsAll K H vs (xs.map N)
 | [],vs,hl,_=>by
   have : vs = []:=List.eq_nil_of_length_eq_zero hl
   subst this
   exact .nil
 | x :: xs,[],hl,_=>by cases hl
 | x :: xs,u :: vs,hl,h=>by
   rw [List.map_cons]
   exact .cons (h 0 u rfl) (zh4 (by simpa using hl) fun i y e=>h (i + 1) y e)
end
section
variable {K : PySem.W.Frag} {g : TG} {tt : TT} {te : TE} {src : List (Option Nat)} {σ : St} {H : Hp} {Q : VK} {a : Addr} {vs : List V} {n : Int} {tl : St} {o0 : Option V}
def zci (H : Hp) (tl : St) (Rel : Nat -> V -> Hp -> Prop) (D : Addr) (i : Nat) (ys : List V) (σ' : St) (H' : Hp) : Prop :=
 (∃ o,σ' = o :: tl) /\ H D = none /\ zah H H' /\ H' D = some (.lst ys) /\ ys.length = i /\ ∀ j y,ys[j]? = some y -> Rel j y H'
theorem zci.same {Rel : Nat -> V -> Hp -> Prop} {D : Addr} {i : Nat} {ys : List V} {σ' : St} {H' : Hp} (h : zci H tl Rel D i ys σ' H') : zah H H':=h.2.2.1
theorem zaG {Rel : Nat -> V -> Hp -> Prop} {D : Addr} {i : Nat} {ys : List V} {σ' σ3 : St} {H1 H5 : Hp} {y : V} (inv : zci H tl Rel D i ys σ' H1) (hi : i <= 1000) (hk : ∀ i v H1 H2,zaK H1 H2 -> Rel i v H1 -> Rel i v H2) (hσ : ∃ o,σ3 = o :: tl) (s : zah H1 H5) (r : Rel i y H5) : zjh (zci H tl Rel) D i σ3 y H5:=by
 obtain ⟨_,hn,s1,hD,hl,hr⟩:=inv
 have hD5:=s _ _ hD
 refine zjK hD5 (by lia) fun H6 E6 e6=>⟨hσ,hn,(s1.trans s).grow hn E6,e6,by simp [hl],fun j z hz=>?_⟩
 have k6 : zaK H5 H6:=E6.keep hD5
 rcases Nat.lt_or_ge j ys.length with hj | hj
 . rw [List.getElem?_append_left hj] at hz
   exact hk _ _ _ _ (s.keep.trans k6) (hr j z hz)
 . have hj' : j = ys.length:=by
     rcases Nat.lt_or_ge ys.length j with q | q
     . rw [List.getElem?_eq_none (by simp; lia)] at hz; cases hz
     . lia
   subst hj'
   rw [List.getElem?_append_right (Nat.le_refl _),Nat.sub_self] at hz
   cases hz
   rw [hl]
   exact hk _ _ _ _ k6 r
theorem zb7 (hx : SqL K H a vs) (hsrc : zaH src σ = o0 :: tl) (Rel : Nat -> V -> Hp -> Prop) (hs : ∀ D i x ys o H1,vs[i]? = some x -> zci H tl Rel D i ys (o :: tl) H1 -> zfB (zci H tl Rel) g tt te D i x (o :: tl) H1)
   (hd : ∀ D ys H',H D = none -> zah H H' -> H' D = some (.lst ys) -> ys.length = vs.length -> (∀ j y,ys[j]? = some y -> Rel j y H') -> Q (.ref D) H') : zlN K g tt te src σ (.ref a) H Q:=by
 refine ziY hx (zci H tl Rel) (fun D H' n s e=>⟨⟨o0,hsrc⟩,n,s,e,rfl,fun j y z=>by simp at z⟩) (fun D i ys σ' H' h=>h.same.seq hx) ?_ fun D ys σ' H' ⟨_,n,s,e,hl,r⟩=>hd D ys H' n s e hl r
 rintro D i x ys σ' H' hx' h
 obtain ⟨⟨o,rfl⟩,_⟩:=id h
 exact hs D i x ys o H' hx' h
theorem zeG (hx : SqT K H a vs) (hsrc : zaH src σ = o0 :: tl) (Rel : Nat -> V -> Hp -> Prop) (hs : ∀ D i x ys o H1,vs[i]? = some x -> zci H tl Rel D i ys (o :: tl) H1 -> zfB (zci H tl Rel) g tt te D i x (o :: tl) H1)
   (hd : ∀ D ys H',H D = none -> zah H H' -> H' D = some (.lst ys) -> ys.length = vs.length -> (∀ j y,ys[j]? = some y -> Rel j y H') -> Q (.ref D) H') : zlC K g tt te src σ (.ref a) H Q:=by
 refine zjg hx (zci H tl Rel) (fun D H' n s e=>⟨⟨o0,hsrc⟩,n,s,e,rfl,fun j y z=>by simp at z⟩) (fun D i ys σ' H' h=>h.same.sqT hx) ?_ fun D ys σ' H' ⟨_,n,s,e,hl,r⟩=>hd D ys H' n s e hl r
 rintro D i x ys σ' H' hx' h
 obtain ⟨⟨o,rfl⟩,_⟩:=id h
 exact hs D i x ys o H' hx' h
end
def TZ (ns : List Int) : PyData:=.tuple (ns.map PyData.int)
section
variable {K : PySem.W.Frag} {H H' H2 : Hp} {Q : VK} {v w y : V} {p l : Addr} {vs : List V} {ns : List Int} {rss : List (List Rat)} {m : Int} {σ : St}
theorem zdd : ∀ {ns : List Int} {vs : List V},IsAll K H vs (ns.map PyData.int) ↔ vs = ns.map V.int
 | [],vs=>by rw [List.map_nil,zaY]; rfl
 | n :: ns,vs=>by
   rw [List.map_cons,zaq,List.map_cons]
   constructor
   . rintro ⟨x,r,rfl,h,t⟩
     rw [zay.mp h,zdd.mp t]
   . rintro rfl
     exact ⟨_,_,rfl,zay.mpr rfl,zdd.mpr rfl⟩
theorem zpk : Is K H v (TZ ns) ↔ ∃ a,v = .ref a /\ SqT K H a (ns.map V.int):=by
 unfold TZ
 rw [zau]
 constructor
 . rintro ⟨a,xs,e,h,t⟩
   rw [zdd.mp t] at h
   exact ⟨a,e,h⟩
 . rintro ⟨a,e,h⟩
   exact ⟨a,_,e,h,zdd.mpr rfl⟩
theorem zmd {α : Type} {xs : List α} {x : α} (h : xs[xs.length - 1]? = some x) : atI xs (-1) = some x:=by
 have hl : 0 < xs.length:=by
   cases xs with
   | nil=>cases h
   | cons _ _=>simp
 unfold atI ixN
 rw [if_neg (by lia),if_pos (by lia)]
 show xs[((-1 : Int) + (xs.length : Int)).toNat]? = some x
 rw [show ((-1 : Int) + (xs.length : Int)).toNat = xs.length - 1 by lia]
 exact h
end
def zkL (K : PySem.W.Frag) : R2:=fun x y H Q=>znp K x y H Q \/ ∃ a b ys,x = .ref a /\ y = .ref b /\ SqT K H a [] /\ SqT K H b ys /\ Q (.ref b) H
theorem zmY {X : Cx} : OpR X (binaryOp .Add) (zkL X.K):=by
 intro pins s σ H x y v u Q I rx ry h
 rcases h with h | ⟨a,b,ys,rfl,rfl,ha,hb,q⟩
 . exact zmq pins s σ H x y v u Q I rx ry h
 . cases rx
   cases ry
   obtain ⟨its,r1,p1,_⟩:=I.tuple ha
   cases r1
   obtain ⟨its2,r2,p2,_⟩:=I.tuple hb
   obtain ⟨⟨cls,dd,data,sl⟩,ho,hc,n,hd⟩:=id p1
   obtain ⟨⟨cls2,dd2,data2,sl2⟩,ho2,hc2,n2,hd2⟩:=id p2
   simp only at hc hd hc2 hd2
   subst hc hd hc2 hd2
   exact concat_meets ⟨_,ho,rfl⟩ ⟨_,ho2,rfl⟩ noFill_tuple_add seq_tuple_add PySem.F.slot_tuple_add PySem.F.entry_tuple_add (PySem.F.args_tuple_add_2 _ _) (tuple_addW0 a b _ its2.toArray n n2 dd dd2 sl sl2 rfl) ⟨ho,ho2,⟨.ref b,H,I,rfl,q⟩⟩
theorem zih {K : PySem.W.Frag} {H : Hp} {Q : VK} {v w : V} {ds es : List PyData} (h1 : Is K H v (.tuple ds)) (h2 : Is K H w (.tuple es)) (z : ds.length + es.length <= 1000) (q : ∀ u H',zah H H' -> Is K H' u (.tuple (ds ++ es)) -> Q u H') : zkL K v w H Q:=by
 obtain ⟨a,xs,rfl,ha,ta⟩:=zau.mp h1
 obtain ⟨b,ys,rfl,hb,tb⟩:=zau.mp h2
 have la:=ta.length
 have lb:=tb.length
 cases xs with
 | nil =>
   obtain rfl : ds = []:=List.eq_nil_of_length_eq_zero (by simpa using la.symm)
   exact .inr ⟨a,b,ys,rfl,rfl,ha,hb,q _ H (zah.refl _) h2⟩
 | cons x xs =>
   refine .inl ⟨a,b,x :: xs,ys,rfl,rfl,ha,hb,by simp,Nat.le_of_lt (zd0 (by lia)),fun hy=>?_,fun hy p hp=>?_⟩
   . obtain rfl : es = []:=List.eq_nil_of_length_eq_zero (by rw [hy] at lb; simpa using lb.symm)
     exact q _ H (zah.refl _) (by rw [List.append_nil]; exact h1)
   . exact q _ _ (zah.upd hp) (zau.mpr ⟨p,_,rfl,.of zas,(IsAll.same (zah.upd hp) _ _ ta).append (IsAll.same (zah.upd hp) _ _ tb)⟩)
end L2
set_option Elab.async false
set_option linter.all false
set_option maxRecDepth 100000
namespace L2
open PySem PySem.Spec PyProof.Rows GM
section
variable {prog : Program} {w : World} {A : Around} {E : Value -> Shared -> Prop} {s : Shared}
end
section
variable {K : PySem.W.Frag} {ta : TA} {g : TG} {tb : TS} {D : zcJ} {σ : St} {H : Hp} {a : Addr} {xs : List V}
end
end L2
set_option Elab.async false
set_option linter.all false
set_option maxRecDepth 100000
namespace L2
open PySem PySem.Spec PyProof.Rows GM
structure ZA (z TI TO i1 i2 : Addr) (f1 f2 : List Addr) : Prop where
 a1 : TI ≠ z
 a2 : TO ≠ z
 a3 : i1 ≠ z
 a4 : i2 ≠ z
 a5 : TI ≠ TO
 a6 : TI ≠ i1
 a7 : TI ≠ i2
 a8 : TO ≠ i1
 a9 : TO ≠ i2
 b0 : i1 ≠ i2
 b1 : z ∉ f1
 b2 : z ∉ f2
 b3 : TO ∉ f1
 b4 : TO ∉ f2
 b5 : i1 ∉ f2
 b6 : i2 ∉ f1
section
variable {prog : Program} {w : World} {A : Around} {E : Value -> Shared -> Prop} {s : Shared} {z TI TO i1 i2 : Addr} {f1 f2 : List Addr} {n1 n2 k : Nat} {P1 P2 : Nat -> Value -> Prop} {S1 S2 : Nat -> Heap -> Prop} {a b : Value}
end
abbrev zT1 (h : Heap) (a : Addr) : Heap:=h.push { cls:=.type "tuple_iterator",data:=.fields #[.ref a,.int 0 0] }
abbrev zT2 (h : Heap) (a b : Addr) : Heap:=(zT1 h a).push { cls:=.type "tuple_iterator",data:=.fields #[.ref b,.int 0 0] }
abbrev zT3 (h : Heap) (a b : Addr) : Heap:=(zT2 h a b).push { cls:=.type "tuple",data:=.seq #[.ref h.objs.size,.ref (zT1 h a).objs.size] }
abbrev zT4 (h : Heap) (a b : Addr) : Heap:=(zT3 h a b).push { cls:=.type "tuple",data:=.seq #[.none,.none] }
abbrev zT5 (h : Heap) (a b : Addr) : Heap:=(zT4 h a b).push { cls:=.type "zip",data:=.fields #[.none,.bool false,.bool false,.ref (zT2 h a b).objs.size,.ref (zT3 h a b).objs.size] }
section
variable {prog : Program} {w : World} {A : Around} {E : Value -> Shared -> Prop} {s : Shared}
end
section
variable {t u : Bool} {K : PySem.W.Frag} {ta : TA} {g : TG} {tb : TS} {tt : TT} {te : TE} {D : zcJ} {σ : L2.St} {H : Hp} {Q : VK} {a b : Addr} {xs ys : List V} {src : List (Option Nat)} {o0 o0' : Option V} {tl : L2.St}
end
end L2
set_option Elab.async false
set_option linter.all false
set_option maxRecDepth 100000
namespace L2
open PySem PySem.Spec PyProof.Rows GM
end L2
set_option Elab.async false
set_option linter.all false
set_option maxRecDepth 100000
namespace L2
open PySem PySem.Spec PyProof.Rows GM
def zfC (K : PySem.W.Frag) : List V -> Hp -> VK -> Prop:=fun xs H Q=>∃ (p : Addr) (bs : List Bool),xs = [.ref p] /\ SqL K H p (bs.map V.bl) /\ Q (.bl (bs.all id)) H
theorem zfb : bootBuiltins "all" = some (.builtin "all"):=by decide +kernel
theorem zkK {bs : List Bool} : ∀ {us : List Value},zap (bs.map V.bl) us -> us = bs.map Value.bool:=by
 induction bs with
 | nil=>intro us r; rw [List.map_nil] at r; cases r; rfl
 | cons b bs ih =>
   intro us r
   rw [List.map_cons] at r
   cases r with
   | cons r1 r2 =>
     cases r1
     rw [List.map_cons,ih r2]
theorem zi2 (bs : List Bool) : ((List.range bs.length).all fun i=>(bs[i]?).getD true) = bs.all id:=by
 rw [Bool.eq_iff_iff,List.all_eq_true,List.all_eq_true]
 constructor
 . intro h b hb
   obtain ⟨i,hi,rfl⟩:=List.getElem_of_mem hb
   have:=h i (List.mem_range.mpr hi)
   rw [List.getElem?_eq_getElem hi] at this
   exact this
 . intro h i hi
   rw [List.mem_range] at hi
   rw [List.getElem?_eq_getElem hi]
   exact h _ (List.getElem_mem hi)
open PyProof.V PySem.Calls in
theorem zcc {X : Cx} (hc : X.calm = true) : zaj X (.builtin "all") (zfC X.K):=by
 intro pins s σ H xs us Q I r h
 obtain ⟨p,bs,rfl,hq,q⟩:=h
 obtain ⟨u,rfl,rx⟩:=zc1 r
 cases rx
 obtain ⟨its,r',pl,hz⟩:=I.list hq
 have hi : its = bs.map Value.bool:=zkK r'
 have hl : s.heap.IsList p its.toArray:=pl.isList
 have hlt : p < s.heap.objs.size:=by obtain ⟨_,e,_⟩:=hl; exact Heap.lt_size e
 refine call_all_walk (wpAny_pyIter_list hl ?_)
 refine ⟨s.heap.objs.size,[s.heap.objs.size,p],[s.heap.objs.size],its.toArray.size,_,_,fun i=>(bs[i]?).getD true,rfl,Walks.list (A:=X.A.in1) (I.ok.hd hc) _ p (Nat.ne_of_lt hlt) its.toArray,
   ⟨⟨_,Heap.get?_push_size _ rfl,rfl,rfl⟩,hl.push _⟩,fun i v s' Q' E' hP hQ=>?_,fun h' tk hk=>?_⟩
 . have hP : its.toArray[i]? = some v:=hP
   rw [hi] at hP
   simp only [List.getElem?_toArray,List.getElem?_map,Option.map_eq_some_iff] at hP
   obtain ⟨b,e,rfl⟩:=hP
   simp only [e,Option.getD_some] at hQ
   exact wpAny_truthy_bool hQ
 . have e : ((List.range its.toArray.size).all fun i=>(bs[i]?).getD true) = bs.all id:=by
     rw [List.size_toArray,hi,List.length_map]; exact zi2 bs
   rw [e]
   exact ⟨.bl (bs.all id),H,I.kept (t':=tk) (fun b x e=>hk b x (fun hm=>by rw [List.mem_singleton.mp hm] at e; exact Nat.lt_irrefl _ (Heap.lt_size e)) (Heap.get?_push_of_some _ e)),rfl,q⟩
theorem zdZ {K : PySem.W.Frag} {H : Hp} {Q : VK} {p : Addr} {bs : List Bool} (h : SqL K H p (bs.map V.bl)) (q : Q (.bl (bs.all id)) H) : zfC K [.ref p] H Q:=⟨p,bs,rfl,h,q⟩
section
variable {t u : Bool} {K : PySem.W.Frag} {g : TG} {tt : TT} {te : TE} {σ : L2.St} {H : Hp} {Q : VK} {a b : Addr} {xs ys : List V} {src : List (Option Nat)} {o0 o0' : Option V} {tl : L2.St}
end
end L2
set_option Elab.async false
set_option linter.all false
set_option maxRecDepth 100000
namespace L2
open PySem PySem.Spec PyProof.Rows GM
section
variable {X : Cx} {tg : Expr}
end
section
variable {K : PySem.W.Frag} {g : TG} {tt : TT} {te ta tb' tc : TE} {tb : TS} {D : zcJ} {src : List (Option Nat)} {σ : St} {H : Hp} {Q : VK} {r r' : R2}
theorem zk8 (h : ta σ H fun x H1=>tb' σ H1 fun y H2=>r x y H2 fun z H3=>∃ k,z = .bl k /\ (if k = true then tc σ H3 fun w' H4=>r' y w' H4 Q else Q (.bl false) H3)) : ziX r r' ta tb' tc σ H Q:=h
theorem znW {b : Bool} {P : Bool -> Prop} (h : P b) : ∃ k,V.bl b = .bl k /\ P k:=⟨b,rfl,h⟩
end
theorem zkX {K : PySem.W.Frag} {H : Hp} {us : List V} {ds : List PyData} {i : Nat} {x : V} (t : IsAll K H us ds) (h : us[i]? = some x) : i < ds.length /\ Is K H x (ds.getD i .none):=by
 have hl:=t.length
 have hi : i < ds.length:=by
   rcases Nat.lt_or_ge i ds.length with z | z
   . exact z
   . rw [List.getElem?_eq_none (by lia)] at h; cases h
 obtain ⟨y,e,k⟩:=t.get (i:=i) (d:=ds.getD i .none) (by rw [List.getD_eq_getElem?_getD,List.getElem?_eq_getElem hi]; rfl)
 rw [e] at h
 cases h
 exact ⟨hi,k⟩
end L2
set_option Elab.async false
set_option linter.all false
set_option maxRecDepth 100000
namespace L2
open PySem PySem.Spec PyProof.Rows GM
section
variable {K : PySem.W.Frag} {ta : TA} {g : TG} {tb : TS} {tt c : TT} {te : TE} {D : zcJ} {σ : St} {H : Hp} {Q : VK} {a : Addr} {xs : List V} {src : List (Option Nat)} {o0 o0' : Option V} {tl : St}
def zl3 (K : PySem.W.Frag) (x : V) (H : Hp) (Q : Bool -> Hp -> Prop) : Prop:=∃ k,zoa K x H k /\ Q k H
def zpF (K : PySem.W.Frag) (te : TE) : TT:=fun σ H Q=>te σ H fun x H'=>zl3 K x H' Q
theorem zks {X : Cx} {e : Expr} {t : TE} (h : PE X e t) (he : ∀ whole,isTrue e X.env whole = (do let v <- whole; standAt e.pos; holding [v] (truthy v)):=by intro _; rfl) : PT X e (zpF X.K t):=zla h he
theorem zoG {QB : Bool -> Hp -> Prop} (h : te σ H fun x H'=>zl3 K x H' QB) : zpF K te σ H QB:=h
theorem zme {QB : Bool -> Hp -> Prop} {v : V} {ds : List PyData} (h : Is K H v (.list ds)) (q : QB (!ds.isEmpty) H) : zl3 K v H QB:=by
 obtain ⟨p,us,rfl,hs,t⟩:=zaU.mp h
 have hl:=t.length
 refine ⟨_,.inl ⟨us,hs,rfl⟩,?_⟩
 have e : us.isEmpty = ds.isEmpty:=by
   cases us <;> cases ds <;> simp_all
 rw [e]; exact q
end
section
variable {K : PySem.W.Frag} {H H' : Hp} {Q : VK} {v : V} {p : Addr} {l : List Nat} {w : Nat}
theorem zmP {ds : List PyData} {d : PyData} {j : Nat} (h : Is K H v (.list ds)) (e : ds[j]? = some d) (q : ∀ x,Is K H x d -> Q x H) : rIx K v (.int (j : Int)) H Q:=by
 obtain ⟨a,xs,rfl,h,t⟩:=zaU.mp h
 obtain ⟨x,e1,hx⟩:=t.get e
 exact zfc h (zdV e1) (q x hx)
end
theorem zdx : ∀ ds : List PyData,(∀ d ∈ ds,PyData.eqv d d = true) -> PyData.eqvAll ds ds = true
 | [],_=>by simp [PyData.eqvAll]
 | d :: ds,h=>by rw [PyData.eqvAll,h d (List.mem_cons_self ..),zdx ds fun e he=>h e (List.mem_cons_of_mem _ he)]; rfl
theorem zoH {ds : List PyData} (h : ∀ d ∈ ds,PyData.eqv d d = true) : PyData.eqv (.tuple ds) (.tuple ds) = true:=by rw [PyData.eqv]; exact zdx ds h
theorem znU {ds : List PyData} (h : ∀ d ∈ ds,PyData.eqv d d = true) : PyData.eqv (.list ds) (.list ds) = true:=by rw [PyData.eqv]; exact zdx ds h
theorem zpJ (x : Rat) : PyData.eqv (N x) (N x) = true:=by rw [zna]; exact decide_eq_true rfl
theorem zoZ (xs : List Rat) : PyData.eqv (TN xs) (TN xs) = true:=by rw [zoq]; exact decide_eq_true rfl
def Sh (n : Nat) (d : PyData) : Prop:=d.canLay0 = true /\ d.depth <= n
theorem zjf {n : Nat} : ∀ ds : List PyData,(∀ d ∈ ds,Sh n d) -> PyData.canLayAll0 ds = true /\ PyData.depthAll ds <= n
 | [],_=>by simp [PyData.canLayAll0,PyData.depthAll]
 | d :: ds,h=>by
   have h1:=h d (List.mem_cons_self ..)
   have h2:=zjf ds fun e he=>h e (List.mem_cons_of_mem _ he)
   rw [PyData.canLayAll0,PyData.depthAll,h1.1,h2.1]
   exact ⟨rfl,by have:=h1.2; have:=h2.2; lia⟩
theorem zlT {n : Nat} {ds : List PyData} (h : ∀ d ∈ ds,Sh n d) : Sh (n + 1) (.tuple ds):=by
 have:=zjf ds h
 unfold Sh
 rw [PyData.canLay0,PyData.depth]
 exact ⟨this.1,by have:=this.2; lia⟩
theorem zlJ {n : Nat} {ds : List PyData} (h : ∀ d ∈ ds,Sh n d) : Sh (n + 1) (.list ds):=by
 have:=zjf ds h
 unfold Sh
 rw [PyData.canLay0,PyData.depth]
 exact ⟨this.1,by have:=this.2; lia⟩
theorem Sh.mono {m n : Nat} {d : PyData} (h : Sh m d) (e : m <= n) : Sh n d:=⟨h.1,Nat.le_trans h.2 e⟩
theorem Sh.shaped {n : Nat} {d : PyData} (h : Sh n d) (e : n <= 64) : PySem.SeqAt.shaped d = true:=by
 unfold PySem.SeqAt.shaped
 rw [h.1,Bool.true_and]
 exact decide_eq_true (Nat.le_trans h.2 e)
theorem zoF (i : Int) : Sh 1 (.int i):=⟨by simp [PyData.canLay0],by simp [PyData.depth]⟩
theorem zmB {K : PySem.W.Frag} {H : Hp} {Q : VK} {v w : V} {d : PyData} {n : Nat} (h : Is K H v d) (k : Is K H w d) (s : Sh n d) (e : n <= 64) (r : PyData.eqv d d = true) (q : Q (.bl false) H) : zeA K v w H Q:=zlh h k (s.shaped e) (s.shaped e) (by rw [r]; exact q)
theorem zg9 {K : PySem.W.Frag} {H : Hp} : ∀ {ds : List PyData} {vs : List V},vs.length = ds.length -> (∀ i x,vs[i]? = some x -> Is K H x (ds.getD i .none)) -> IsAll K H vs ds
 | [],[],_,_=>.nil
 | [],_ :: _,h,_=>by simp at h
 | _ :: _,[],h,_=>by simp at h
 | d :: ds,v :: vs,h,e=>.cons (e 0 v rfl) (zg9 (by simpa using h) fun i x hx=>e (i + 1) x hx)
end L2
set_option Elab.async false
set_option linter.all false
set_option maxRecDepth 100000
namespace L2
open PySem PySem.Spec PyProof.Rows GM
section
variable {K : PySem.W.Frag} {H H' : Hp} {Q : VK} {D : zcJ} {σ : St} {td ty tv : TE} {a : Addr} {kvs : List (Key × V)} {k : Int} {v : V}
end
theorem zjk {ts : List Int} {i : Nat} (h : i < ts.length) : ts.getD i 0 ∈ ts:=GM.getD_mem h
end L2
set_option Elab.async false
set_option linter.all false
set_option maxRecDepth 100000
namespace L2
open PySem PySem.Spec PyProof.Rows GM
section
variable {K : PySem.W.Frag} {ta : TA} {g : TG} {tt : TT} {te : TE} {σ : St} {H : Hp} {Q : VK} {a : Addr} {xs : List V} {src : List (Option Nat)}
end
def zl5 (K : PySem.W.Frag) : R2:=fun x y H Q=>∃ d ds,Is K H x d /\ Is K H y (.tuple ds) /\ Sh 60 d /\ PyData.canLay0 (.tuple ds) = true /\ Q (.bl (ds.any fun e=>PyData.eqv e d)) H
theorem zlB {X : Cx} (hu : X.A.units + 64 < cLine) : OpR X (compareOp .In) (zl5 X.K):=by
 intro pins s σ H x y v u Q I rx ry h
 obtain ⟨d,ds,hd,he,sd,se,q⟩:=h
 obtain ⟨as,h1⟩:=I.reads d x v sd.1 hd rx
 obtain ⟨bs,h2⟩:=I.reads (.tuple ds) y u se he ry
 have sd2:=sd.2
 have hm:=Nat.min_le_right (PyData.depthAll ds) d.depth
 exact SeqAt.in_tuple_reads h2 h1 (by rw [PyData.canLay0] at se; exact se) sd.1 (by lia) ⟨.bl _,H,I,rfl,q⟩
end L2
set_option Elab.async false
set_option linter.all false
set_option maxRecDepth 100000
namespace L2
open PySem PySem.Spec PyProof.Rows GM
structure Rp (n m : Nat) (d : PyData) : Prop where
 sh : Sh n d
 si : d.showable = true
 is : d.intsShort 13 = true
 wt : d.weight <= m
theorem zjY {n : Nat} (h : n < 1000000) : n.log2 <= 20:=by
 by_cases h0 : n = 0
 . rw [h0]; decide
 . have := (Nat.log2_lt h0 (k := 20)).mpr (by have e : (2 : Nat) ^ 20 = 1048576 := by decide
                                              omega)
   omega
def zn0 : PyData -> Bool
 | .tuple _=>true
 | .list _=>true
 | _=>false
theorem zfS : bootBuiltins "repr" = some (.builtin "repr"):=by decide +kernel
theorem zlY {K : PySem.W.Frag} {H : Hp} {v : V} {d : PyData} (h : Is K H v d) (s : zn0 d = true) : ∃ a,v = .ref a:=by
 cases d with
 | tuple ds=>obtain ⟨a,_,e,_⟩:=zau.mp h; exact ⟨a,e⟩
 | list ds=>obtain ⟨a,_,e,_⟩:=zaU.mp h; exact ⟨a,e⟩
 | _=>cases s
section
variable {K : PySem.W.Frag} {H : Hp} {Q : VK} {v : V} {d : PyData} {x y : Str}
theorem zoU (q : Q (.bl (!decide (V.str x = V.str y))) H) : rNe (.str x) (.str y) H Q:=⟨rfl,q⟩
theorem zmx (q : Q (.bl false) H) : rNe (.str x) (.str x) H Q:=zoU (by rw [decide_eq_true rfl]; exact q)
end
end L2
set_option Elab.async false
set_option linter.all false
set_option maxRecDepth 100000
namespace L2
open PySem PySem.Spec PyProof.Rows GM
theorem zjI : ∀ {ts : List Str} {us : List Value},zap (ts.map V.str) us -> ∃ l : List (Str × Tok),us = strValues l /\ l.map (·.1) = ts
 | [],us,h=>by
   cases h
   exact ⟨[],rfl,rfl⟩
 | t :: ts,us,h=>by
   cases h with
   | cons r rr =>
     obtain ⟨tk,rfl⟩:=r
     obtain ⟨l,e1,e2⟩:=zjI rr
     exact ⟨(t,tk) :: l,by rw [e1]; rfl,by rw [List.map_cons,e2]⟩
section
variable {K : PySem.W.Frag} {H H' : Hp} {Q : VK} {D : zcJ} {σ : St} {g : TG} {tb : TS} {ta td ty : TE} {tA : TA} {v : V} {d : PyData} {a : Addr} {kvs : List (Key × V)} {x : Str} {i : Int} {xs : List V}
theorem zbz {R : Prop} (q : R) : tyV K "str" (.str x) H /\ R:=⟨rfl,q⟩
end
end L2
set_option Elab.async false
set_option linter.all false
set_option maxRecDepth 100000
namespace L2
open PySem PySem.Spec PyProof.Rows GM
def zfK (ds : List Nat) : Nat:=ds.foldl (fun acc d=>acc * 10 + d) 0
def zar (n : Nat) : List Nat:=if h : n < 10 then [n] else zar (n / 10) ++ [n % 10]
termination_by n
decreasing_by omega
theorem zbM {n : Nat} (h : n < 10) : zar n = [n]:=by rw [zar,dif_pos h]
theorem zdp {n : Nat} (h : 10 <= n) : zar n = zar (n / 10) ++ [n % 10]:=by rw [zar,dif_neg (by omega)]
theorem zeb : ∀ d,d < 10 -> (Nat.digitChar d).toNat = 48 + d:=by decide
theorem zgG (n : Nat) : (Nat.toDigits 10 n).map Char.toNat = (zar n).map (48 + ·):=by
 induction n using Nat.strongRecOn with
 | ind n ih =>
   by_cases h : n < 10
   . rw [Nat.toDigits_of_lt_base h,zbM h,List.map_cons,List.map_nil,zeb n h]
     rfl
   . rw [Nat.toDigits_of_base_le (by decide) (by omega),zdp (by omega),List.map_append,List.map_append,ih (n / 10) (by omega),List.map_cons,List.map_nil,zeb _ (by omega)]
     rfl
theorem zde (n : Nat) : zar n ≠ []:=by
 by_cases h : n < 10
 . rw [zbM h]; simp
 . rw [zdp (by omega)]; simp
theorem zbH (n : Nat) : ∀ d ∈ zar n,d < 10:=by
 induction n using Nat.strongRecOn with
 | ind n ih =>
   intro d hd
   by_cases h : n < 10
   . rw [zbM h,List.mem_singleton] at hd; omega
   . rw [zdp (by omega),List.mem_append,List.mem_singleton] at hd
     rcases hd with z | z
     . exact ih _ (by omega) d z
     . omega
theorem zeS (n : Nat) : zfK (zar n) = n:=by
 induction n using Nat.strongRecOn with
 | ind n ih =>
   by_cases h : n < 10
   . rw [zbM h]; simp [zfK]
   . rw [zdp (by omega)]
     unfold zfK
     rw [List.foldl_append]
     have:=ih (n / 10) (by omega)
     unfold zfK at this
     rw [this]
     show n / 10 * 10 + n % 10 = n
     omega
theorem zlk {l m : List Nat} (h : l ≠ []) : (l ++ m).head? = l.head?:=by
 cases l with
 | nil=>exact absurd rfl h
 | cons a l=>rfl
theorem zhz {α β : Type} {f : α -> β} (hf : ∀ a b,f a = f b -> a = b) : ∀ {l m : List α},l.map f = m.map f -> l = m
 | [],[],_=>rfl
 | [],_ :: _,h=>by simp at h
 | _ :: _,[],h=>by simp at h
 | a :: l,b :: m,h=>by
   rw [List.map_cons,List.map_cons] at h
   rw [hf _ _ (List.cons.inj h).1,zhz hf (List.cons.inj h).2]
theorem zgX (n : Nat) : (zar n).head? = some 0 -> n = 0:=by
 induction n using Nat.strongRecOn with
 | ind n ih =>
   intro hz
   by_cases h : n < 10
   . rw [zbM h] at hz
     simpa using hz
   . rw [zdp (by omega),zlk (zde _)] at hz
     have:=ih (n / 10) (by omega) hz
     omega
theorem zgY (n : Nat) (h : (zar n).head? = some 0) : (zar n).length = 1:=by
 rw [zgX n h,zbM (by decide)]; rfl
theorem zgc {n k : Nat} (hk : 1 <= k) (h : n < 10 ^ k) : (zar n).length <= k:=by
 induction k generalizing n with
 | zero=>omega
 | succ k ih =>
   by_cases z : n < 10
   . rw [zbM z]; simp
   . rw [zdp (by omega),List.length_append,List.length_singleton]
     have hk1 : 1 <= k:=by
       rcases Nat.eq_zero_or_pos k with e | e
       . subst e; simp at h; omega
       . exact e
     have:=ih hk1 (n:=n / 10) (by rw [Nat.pow_succ] at h; omega)
     omega
def zax (n : Nat) : Str:=⟨((zar n).map (48 + ·)).toArray⟩
theorem zhP (n : Nat) : Str.ofString (toString (n : Int)) = zax n:=by
 have e : toString (n : Int) = toString n:=rfl
 rw [e,Str.ofString_eq_toList,Nat.toString_eq_ofList_toDigits]
 unfold zax
 rw [String.toList_ofList,zgG]
theorem zln {m n : Nat} (h : zax m = zax n) : m = n:=by
 have e : (zar m).map (48 + ·) = (zar n).map (48 + ·):=by
   have:=congrArg (fun s : Str=>s.cps.toList) h
   simpa [zax] using this
 have : zar m = zar n:=zhz (fun a b z=>by simpa using z) e
 rw [<- zeS m,<- zeS n,this]
def zcQ (c : Nat) : List (List Nat) -> List Nat
 | []=>[]
 | [x]=>x
 | x :: y :: r=>x ++ c :: zcQ c (y :: r)
theorem zeO (c : Nat) : ∀ ts : List Str,(Str.join ⟨#[c]⟩ ts).cps.toList = zcQ c (ts.map fun t=>t.cps.toList)
 | []=>rfl
 | [x]=>rfl
 | x :: y :: r=>by
   have ih:=zeO c (y :: r)
   show (x ++ ⟨#[c]⟩ ++ Str.join ⟨#[c]⟩ (y :: r)).cps.toList = _
   show (x.cps ++ #[c] ++ (Str.join ⟨#[c]⟩ (y :: r)).cps).toList = _
   rw [Array.toList_append,Array.toList_append,ih]
   simp [zcQ]
theorem zle {c : Nat} : ∀ {a b x y : List Nat},c ∉ a -> c ∉ b -> a ++ c :: x = b ++ c :: y -> a = b /\ x = y
 | [],[],x,y,_,_,h=>⟨rfl,by simpa using h⟩
 | [],b :: bs,x,y,_,hb,h=>by
   have : c = b:=by simpa using (List.cons.inj h).1
   exact absurd (by rw [this]; simp) hb
 | a :: as,[],x,y,ha,_,h=>by
   have : a = c:=by simpa using (List.cons.inj h).1
   exact absurd (by rw [this]; simp) ha
 | a :: as,b :: bs,x,y,ha,hb,h=>by
   have h1:=(List.cons.inj h).1
   have h2 : as ++ c :: x = bs ++ c :: y:=(List.cons.inj h).2
   have:=zle (fun z=>ha (List.mem_cons_of_mem _ z)) (fun z=>hb (List.mem_cons_of_mem _ z)) h2
   exact ⟨by rw [h1,this.1],this.2⟩
theorem zg1 {c : Nat} : ∀ {xs ys : List (List Nat)},xs ≠ [] -> ys ≠ [] -> (∀ x ∈ xs,c ∉ x) -> (∀ y ∈ ys,c ∉ y) -> zcQ c xs = zcQ c ys -> xs = ys
 | [],_,h,_,_,_,_=>absurd rfl h
 | _,[],_,h,_,_,_=>absurd rfl h
 | [x],[y],_,_,_,_,h=>by rw [show x = y from h]
 | [x],y :: z :: r,_,_,hx,_,h=>by
   have h : x = y ++ c :: zcQ c (z :: r):=h
   exact absurd (by rw [h]; simp) (hx x (by simp))
 | x :: z :: r,[y],_,_,_,hy,h=>by
   have h : x ++ c :: zcQ c (z :: r) = y:=h
   exact absurd (by rw [<- h]; simp) (hy y (by simp))
 | x :: z :: r,y :: w :: s,_,_,hx,hy,h=>by
   have h : x ++ c :: zcQ c (z :: r) = y ++ c :: zcQ c (w :: s):=h
   obtain ⟨h1,h2⟩:=zle (hx x (by simp)) (hy y (by simp)) h
   rw [h1,zg1 (by simp) (by simp) (fun v hv=>hx v (List.mem_cons_of_mem _ hv)) (fun v hv=>hy v (List.mem_cons_of_mem _ hv)) h2]
theorem zlG (x y : Str) : Txt.split x y ≠ []:=by
 unfold Txt.split
 split
 . simp
 . split
   . simp
   . rw [PySem.StrLaws.partsBetween_eq]
     obtain ⟨p,r,e⟩:=PySem.StrLaws.partsFrom_ne x y.length 0 (Builtin.Str.occurrences x y 0 x.length (x.length + 1))
     rw [e]; simp
theorem zeo {c : Nat} {ts : List Str} (ne : ts ≠ []) (h : ∀ t ∈ ts,c ∉ t.cps.toList) : Txt.split (Str.join ⟨#[c]⟩ ts) ⟨#[c]⟩ = ts:=by
 have e1:=PySem.StrLaws.join_split (Str.join ⟨#[c]⟩ ts) ⟨#[c]⟩
 have e2:=congrArg (fun s : Str=>s.cps.toList) e1
 simp only [zeO] at e2
 have e3:=zg1 (by simpa using zlG _ _) (by simpa using ne) (fun x hx=>by
   obtain ⟨t,ht,rfl⟩:=List.mem_map.mp hx
   exact PySem.StrLaws.split_free _ c t ht) (fun x hx=>by
   obtain ⟨t,ht,rfl⟩:=List.mem_map.mp hx
   exact h t ht) e2
 exact zhz (fun a b z=>Str.ext' (Array.toList_inj.mp z)) e3
set_option maxHeartbeats 2000000
theorem ze3 : typeLookup (.type "str") "__int__" = pure none:=by rw [typeLookup_type,builtinLookup_eq_fast]; kernel_rfl
theorem zdz : typeLookup (.type "str") "__index__" = pure none:=by rw [typeLookup_type,builtinLookup_eq_fast]; kernel_rfl
theorem zdG : typeLookup (.type "str") "__trunc__" = pure none:=by rw [typeLookup_type,builtinLookup_eq_fast]; kernel_rfl
theorem zcF {α : Type} {p : α -> Bool} : ∀ {l : List α},(∀ c ∈ l,p c = true) -> l.takeWhile p = l
 | [],_=>rfl
 | c :: l,h=>by rw [List.takeWhile_cons,if_pos (h c (List.mem_cons_self ..)),zcF fun d hd=>h d (List.mem_cons_of_mem _ hd)]
theorem zix {f : Array Nat × Bool -> Nat -> Option (Array Nat × Bool)} (hf : ∀ a b d,d < 10 -> f (a,b) (48 + d) = some (a.push d,true)) : ∀ (ds : List Nat) (a : Array Nat) (b : Bool),(∀ d ∈ ds,d < 10) -> List.foldlM f (a,b) (ds.map (48 + ·)) = some (a ++ ds.toArray,b || !ds.isEmpty)
 | [],a,b,_=>by simp
 | d :: ds,a,b,h=>by
   rw [List.map_cons,List.foldlM_cons,hf a b d (h d (List.mem_cons_self ..))]
   show List.foldlM f (a.push d,true) (ds.map (48 + ·)) = _
   rw [zix hf ds _ _ fun e he=>h e (List.mem_cons_of_mem _ he)]
   simp
theorem zkW {p : Nat -> Bool} (hp : ∀ d,d < 10 -> p (48 + d) = false) (ds : List Nat) (h : ∀ d ∈ ds,d < 10) (pre : List Nat) (ne : ds ≠ []) : ((pre ++ ds.map (48 + ·)).reverse.dropWhile p).reverse = pre ++ ds.map (48 + ·):=by
 obtain ⟨l,d,rfl⟩ : ∃ l d,ds = l ++ [d]:=⟨ds.dropLast,ds.getLast ne,(List.dropLast_concat_getLast ne).symm⟩
 rw [List.map_append,List.map_cons,List.map_nil,<- List.append_assoc,List.reverse_append,List.reverse_singleton,List.singleton_append,List.dropWhile_cons,hp d (h d (by simp))]
 simp
theorem ziN : ∀ d,d < 10 -> (48 + d == 32 || decide (9 <= 48 + d) && decide (48 + d <= 13)) = false:=by decide
theorem zgA (x : Str) (u : Tok) (ds : List Nat) (ne : ds ≠ []) (hd : ∀ d ∈ ds,d < 10) (hlead : ds.head? = some 0 -> ds.length = 1) (hx : x.cps.toList = ds.map (48 + ·)) (hl : ds.length <= 640) :
   Meets (Builtin.«int.__new__» ⟨[.type "int",.str x u],[]⟩) (Made.int (zfK ds)).spec :=
 Meets.of_wp fun prog w A R s hs=>by
   have hasc : x.cps.all (· < 128) = true:=by
     rw [<- Array.all_toList,hx,List.all_eq_true]
     intro c hc
     obtain ⟨d,h1,rfl⟩:=List.mem_map.mp hc
     have:=hd d h1
     exact decide_eq_true (by omega)
   have h0 : ∀ c ∈ ds.map (48 + ·),(c != 0) = true:=fun c hc=>by
     obtain ⟨d,h1,rfl⟩:=List.mem_map.mp hc
     simp
   obtain ⟨hp,g,d,tk,os⟩:=s
   have f1:=F.conv_sub_int
   have f2:=F.madeHere_int
   have f3:=ze3
   have f4:=zdz
   have f5:=zdG
   iterate 48 (any_goals (first | assumption | wp_step))
   show wpAny _ _ (pure (some (if (x.cps.all fun x=>decide (x < 128)) = true then x.cps.toList else Unicode.numberText x.cps.toList))) _ _ _
   rw [if_pos hasc,hx]
   refine wpAny_pure ?_
   dsimp only
   k_delta "intFromText"
   have hseen : (ds.map (48 + ·)).takeWhile (fun c=>c != 0) = ds.map (48 + ·):=zcF h0
   dsimp only
   rw [hseen,if_pos (by rw [List.length_map]; exact hl)]
   refine wpAny_bind (wpAny_pure ?_)
   show wpAny _ _ _ _ _ _
   k_delta "readNumeral"
   k_delta "isBlank"
   k_delta "prefixBase?"
   k_delta "numeralDigits?"
   k_delta "digitValue?"
   have hdw : List.dropWhile (fun c=>c == 32 || decide (9 <= c) && decide (c <= 13)) (ds.map (48 + ·)) = ds.map (48 + ·):=by
     cases ds with
     | nil=>rfl
     | cons d ds=>rw [List.map_cons,List.dropWhile_cons,ziN d (hd d (List.mem_cons_self ..))]; rfl
   rw [hdw]
   have hbr:=zkW (p:=fun c=>c == 32 || decide (9 <= c) && decide (c <= 13)) ziN ds hd [] ne
   rw [List.nil_append] at hbr
   cases ds with
   | nil=>exact absurd rfl ne
   | cons d0 za7 =>
     have hd0:=hd d0 (List.mem_cons_self ..)
     have hsz : ¬ ((#[] ++ (d0 :: za7).toArray).size > 6000):=by simp; simp at hl; omega
     have fin : wpAny (model prog w) A.in1 (mkInt ((zfK (d0 :: za7) : Nat) : Int)) (fun a s'=>wpAny (model prog w) A.in1 (ret a) (fun fin s'=>∃ v,fin = Fin.done (Flow.ret v) /\ R (Except.ok (Flow.ret v)) s') (fun e s'=>R (Except.error e) s') s') (fun e s'=>R (Except.error e) s') { heap:=hp,gens:=g,drawn:=d,toks:=tk,os:=os }:=by
       repeat (any_goals (first | assumption | wp_step))
       exact ⟨_,rfl,hs⟩
     have hval : Array.foldl (fun acc d=>acc * 10 + d) 0 (#[] ++ (d0 :: za7).toArray) = zfK (d0 :: za7):=by simp [zfK]
     have hbr2 : ((List.dropWhile (fun c=>c == 32 || decide (9 <= c) && decide (c <= 13)) ((48 + d0) :: za7.map (48 + ·)).reverse).reverse) = (d0 :: za7).map (48 + ·):=hbr
     clear h0 hx hasc hseen hdw hs f1 f2 f3 f4 f5 hbr
     rw [List.map_cons]
     by_cases hz : d0 = 0
     . have hr : za7 = []:=by
         have:=hlead (by rw [hz]; rfl)
         cases za7 with
         | nil=>rfl
         | cons _ _=>simp at this
       subst hr hz
       dsimp only [Nat.reduceAdd] at hbr2 ⊢
       simp only [beq_iff_eq,Nat.reduceEqDiff,Bool.or_self,Bool.false_eq_true,if_false,ite_false,List.map_nil] at hbr2 ⊢
       rw [hbr2,zix ?hf [0] #[] false hd]
       case hf =>
         intro a b d h
         rcases (show d = 0 \/ d = 1 \/ d = 2 \/ d = 3 \/ d = 4 \/ d = 5 \/ d = 6 \/ d = 7 \/ d = 8 \/ d = 9 by omega) with rfl | rfl | rfl | rfl | rfl | rfl | rfl | rfl | rfl | rfl <;> rfl
       simp only [Option.bind_eq_bind,Option.bind_some,List.isEmpty_cons,Bool.not_false,Bool.or_true,if_true,if_pos,bne_self_eq_false,Bool.and_false,Bool.false_and,Bool.false_eq_true,if_false,decide_eq_false hsz,Bool.and_false]
       rw [hval]
       exact fin
     . rcases (show d0 = 1 \/ d0 = 2 \/ d0 = 3 \/ d0 = 4 \/ d0 = 5 \/ d0 = 6 \/ d0 = 7 \/ d0 = 8 \/ d0 = 9 by omega) with rfl | rfl | rfl | rfl | rfl | rfl | rfl | rfl | rfl
       all_goals
         dsimp only [Nat.reduceAdd] at hbr2 ⊢
         simp only [beq_iff_eq,Nat.reduceEqDiff,Bool.or_self,Bool.false_eq_true,if_false,ite_false]
         rw [hbr2,zix ?hf _ #[] false hd]
         case hf =>
           intro a b d h
           rcases (show d = 0 \/ d = 1 \/ d = 2 \/ d = 3 \/ d = 4 \/ d = 5 \/ d = 6 \/ d = 7 \/ d = 8 \/ d = 9 by omega) with rfl | rfl | rfl | rfl | rfl | rfl | rfl | rfl | rfl | rfl <;> rfl
         simp only [Option.bind_eq_bind,Option.bind_some,List.isEmpty_cons,Bool.not_false,Bool.or_true,if_true,if_pos,bne_self_eq_false,Bool.and_false,Bool.false_and,Bool.false_eq_true,if_false,decide_eq_false hsz,Bool.and_false]
         rw [hval]
         exact fin
set_option maxHeartbeats 200000
theorem zlj {prog : Program} {w : World} {A : Around} {E : Value -> Shared -> Prop} {s : Shared} {x y : Str} {t u : Tok} {Q : Value -> Shared -> Prop} (hy : (y.length == 0) = false)
   (hq : ∀ (l : List (Str × Tok)) (h' : Heap) (k c : Nat),l.map (·.1) = Txt.split x y -> (∀ b o,s.heap.get? b = some o -> h'.get? b = some o) -> h'.get? s.heap.objs.size = some { cls:=.type "list",dict:=none,data:=.seq (strValues l).toArray c,slots:=#[] } -> Q (.ref s.heap.objs.size) { s with heap:=h',toks:=k })
   (hsz : x.length <= sizeLine) (hsz2 : (Txt.split x y).length <= sizeLine) :
   wpAny (model prog w) A (call (.builtin "str.split") [.str x t,.str y u]) Q E s:=by
 cases h1 : (decide (x.length < y.length) || decide (Builtin.Str.strKind x < Builtin.Str.strKind y))
 . cases hf : (Builtin.Str.occurrences x y 0 x.length (x.length + 1)).isEmpty
   . refine call_meets F.slot_str_split (typeIs_str _ _ _) F.entry_str_split (F.args_str_split_2 _ _) (meets_str_split_sep x y t u h1 hy hf hsz (by unfold Txt.split at hsz2; rw [if_neg (ne_true_of_eq_false h1),if_neg (ne_true_of_eq_false hf)] at hsz2; exact hsz2)) ?_
     show wants Q E _ { s with toks:=_,heap:=s.heap.push { cls:=.type "list",data:=.seq (strsFrom s.toks (Builtin.Str.partsBetween x (Builtin.Str.occurrences x y 0 x.length (x.length + 1)) y.length)).toArray } }
     rw [strsFrom_eq]
     exact hq (numbered s.toks _) _ _ _ ((numbered_texts _ _).trans ((if_neg (ne_true_of_eq_false h1)).trans (if_neg (ne_true_of_eq_false hf))).symm) (fun b o e=>Heap.get?_push_of_some _ e) (Heap.get?_push_size _ rfl)
   . exact call_meets F.slot_str_split (typeIs_str _ _ _) F.entry_str_split (F.args_str_split_2 _ _) (meets_str_split_not_found x y t u h1 hy hf)
       (hq [(x,t)] _ s.toks _ ((if_neg (ne_true_of_eq_false h1)).trans (if_pos hf)).symm (fun b o e=>Heap.get?_push_of_some _ e) (Heap.get?_push_size _ rfl))
 . exact call_meets F.slot_str_split (typeIs_str _ _ _) F.entry_str_split (F.args_str_split_2 _ _) (meets_str_split_cannot_occur x y t u h1)
     (hq [(x,t)] _ s.toks _ (if_pos h1).symm (fun b o e=>Heap.get?_push_of_some _ e) (Heap.get?_push_size _ rfl))
theorem zgW : ∀ l : List (Str × Tok),zap ((l.map (·.1)).map V.str) (strValues l)
 | []=>.nil
 | (x,t) :: l=>.cons ⟨t,rfl⟩ (zgW l)
def zel : V -> List V -> Hp -> VK -> Prop:=fun x vs H Q=>∃ (s y : Str),x = .str s /\ vs = [.str y] /\ (y.length == 0) = false /\ s.length <= sizeLine /\ (Txt.split s y).length <= sizeLine /\ ∀ l,H l = none -> Q (.ref l) (upd H l (.lst ((Txt.split s y).map V.str)))
theorem zdt {X : Cx} : MtM X "str.split" zel:=by
 intro pins s σ H x vs v us Q I rx rv h
 obtain ⟨z,y,rfl,rfl,hy,h1,h2,q⟩:=h
 obtain ⟨t,rfl⟩:=rx
 obtain ⟨u,rfl,ru⟩:=rv.one
 obtain ⟨t2,rfl⟩:=ru
 refine zlj hy (fun l h' k c hl kp e=>?_) h1 h2
 refine ⟨.ref s.heap.objs.size,_,I.laid (t':=k) kp (Nat.le_refl _) (show zbE X.prog X.w _ h' _ (.lst ((Txt.split z y).map V.str)) from ⟨by rw [List.length_map]; exact h2,strValues l,c,?_,e⟩),rfl,q _ (I.hok.fresh (Nat.le_refl _))⟩
 rw [<- hl]
 exact zgW l
def zlP : List V -> Hp -> VK -> Prop:=fun xs H Q=>∃ n : Nat,xs = [.str (zax n)] /\ (zar n).length <= 640 /\ Q (.int (n : Int)) H
theorem zg0 {X : Cx} : zaj X (.type "int") zlP:=by
 intro pins s σ H xs us Q I r h
 obtain ⟨n,rfl,hl,q⟩:=h
 obtain ⟨u,rfl,rx⟩:=zc1 r
 obtain ⟨t,rfl⟩:=rx
 have g:=zgA (zax n) t (zar n) (zde n) (zbH n) (zgY n) (by simp [zax]) hl
 rw [zeS] at g
 exact call_int_1 g (show (Made.int (n : Int)).post _ s from ⟨rfl,⟨.int (n : Int),H,I.tok _,⟨_,rfl⟩,q⟩⟩)
def Its (x : Str) : It where
 go:=fun i _=>i < x.length
 yld:=fun i H v H'=>H' = H /\ ∃ c,x.cps[i]? = some c /\ v = .str ⟨#[c]⟩
 stop:=fun i _=>x.length <= i
theorem zlv {P : Program} {w : World} {K : PySem.W.Frag} {tg : Expr} (x : Str) (t : Tok) (it : Addr) : zh2 P w K tg (Its x) [it] it (fun i h=>h.IsStrIter it "str_ascii_iterator" x t i) where
 mem:=by simp
 obj:=fun i h st b hb=>by
   have e : b = it:=by simpa using hb
   subst e
   obtain ⟨o,e,c,d⟩:=st
   exact ⟨o,e,fun v z=>by rw [d] at z; cases z⟩
 keep:=fun i h h' st k=>by
   obtain ⟨o,e,c,d⟩:=st
   exact ⟨o,k it (by simp) o e,c,d⟩
 item:=by
   intro X hP hw hK hc i pins s σ H E I hf st hg
   subst hP hw hK
   have hg : i < x.cps.size:=hg
   obtain ⟨f0,f1,f2,f3,f4,f5⟩:=hf it (by simp)
   refine wpAny_pyNext_ascii_item st (c:=x.cps[i]) (by simp [hg]) fun h' st' sb=>?_
   have I1 : Inv X pins σ H { s with heap:=h',toks:=s.toks + 1 }:=I.turned (t':=s.toks + 1) (fun b o hb e=>(sb.2 b hb).trans e) f0 f1 f3 f4 f5
   obtain ⟨o,e,c,d⟩:=id st'
   exact ⟨_,rfl,go_of (s:={ s with heap:=h',toks:=s.toks + 1 }) e c d (by decide) ⟨.str ⟨#[x.cps[i]]⟩,H,I1,⟨_,rfl⟩,⟨rfl,_,by simp [hg],rfl⟩,st',fun b hb=>(hf b hb).1⟩⟩
 done:=by
   intro X hP hw hK hc i pins s σ H E I hf st hg
   subst hP hw hK
   have hg : x.cps.size <= i:=hg
   obtain ⟨f0,f1,f2,f3,f4,f5⟩:=hf it (by simp)
   exact wpAny_pyNext_ascii_end (I.ok.hd hc) st (by simp; omega) fun h' eb=>⟨rfl,I.turned (t':=s.toks) (fun b o hb e=>eb b o hb e) f0 f1 f3 f4 f5⟩
 self:=fun _ _ _ _ _ st h=>wpAny_pyIter_striter_ascii st h
end L2
set_option Elab.async false
set_option linter.all false
set_option maxRecDepth 100000
namespace L2
open PySem PySem.Spec PyProof.Rows GM
def zpE (ta : TE) : TI:=fun σ H R=>ta σ H fun v H1=>∃ x : Str,v = .str x /\ x.cps.all (· < 128) = true /\ R (Its x) H1
theorem zom {X : Cx} {tg l : Expr} {ta : TE} (hl : PE X l ta) : PI X tg l (zpE ta):=by
 intro pins s σ H R I h
 refine thn (hl pins s σ H _ I h) fun v s1 ⟨y,H1,I1,r1,q1⟩=>?_
 obtain ⟨x,rfl,ha,q⟩:=q1
 obtain ⟨t,rfl⟩:=r1
 refine wpAny_pyIter_ascii ha ?_
 refine ⟨s1.heap.objs.size,[s1.heap.objs.size],_,_,H1,rfl,I1.kept (t':=s1.toks) fun b o e=>Heap.get?_push_of_some _ e,zlv x t _,⟨_,Heap.get?_push_size _ rfl,rfl,rfl⟩,fun b hb=>?_,q⟩
 have e : b = s1.heap.objs.size:=by simpa using hb
 subst e
 exact I1.fpOk (Nat.le_refl _) (I1.hok.fresh (Nat.le_refl _))
def zm9 (g : TG) (tt : TT) (te : TE) (src : List (Option Nat)) (σ : St) (v : V) (H1 : Hp) (Q : VK) : Prop :=
 ∃ x : Str,v = .str x /\ x.cps.all (· < 128) = true /\ ∀ D,H1 D = none -> zem g tt te (Its x) D (zaH src σ) (upd H1 D (.lst [])) (fun H'=>Q (.ref D) H')
section
variable {K : PySem.W.Frag} {g : TG} {tt : TT} {te ta : TE} {src : List (Option Nat)} {σ : St} {H : Hp} {Q : VK}
theorem ziP (h : ta σ H fun x H1=>zm9 g tt te src σ x H1 Q) : zgM src (zpE ta) g tt te σ H Q:=h
theorem ziL {x : Str} (ha : x.cps.all (· < 128) = true) (Pv : Addr -> Nat -> List V -> St -> Hp -> Prop) (h0 : ∀ D H',H D = none -> zah H H' -> H' D = some (.lst []) -> Pv D 0 [] (zaH src σ) H')
   (hs : ∀ D (i : Nat) c ys σ' H',x.cps[i]? = some c -> Pv D i ys σ' H' -> zfB Pv g tt te D i (.str ⟨#[c]⟩) σ' H') (hd : ∀ D ys σ' H',Pv D x.length ys σ' H' -> Q (.ref D) H') : zm9 g tt te src σ (.str x) H Q:=by
 refine ⟨x,rfl,ha,fun D hD=>zeC (N:=x.length) Pv (fun i v=>∃ c,x.cps[i]? = some c /\ v = .str ⟨#[c]⟩) (h0 D _ hD (zah.upd hD) zas) (fun i ys σ' H' hp hi=>hi) (fun i ys σ' H' hp hi=>hi) (fun i ys σ' H' v H2 hp hy=>⟨hy.1,hy.2⟩)
   (fun i v ys σ' H' hi hit hp=>?_) (hd D)⟩
 obtain ⟨c,hc,rfl⟩:=hit
 exact hs D i c ys σ' H' hc hp
end
def TJ:=St -> Hp -> Str -> (Str -> Hp -> Prop) -> Prop
def PJ (X : Cx) (es : List Expr) (tj : TJ) : Prop:=∀ (pins : List (Addr × Obj)) (s : Shared) (σ : St) (H : Hp) (Q : VK) (acc : Str),Inv X pins σ H s -> tj σ H acc (fun out H1=>Q (.str out) H1) ->
 Joins (model X.prog X.w) X.A X.xe (evalEach es X.env) acc (fun out s1=>out.length <= sizeLine /\ EP X pins σ Q (.str out s1.toks) { s1 with toks:=s1.toks + 1 }) s
def znq : TJ:=fun σ H acc Q=>acc.length <= sizeLine /\ Q acc H
def znc (x : Str) (tj : TJ) : TJ:=fun σ H acc Q=>(acc ++ x).length <= sizeLine /\ tj σ H (acc ++ x) Q
def znu (te : TE) (tj : TJ) : TJ:=fun σ H acc Q=>te σ H fun v H1=>∃ y : Str,v = .str y /\ y.length <= sizeLine /\ (acc ++ y).length <= sizeLine /\ tj σ H1 (acc ++ y) Q
def zjJ (tj : TJ) : TE:=fun σ H Q=>tj σ H Str.empty (fun out H1=>Q (.str out) H1)
section
variable {X : Cx} {es : List Expr} {e v1 v2 : Expr} {te : TE} {tj : TJ} {pos pp : Pos} {x : Str}
theorem zlF : PJ X [] znq:=fun pins s σ H Q acc I h=>⟨h.1,.str acc,H,I.tok _,⟨_,rfl⟩,h.2⟩
theorem ziQ {j} (h : PJ X es tj) : PJ X (.Constant (.str x) j pos :: es) (znc x tj):=by
 intro pins s σ H Q acc I q
 show wpAny _ _ (eval (.Constant (.str x) j pos) X.env) _ _ s
 exact Calls.Constant_str ⟨x,_,rfl,q.1,h pins _ σ H Q (acc ++ x) (I.tok _) q.2⟩
theorem zgv (he : PE X e te) (h : PJ X es tj) : PJ X (.FormattedValue e (-1) none pos :: es) (znu te tj):=by
 intro pins s σ H Q acc I q
 show wpAny _ _ (eval (.FormattedValue e (-1) none pos) X.env) _ _ s
 refine wpAny_FormattedValue_plain (thn (he pins s σ H _ I q) fun v s1 ⟨y,H1,I1,r1,q1⟩=>?_)
 obtain ⟨z,rfl,hz,hl,q⟩:=q1
 obtain ⟨t,rfl⟩:=r1
 exact wpAny_formatField_str ⟨z,_,rfl,hl,h pins _ σ H1 Q (acc ++ z) I1 q⟩ ⟨z,_,rfl,hl,h pins _ σ H1 Q (acc ++ z) (I1.tok _) q⟩ hz
theorem zjL (h : PJ X (v1 :: v2 :: es) tj) : PE X (.JoinedStr (v1 :: v2 :: es) pos) (zjJ tj):=fun pins s σ H Q I q=>wpAny_JoinedStr (h pins s σ H Q Str.empty I q)
end
section
variable {σ : St} {H : Hp} {Q : VK} {QS : Str -> Hp -> Prop} {te : TE} {tj : TJ} {acc x y : Str}
theorem zjj (h : tj σ H Str.empty (fun out H1=>Q (.str out) H1)) : zjJ tj σ H Q:=h
theorem zli (h1 : (acc ++ x).length <= sizeLine) (h : tj σ H (acc ++ x) QS) : znc x tj σ H acc QS:=⟨h1,h⟩
theorem zhX (h : te σ H fun v H1=>∃ y : Str,v = .str y /\ y.length <= sizeLine /\ (acc ++ y).length <= sizeLine /\ tj σ H1 (acc ++ y) QS) : znu te tj σ H acc QS:=h
theorem znk (h1 : acc.length <= sizeLine) (h : QS acc H) : znq σ H acc QS:=⟨h1,h⟩
end
def zis : List V -> Hp -> VK -> Prop:=fun xs H Q=>∃ z : Str,xs = [.str z] /\ z.length <= sizeLine /\ Q (.int z.length) H
theorem zfi {X : Cx} : zaj X (.builtin "len") zis:=zhO
def zfw : List V -> Hp -> VK -> Prop:=fun xs H Q=>∃ i : Int,xs = [.int i] /\ i.natAbs.log2 < 1920 /\ Q (.str (toString i)) H
theorem zcb {X : Cx} : zaj X (.type "str") zfw:=zhA
def zn7 : R2:=fun x y H Q=>∃ i j : Str,x = .str i /\ y = .str j /\ Q (.bl (!(Builtin.Str.occurrences j i 0 j.length 1).isEmpty)) H
theorem zn6 {X : Cx} : OpR X (compareOp .In) zn7:=zj0
def zdM (K : PySem.W.Frag) : V -> List V -> Hp -> VK -> Prop:=fun x vs H Q=>∃ (sep : Str) (l : Addr) (ts : List Str) (B : Nat),x = .str sep /\ vs = [.ref l] /\ SqL K H l (ts.map V.str) /\ (∀ y ∈ ts,y.length <= B) /\ ts.length * B + ts.length * sep.length <= 16777216 /\ Q (.str (Str.join sep ts)) H
theorem zcY {X : Cx} : MtM X "str.join" (zdM X.K):=by
 intro pins s σ H x vs v us Q I rx rv h
 obtain ⟨sep,l,ts,B,rfl,rfl,hl,hB,hz,q⟩:=h
 obtain ⟨tk,rfl⟩:=rx
 obtain ⟨u,rfl,ru⟩:=rv.one
 cases ru
 obtain ⟨its,r,p,_⟩:=I.list hl
 obtain ⟨lt,rfl,e2⟩:=zjI r
 refine SC.join p.isList e2 ?_ (fun t' k=>⟨.str _,H,I.tok _,⟨_,rfl⟩,?_⟩)
 . unfold JoinOk
   rw [StrLaws.joinFits hB hz]
   rfl
 . rw [show Txt.join sep ts = Str.join sep ts from StrLaws.glued_eq_join sep ts]
   exact q
section
variable {K : PySem.W.Frag} {H H' : Hp} {Q : VK} {a : Addr} {x y : Str} {ts : List Str} {n : Nat} {i : Int}
theorem zcV {B : Nat} (h : SqL K H a (ts.map V.str)) (hB : ∀ y ∈ ts,y.length <= B) (hz : ts.length * B + ts.length * x.length <= 16777216) (q : Q (.str (Str.join x ts)) H) : zdM K (.str x) [.ref a] H Q:=⟨x,a,ts,B,rfl,rfl,h,hB,hz,q⟩
theorem zdF (hy : (y.length == 0) = false) (h1 : x.length <= sizeLine) (h2 : (Txt.split x y).length <= sizeLine) (q : ∀ l H',H l = none -> zah H H' -> H' l = some (.lst ((Txt.split x y).map V.str)) -> Q (.ref l) H') : zel (.str x) [.str y] H Q :=
 ⟨x,y,rfl,rfl,hy,h1,h2,fun l hl=>q l _ hl (zah.upd hl) zas⟩
theorem zmb (hl : (zar n).length <= 640) (q : Q (.int (n : Int)) H) : zlP [.str (zax n)] H Q:=⟨n,rfl,hl,q⟩
theorem zeN (h : i.natAbs.log2 < 1920) (q : Q (.str (toString i)) H) : zfw [.int i] H Q:=⟨i,rfl,h,q⟩
theorem zhE (h : x.length <= sizeLine) (q : Q (.int x.length) H) : zis [.str x] H Q:=⟨x,rfl,h,q⟩
theorem znS (q : Q (.bl (!(Builtin.Str.occurrences y x 0 y.length 1).isEmpty)) H) : zn7 (.str x) (.str y) H Q:=⟨x,y,rfl,rfl,q⟩
theorem zh9 (hx : PyData.strOk x = true) (hy : PyData.strOk y = true) (q : Q (.bl (x == y)) H) : zgD K (.str x) (.str y) H Q :=
 zoD (d:=.str x) (e:=.str y) (zaZ.mpr rfl) (zaZ.mpr rfl) (by simp [PySem.SeqAt.shaped,PyData.canLay0,PyData.depth,hx]) (by simp [PySem.SeqAt.shaped,PyData.canLay0,PyData.depth,hy]) (by rw [PyData.eqv]; exact q)
theorem zh1 (hx : PyData.strOk x = true) (hy : PyData.strOk y = true) (q : Q (.bl (!(x == y))) H) : zeA K (.str x) (.str y) H Q :=
 zlh (d:=.str x) (e:=.str y) (zaZ.mpr rfl) (zaZ.mpr rfl) (by simp [PySem.SeqAt.shaped,PyData.canLay0,PyData.depth,hx]) (by simp [PySem.SeqAt.shaped,PyData.canLay0,PyData.depth,hy]) (by rw [PyData.eqv]; exact q)
end
def znK : Str:=⟨#[48,49,50,51,52,53,54,55,56,57]⟩
theorem zoj : ∀ d,d < 10 -> (!(Builtin.Str.occurrences znK ⟨#[48 + d]⟩ 0 znK.length 1).isEmpty) = true:=by decide +kernel
end L2
set_option Elab.async false
set_option linter.all false
set_option maxRecDepth 100000
namespace L2
open PySem PySem.Spec PyProof.Rows GM
open PySem.StrLaws PySem.Builtin PySem.Builtin.Str
theorem zgd {x y : Str} {n : Nat} : ∀ {c1 c2 : List Nat} {a f1 f2 : Nat},ChainG x y n a c1 f1 -> ChainG x y n a c2 f2 -> (∀ k,f1 <= k -> ¬ StrLaws.At x y n k) -> (∀ k,f2 <= k -> ¬ StrLaws.At x y n k) -> c1 = c2
 | [],[],_,_,_,_,_,_,_=>rfl
 | [],c :: r,a,f1,f2,h1,h2,g1,g2=>by
   have e : f1 = a:=h1
   exact absurd h2.2.1 (g1 c (by rw [e]; exact h2.1))
 | c :: r,[],a,f1,f2,h1,h2,g1,g2=>by
   have e : f2 = a:=h2
   exact absurd h1.2.1 (g2 c (by rw [e]; exact h1.1))
 | c :: r,d :: q,a,f1,f2,h1,h2,g1,g2=>by
   have e : c = d:=by
     rcases Nat.lt_trichotomy c d with z | z | z
     . exact absurd h1.2.1 (h2.2.2.1 c h1.1 z)
     . exact z
     . exact absurd h2.2.1 (h1.2.2.1 d h2.1 z)
   subst e
   rw [zgd h1.2.2.2 h2.2.2.2 g1 g2]
theorem zjv {x y : Str} {n k j c : Nat} (h : StrLaws.At x y n k) (hc : y.cps.toList[j]? = some c) : x.cps.toList[k + j]? = some c:=by
 have e:=subAt_eq x y k
 rw [h.2] at e
 have e : (x.cps.toList.drop k).take y.length = y.cps.toList:=eq_of_beq e.symm
 rw [<- e] at hc
 have hj:=(List.getElem?_eq_some_iff.mp hc).1
 rw [List.length_take] at hj
 rw [List.getElem?_take_of_lt (by omega),List.getElem?_drop] at hc
 exact hc
theorem zgi {y : Str} {p q : List Nat} {c : Nat} (hy : y.cps.toList = p ++ c :: q) (hp : c ∉ p) : ∀ (ts : List Str) (pre : List Nat) (x : Str),ts ≠ [] -> (∀ t ∈ ts,c ∉ t.cps.toList) -> x.cps.toList = pre ++ (Str.join y ts).cps.toList ->
   ∃ cuts f,ChainG x y x.length pre.length cuts f /\ (∀ k,f <= k -> ¬ StrLaws.At x y x.length k) /\ partsFrom x y.length pre.length cuts = ts
 | [],_,_,h,_,_=>absurd rfl h
 | [t],pre,x,_,ht,hx=>by
   have hx : x.cps.toList = pre ++ t.cps.toList:=hx
   have yc : y.cps.toList[p.length]? = some c:=by rw [hy]; simp
   refine ⟨[],pre.length,rfl,fun k hk hA=>?_,?_⟩
   . have z:=zjv hA yc
     rw [hx,List.getElem?_append_right (by omega)] at z
     exact ht t (by simp) (List.mem_of_getElem? z)
   . show [strSub x pre.length x.length] = [t]
     congr 1
     refine Str.ext' (Array.toList_inj.mp ?_)
     rw [strSub_toList,hx,List.drop_left,List.take_of_length_le]
     have : x.length = x.cps.toList.length:=by simp [Str.length]
     rw [this,hx,List.length_append]
     omega
 | t :: u :: r,pre,x,_,ht,hx=>by
   have hx : x.cps.toList = pre ++ (t ++ y ++ Str.join y (u :: r)).cps.toList:=hx
   have e0 : (t ++ y ++ Str.join y (u :: r)).cps.toList = t.cps.toList ++ (y.cps.toList ++ (Str.join y (u :: r)).cps.toList):=by
     show (t.cps ++ y.cps ++ (Str.join y (u :: r)).cps).toList = _
     simp
   rw [e0] at hx
   have yc : y.cps.toList[p.length]? = some c:=by rw [hy]; simp
   have yl : y.length = y.cps.toList.length:=by simp [Str.length]
   have xl : x.length = x.cps.toList.length:=by simp [Str.length]
   obtain ⟨cuts,f,h1,h2,h3⟩:=zgi hy hp (u :: r) (pre ++ t.cps.toList ++ y.cps.toList) x (by simp) (fun v hv=>ht v (List.mem_cons_of_mem _ hv)) (by rw [hx]; simp)
   have el : (pre ++ t.cps.toList ++ y.cps.toList).length = pre.length + t.cps.toList.length + y.length:=by rw [List.length_append,List.length_append,yl]
   rw [el] at h1 h3
   refine ⟨(pre.length + t.cps.toList.length) :: cuts,f,⟨by omega,⟨?_,?_⟩,fun k k1 k2 hA=>?_,h1⟩,h2,?_⟩
   . rw [xl,hx,yl]
     simp only [List.length_append]
     omega
   . rw [subAt_eq,hx,<- List.append_assoc,<- List.length_append,List.drop_left,yl,List.take_left]
     simp
   . have z:=zjv hA yc
     rw [hx,hy,List.getElem?_append_right (by omega)] at z
     by_cases h : k + p.length - pre.length < t.cps.toList.length
     . rw [List.getElem?_append_left h] at z
       exact ht t (by simp) (List.mem_of_getElem? z)
     . rw [List.getElem?_append_right (by omega),List.append_assoc,List.getElem?_append_left (by omega)] at z
       exact hp (List.mem_of_getElem? z)
   . show strSub x pre.length (pre.length + t.cps.toList.length) :: partsFrom x y.length (pre.length + t.cps.toList.length + y.length) cuts = t :: u :: r
     rw [h3]
     congr 1
     refine Str.ext' (Array.toList_inj.mp ?_)
     rw [strSub_toList,hx,List.drop_left,Nat.add_sub_cancel_left,List.take_left]
theorem zfz {y : Str} {p q : List Nat} {c : Nat} {ts : List Str} (hy : y.cps.toList = p ++ c :: q) (hp : c ∉ p) (hk : Builtin.Str.strKind y = 1) (ne : ts ≠ []) (h : ∀ t ∈ ts,c ∉ t.cps.toList) : Txt.split (Str.join y ts) y = ts:=by
 obtain ⟨cuts,f,h1,h2,h3⟩:=zgi hy hp ts [] (Str.join y ts) ne h rfl
 have yl : y.length = y.cps.toList.length:=by simp [Str.length]
 have hw : 1 <= y.length:=by rw [yl,hy]; simp; omega
 obtain ⟨g,k1,k2⟩:=occ_tight (Str.join y ts) y hw
 have e:=zgd k1 h1 k2 h2
 have k3 : 1 <= Builtin.Str.strKind (Str.join y ts):=by
   unfold Builtin.Str.strKind
   split
   . omega
   . split <;> omega
 unfold Txt.split
 split
 . rename_i hc
   rw [Bool.or_eq_true,decide_eq_true_eq,decide_eq_true_eq] at hc
   have : cuts = []:=by
     cases cuts with
     | nil=>rfl
     | cons d r=>have:=h1.2.1.1; omega
   rw [this] at h3
   exact (congrArg (fun z=>[z]) (sub_whole _).symm).trans h3
 . split
   . rename_i he
     rw [e] at he
     rw [List.isEmpty_iff.mp he] at h3
     exact (congrArg (fun z=>[z]) (sub_whole _).symm).trans h3
   . rw [partsBetween_eq,e]
     exact h3
theorem zaW (x y : Str) : (x ++ y).cps.toList = x.cps.toList ++ y.cps.toList:=by
 show (x.cps ++ y.cps).toList = _
 simp
theorem zjS {x : Str} {c : Nat} (h : c ∉ x.cps.toList) : Txt.partition x ⟨#[c]⟩ = (x,Str.empty,Str.empty):=by
 unfold Txt.partition
 rcases StrLaws.occ_head x ⟨#[c]⟩ 1 (Nat.le_refl 1) with ⟨h0,hn⟩ | ⟨i,r,h0,hi,hn⟩
 . rw [h0]
 . exact absurd (List.mem_of_getElem? ((subAt_one x c i).mp hi)) h
theorem zmw {a b : Str} {c : Nat} (h : c ∉ a.cps.toList) : Txt.partition (a ++ ⟨#[c]⟩ ++ b) ⟨#[c]⟩ = (a,⟨#[c]⟩,b):=by
 have hx : (a ++ ⟨#[c]⟩ ++ b).cps.toList = a.cps.toList ++ (c :: b.cps.toList):=by rw [zaW,zaW]; simp
 have hl : (a ++ ⟨#[c]⟩ ++ b).length = (a ++ ⟨#[c]⟩ ++ b).cps.toList.length:=by simp [Str.length]
 have hat : StrLaws.At (a ++ ⟨#[c]⟩ ++ b) ⟨#[c]⟩ (a ++ ⟨#[c]⟩ ++ b).length a.cps.toList.length:=(subAt_one _ c _).mpr (by rw [hx]; simp)
 unfold Txt.partition
 rcases StrLaws.occ_head (a ++ ⟨#[c]⟩ ++ b) ⟨#[c]⟩ 1 (Nat.le_refl 1) with ⟨h0,hn⟩ | ⟨i,r,h0,hi,hn⟩
 . exact absurd hat (hn _)
 . have e : i = a.cps.toList.length:=by
     rcases Nat.lt_trichotomy i a.cps.toList.length with z | z | z
     . have:=(subAt_one _ c i).mp hi
       rw [hx,List.getElem?_append_left z] at this
       exact absurd (List.mem_of_getElem? this) h
     . exact z
     . exact absurd hat (hn _ z)
   subst e
   rw [h0]
   show (strSub _ 0 _,_,strSub _ _ _) = _
   congr 1
   . refine Str.ext' (Array.toList_inj.mp ?_)
     rw [strSub_toList,hx]
     simp
   . congr 1
     refine Str.ext' (Array.toList_inj.mp ?_)
     rw [strSub_toList,hl,hx]
     have e2 : ((⟨#[c]⟩ : Str)).length = 1:=rfl
     rw [e2,show a.cps.toList ++ c :: b.cps.toList = (a.cps.toList ++ [c]) ++ b.cps.toList by simp,show a.cps.toList.length + 1 = (a.cps.toList ++ [c]).length by simp,List.drop_left,List.take_of_length_le]
     simp only [List.length_append]
     omega
theorem ziS {x : Str} {c : Nat} : Txt.startswith x ⟨#[c]⟩ = decide (x.cps.toList[0]? = some c):=by
 have:=subAt_one x c 0
 rw [Bool.eq_iff_iff,decide_eq_true_eq,<- this]
 unfold Txt.startswith
 show _ ↔ (_ /\ _)
 rw [Bool.and_eq_true,decide_eq_true_eq]
theorem zj6 {x : Str} {c : Nat} : sliceText (⟨#[c]⟩ ++ x) (some 1) none = x:=by
 rw [sliceText_from ⟨by decide,by rw [zaW]; simp; omega⟩]
 refine Str.ext' (Array.toList_inj.mp ?_)
 rw [zaW]
 simp
 exact List.take_of_length_le (by simp)
def zbl (z : Int) : Str:=if z < 0 then ⟨#[45]⟩ ++ zax z.natAbs else zax z.natAbs
theorem zdW (z : Int) : Str.ofString (toString z) = zbl z:=by
 cases z with
 | ofNat n =>
   unfold zbl
   rw [if_neg (by simp)]
   exact zhP n
 | negSucc n =>
   unfold zbl
   rw [if_pos (Int.negSucc_lt_zero n)]
   have e : toString (Int.negSucc n) = "-" ++ toString (n + 1):=rfl
   have e2:=zhP (n + 1)
   have e3 : toString ((n + 1 : Nat) : Int) = toString (n + 1):=rfl
   rw [e3] at e2
   rw [e]
   show _ = _ ++ zax (n + 1)
   rw [<- e2,Str.ofString_eq_toList,Str.ofString_eq_toList]
   refine Str.ext' (Array.toList_inj.mp ?_)
   rw [zaW,String.toList_append]
   simp
def zaJ (r : Rat) : Str:=if r.den = 1 then zbl r.num else zbl r.num ++ ⟨#[47]⟩ ++ zax r.den
theorem zhS {n c : Nat} (h : c < 48) : c ∉ (zax n).cps.toList:=by
 intro hc
 unfold zax at hc
 simp only [List.mem_map] at hc
 obtain ⟨d,_,e⟩:=hc
 omega
theorem zfW {n c : Nat} (h : 57 < c) : c ∉ (zax n).cps.toList:=by
 intro hc
 unfold zax at hc
 simp only [List.mem_map] at hc
 obtain ⟨d,hd,e⟩:=hc
 have:=zbH n d hd
 omega
theorem zk6 {c e : Nat} (h : c ≠ e) : c ∉ (⟨#[e]⟩ : Str).cps.toList:=by simp [h]
theorem zhw {x y : Str} {c : Nat} (h1 : c ∉ x.cps.toList) (h2 : c ∉ y.cps.toList) : c ∉ (x ++ y).cps.toList:=by
 rw [zaW,List.mem_append]
 exact fun z=>z.elim h1 h2
theorem zeT {z : Int} {c : Nat} (h : c < 48 /\ c ≠ 45 \/ 57 < c) : c ∉ (zbl z).cps.toList:=by
 have hn : c ∉ (zax z.natAbs).cps.toList:=by
   rcases h with h | h
   . exact zhS h.1
   . exact zfW h
 unfold zbl
 split
 . exact zhw (zk6 (by omega)) hn
 . exact hn
theorem zdN {r : Rat} {c : Nat} (h : c < 45 \/ 57 < c) : c ∉ (zaJ r).cps.toList:=by
 have hn : c ∉ (zax r.den).cps.toList:=by
   rcases h with h | h
   . exact zhS (by omega)
   . exact zfW h
 unfold zaJ
 split
 . exact zeT (by omega)
 . exact zhw (zhw (zeT (by omega)) (zk6 (by omega))) hn
set_option maxHeartbeats 2000000
theorem zgB (x : Str) (u : Tok) (ds : List Nat) (ne : ds ≠ []) (hd : ∀ d ∈ ds,d < 10) (hlead : ds.head? = some 0 -> ds.length = 1) (hx : x.cps.toList = 45 :: ds.map (48 + ·)) (hl : ds.length <= 639) :
   Meets (Builtin.«int.__new__» ⟨[.type "int",.str x u],[]⟩) (Made.int (-(zfK ds : Int))).spec :=
 Meets.of_wp fun prog w A R s hs=>by
   have hasc : x.cps.all (· < 128) = true:=by
     rw [<- Array.all_toList,hx,List.all_eq_true]
     intro c hc
     rcases List.mem_cons.mp hc with rfl | hc
     . rfl
     obtain ⟨d,h1,rfl⟩:=List.mem_map.mp hc
     have:=hd d h1
     exact decide_eq_true (by omega)
   have h0 : ∀ c ∈ 45 :: ds.map (48 + ·),(c != 0) = true:=fun c hc=>by
     rcases List.mem_cons.mp hc with rfl | hc
     . rfl
     obtain ⟨d,h1,rfl⟩:=List.mem_map.mp hc
     simp
   obtain ⟨hp,g,d,tk,os⟩:=s
   have f1:=F.conv_sub_int
   have f2:=F.madeHere_int
   have f3:=ze3
   have f4:=zdz
   have f5:=zdG
   iterate 48 (any_goals (first | assumption | wp_step))
   show wpAny _ _ (pure (some (if (x.cps.all fun x=>decide (x < 128)) = true then x.cps.toList else Unicode.numberText x.cps.toList))) _ _ _
   rw [if_pos hasc,hx]
   refine wpAny_pure ?_
   dsimp only
   k_delta "intFromText"
   have hseen : (45 :: ds.map (48 + ·)).takeWhile (fun c=>c != 0) = 45 :: ds.map (48 + ·):=zcF h0
   dsimp only
   rw [hseen,if_pos (by rw [List.length_cons,List.length_map]; omega)]
   refine wpAny_bind (wpAny_pure ?_)
   show wpAny _ _ _ _ _ _
   k_delta "readNumeral"
   k_delta "isBlank"
   k_delta "prefixBase?"
   k_delta "numeralDigits?"
   k_delta "digitValue?"
   have hdw : List.dropWhile (fun c=>c == 32 || decide (9 <= c) && decide (c <= 13)) (45 :: ds.map (48 + ·)) = 45 :: ds.map (48 + ·):=rfl
   rw [hdw]
   have hbr:=zkW (p:=fun c=>c == 32 || decide (9 <= c) && decide (c <= 13)) ziN ds hd [] ne
   rw [List.nil_append] at hbr
   cases ds with
   | nil=>exact absurd rfl ne
   | cons d0 za7 =>
     have hd0:=hd d0 (List.mem_cons_self ..)
     have hsz : ¬ ((#[] ++ (d0 :: za7).toArray).size > 6000):=by simp; simp at hl; omega
     have fin : wpAny (model prog w) A.in1 (mkInt (-((zfK (d0 :: za7) : Nat) : Int))) (fun a s'=>wpAny (model prog w) A.in1 (ret a) (fun fin s'=>∃ v,fin = Fin.done (Flow.ret v) /\ R (Except.ok (Flow.ret v)) s') (fun e s'=>R (Except.error e) s') s') (fun e s'=>R (Except.error e) s') { heap:=hp,gens:=g,drawn:=d,toks:=tk,os:=os }:=by
       repeat (any_goals (first | assumption | wp_step))
       exact ⟨_,rfl,hs⟩
     have hval : Array.foldl (fun acc d=>acc * 10 + d) 0 (#[] ++ (d0 :: za7).toArray) = zfK (d0 :: za7):=by simp [zfK]
     have hbr2 : ((List.dropWhile (fun c=>c == 32 || decide (9 <= c) && decide (c <= 13)) ((48 + d0) :: za7.map (48 + ·)).reverse).reverse) = (d0 :: za7).map (48 + ·):=hbr
     clear h0 hx hasc hseen hdw hs f1 f2 f3 f4 f5 hbr
     rw [List.map_cons]
     by_cases hz : d0 = 0
     . have hr : za7 = []:=by
         have:=hlead (by rw [hz]; rfl)
         cases za7 with
         | nil=>rfl
         | cons _ _=>simp at this
       subst hr hz
       dsimp only [Nat.reduceAdd] at hbr2 ⊢
       simp only [beq_iff_eq,Nat.reduceEqDiff,Bool.or_self,Bool.false_eq_true,if_false,ite_false,List.map_nil] at hbr2 ⊢
       rw [hbr2,zix ?hf [0] #[] false hd]
       case hf =>
         intro a b d h
         rcases (show d = 0 \/ d = 1 \/ d = 2 \/ d = 3 \/ d = 4 \/ d = 5 \/ d = 6 \/ d = 7 \/ d = 8 \/ d = 9 by omega) with rfl | rfl | rfl | rfl | rfl | rfl | rfl | rfl | rfl | rfl <;> rfl
       simp only [Option.bind_eq_bind,Option.bind_some,List.isEmpty_cons,Bool.not_false,Bool.or_true,if_true,if_pos,bne_self_eq_false,Bool.and_false,Bool.false_and,Bool.false_eq_true,if_false,decide_eq_false hsz,Bool.and_false]
       rw [hval]
       exact fin
     . rcases (show d0 = 1 \/ d0 = 2 \/ d0 = 3 \/ d0 = 4 \/ d0 = 5 \/ d0 = 6 \/ d0 = 7 \/ d0 = 8 \/ d0 = 9 by omega) with rfl | rfl | rfl | rfl | rfl | rfl | rfl | rfl | rfl
       all_goals
         dsimp only [Nat.reduceAdd] at hbr2 ⊢
         simp only [beq_iff_eq,Nat.reduceEqDiff,Bool.or_self,Bool.false_eq_true,if_false,ite_false]
         rw [hbr2,zix ?hf _ #[] false hd]
         case hf =>
           intro a b d h
           rcases (show d = 0 \/ d = 1 \/ d = 2 \/ d = 3 \/ d = 4 \/ d = 5 \/ d = 6 \/ d = 7 \/ d = 8 \/ d = 9 by omega) with rfl | rfl | rfl | rfl | rfl | rfl | rfl | rfl | rfl | rfl <;> rfl
         simp only [Option.bind_eq_bind,Option.bind_some,List.isEmpty_cons,Bool.not_false,Bool.or_true,if_true,if_pos,bne_self_eq_false,Bool.and_false,Bool.false_and,Bool.false_eq_true,if_false,decide_eq_false hsz,Bool.and_false]
         rw [hval]
         exact fin
set_option maxHeartbeats 200000
def zjl : List V -> Hp -> VK -> Prop:=fun xs H Q=>∃ z : Int,xs = [.str (zbl z)] /\ (zar z.natAbs).length <= 639 /\ Q (.int z) H
theorem zhb {X : Cx} : zaj X (.type "int") zjl:=by
 intro pins s σ H xs us Q I r h
 obtain ⟨z,rfl,hl,q⟩:=h
 by_cases hz : z < 0
 . obtain ⟨u,rfl,rx⟩:=zc1 r
   obtain ⟨t,rfl⟩:=rx
   have g:=zgB (zbl z) t (zar z.natAbs) (zde _) (zbH _) (zgY _) (by unfold zbl; rw [if_pos hz,zaW]; simp [zax]) hl
   rw [zeS] at g
   have e : -((z.natAbs : Nat) : Int) = z:=by omega
   rw [e] at g
   exact call_int_1 g (show (Made.int z).post _ s from ⟨rfl,⟨.int z,H,I.tok _,⟨_,rfl⟩,q⟩⟩)
 . refine zg0 pins s σ H _ us Q I r ⟨z.natAbs,?_,by omega,?_⟩
   . unfold zbl; rw [if_neg hz]
   . rw [show ((z.natAbs : Nat) : Int) = z by omega]; exact q
def zlb : V -> List V -> Hp -> VK -> Prop:=fun x vs H Q=>∃ (s y : Str),x = .str s /\ vs = [.str y] /\ (y.length == 0) = false /\ s.length <= sizeLine /\ ∀ l,H l = none -> Q (.ref l) (upd H l (.tup [.str (Txt.partition s y).1,.str (Txt.partition s y).2.1,.str (Txt.partition s y).2.2]))
theorem zl0 {X : Cx} : MtM X "str.partition" zlb:=by
 intro pins s σ H x vs v us Q I rx rv h
 obtain ⟨z,y,rfl,rfl,hy,h1,q⟩:=h
 obtain ⟨t,rfl⟩:=rx
 obtain ⟨u,rfl,ru⟩:=rv.one
 obtain ⟨t2,rfl⟩:=ru
 refine call_meets F.slot_str_partition (typeIs_str _ _ _) F.entry_str_partition (F.args_str_partition_2 _ _) (meets_str_partition z y t t2 hy h1) ?_
 unfold Txt.partition at q
 revert q
 cases occurrences z y 0 z.length 1 with
 | nil =>
   intro q
   refine ⟨.ref s.heap.objs.size,_,I.laid (t':=s.toks + 1) (fun b ob q=>Heap.get?_push_of_some _ q) (Nat.le_refl _) ?_,rfl,q _ (I.hok.fresh (Nat.le_refl _))⟩
   exact ⟨by show 3 <= sizeLine; decide,_,.cons ⟨_,rfl⟩ (.cons ⟨_,rfl⟩ (.cons ⟨_,rfl⟩ .nil)),IsTup.new _ _⟩
 | cons i r =>
   intro q
   refine ⟨.ref s.heap.objs.size,_,I.laid (t':=s.toks + 1 + 1) (fun b ob q=>Heap.get?_push_of_some _ q) (Nat.le_refl _) ?_,rfl,q _ (I.hok.fresh (Nat.le_refl _))⟩
   exact ⟨by show 3 <= sizeLine; decide,_,.cons ⟨_,rfl⟩ (.cons ⟨_,rfl⟩ (.cons ⟨_,rfl⟩ .nil)),IsTup.new _ _⟩
def zhk : V -> List V -> Hp -> VK -> Prop:=fun x vs H Q=>∃ (s y : Str),x = .str s /\ vs = [.str y] /\ Q (.bl (Txt.startswith s y)) H
theorem zkg {X : Cx} : MtM X "str.startswith" zhk:=by
 intro pins s σ H x vs v us Q I rx rv h
 obtain ⟨z,y,rfl,rfl,q⟩:=h
 obtain ⟨t,rfl⟩:=rx
 obtain ⟨u,rfl,ru⟩:=rv.one
 obtain ⟨t2,rfl⟩:=ru
 exact SC.startswith ⟨.bl _,H,I,rfl,q⟩
def zmu (K : PySem.W.Frag) : V -> Option Int -> Option Int -> Hp -> VK -> Prop:=fun x lo hi H Q=>zld K x lo hi H Q \/ ∃ s : Str,x = .str s /\ s.length <= sizeLine /\ Q (.str (sliceText s lo hi)) H
theorem zkv {X : Cx} : SlR X (zmu X.K):=by
 refine zfk.or ?_
 intro pins s σ H x v vl vu lo hi sl Q I rx hs pl pu h
 obtain ⟨z,rfl,hz,q⟩:=h
 obtain ⟨t,rfl⟩:=rx
 refine ⟨"str",_,F.slot_str_getitem.lookup,typeIs_str _ _ _,?_⟩
 have key : ∀ l u : Option (Int × Tok),vl = partValue l -> vu = partValue u -> lo = l.map (·.1) -> hi = u.map (·.1) -> wpAny (model X.prog X.w) X.A (getItem (.str z t) (.ref sl)) (EP X pins σ Q) X.xe s:=by
   intro l u e1 e2 e3 e4
   subst e1 e2 e3 e4
   refine wpAny_getItem_str_slice (l:=l) (u:=u) (st:=none) hs rfl ?_
   have hle : (sliceText z (l.map (·.1)) (u.map (·.1))).length <= z.length:=Txt.slice_le z _ _
   unfold sliceMade
   unfold sliceText at q hle
   unfold slicePicked
   split
   . rename_i hc
     have hc : ((1 : Int) == 1 && (strSliceIndices (l.map (·.1)) (u.map (·.1)) 1 z.length).length == z.length) = true:=hc
     rw [if_pos hc] at q
     exact ⟨.str z,H,I,⟨_,rfl⟩,q⟩
   . rename_i hc
     have hc : ¬ ((1 : Int) == 1 && (strSliceIndices (l.map (·.1)) (u.map (·.1)) 1 z.length).length == z.length) = true:=hc
     rw [if_neg hc] at q hle
     exact ⟨Nat.le_trans hle hz,.str _,H,I.tok _,⟨_,rfl⟩,q⟩
 cases pl with
 | none=>cases pu with
   | none=>exact key none none rfl rfl rfl rfl
   | int j tj=>exact key none (some (j,tj)) rfl rfl rfl rfl
 | int i ti=>cases pu with
   | none=>exact key (some (i,ti)) none rfl rfl rfl rfl
   | int j tj=>exact key (some (i,ti)) (some (j,tj)) rfl rfl rfl rfl
section
variable {K : PySem.W.Frag} {H H' : Hp} {Q : VK} {a : Addr} {x y : Str} {xs : List V} {z : Int} {lo hi : Option Int}
theorem zhB (hl : (zar z.natAbs).length <= 639) (q : Q (.int z) H) : zjl [.str (zbl z)] H Q:=⟨z,rfl,hl,q⟩
theorem ziB {p1 p2 p3 : Str} (hy : (y.length == 0) = false) (h1 : x.length <= sizeLine) (e : Txt.partition x y = (p1,p2,p3)) (q : ∀ l H',H l = none -> zah H H' -> H' l = some (.tup [.str p1,.str p2,.str p3]) -> Q (.ref l) H') : zlb (.str x) [.str y] H Q :=
 ⟨x,y,rfl,rfl,hy,h1,fun l hl=>by rw [e]; exact q l _ hl (zah.upd hl) zas⟩
theorem zjT (q : Q (.bl (Txt.startswith x y)) H) : zhk (.str x) [.str y] H Q:=⟨x,y,rfl,rfl,q⟩
theorem zov (h : x.length <= sizeLine) (q : Q (.str (sliceText x lo hi)) H) : zmu K (.str x) lo hi H Q:=.inr ⟨x,rfl,h,q⟩
end
def zlz (i j : Int) : Prop:=0 <= j /\ j <= 1000 /\ Bd 4000 i
theorem zjp {X : Cx} : OpR X (binaryOp .Pow) (rI zlz fun i j=>.int (i ^ j.toNat)):=opI fun i j _ _ _ _ _ hc q=>pow_int hc.1 (by
 have hb : Builtin.Int.intBits i <= 4000:=intBits_le hc.2.2.1
 have h1 : (Builtin.Int.intBits i : Int) * j <= 4000 * j:=Int.mul_le_mul_of_nonneg_right (by omega) hc.1
 have h2:=hc.2.1
 omega) q
theorem zlZ {X : Cx} {e : Expr} {i j v : Int} {k2 : Nat} {p2 pos : Pos} (he : PE X e (tC (.int i))) (hc : zlz i j) (hv : i ^ j.toNat = v) : PE X (.BinOp e .Pow (.Constant (.int j) k2 p2) pos) (tC (.int v)):=by
 subst hv
 exact fun pins s σ H Q I h=>(zan zjp he zaf : PE X _ _) pins s σ H Q I ⟨i,j,rfl,rfl,hc,h⟩
theorem zmR {X : Cx} {e f : Expr} {i j v : Int} {pos : Pos} (he : PE X e (tC (.int i))) (hf : PE X f (tC (.int j))) (hc : IntMulOk i j) (hv : i * j = v) : PE X (.BinOp e .Mult f pos) (tC (.int v)):=by
 subst hv
 exact fun pins s σ H Q I h=>(zan zbC he hf : PE X _ _) pins s σ H Q I ⟨i,j,rfl,rfl,hc,h⟩
def zgh : List V -> Hp -> VK -> Prop:=fun xs H Q=>zfw xs H Q \/ ∃ x : Str,xs = [.str x] /\ Q (.str x) H
theorem zg8 {X : Cx} : zaj X (.type "str") zgh:=by
 intro pins s σ H xs us Q I r h
 rcases h with h | ⟨x,rfl,q⟩
 . exact zcb pins s σ H xs us Q I r h
 . obtain ⟨u,rfl,t,rfl⟩:=zc1 r
   exact PySem.P.str_of_str ⟨.str x,H,I,⟨_,rfl⟩,q⟩
structure RpG (n m : Nat) (d : PyData) : Prop where
 sh : Sh n d
 si : d.showable = true
 ln : d.shown.length <= m
theorem RpG.mono {n m k l : Nat} {d : PyData} (h : RpG n m d) (a : n <= k) (b : m <= l) : RpG k l d:=⟨h.sh.mono a,h.si,Nat.le_trans h.ln b⟩
theorem zhF {n m : Nat} : ∀ {ds : List PyData},(∀ d ∈ ds,RpG n m d) -> PyData.showableAll ds = true /\ ((PyData.shownAll ds).map (·.length)).sum <= m * ds.length /\ (PyData.shownAll ds).length = ds.length
 | [],_=>⟨rfl,by simp [PyData.shownAll],by simp [PyData.shownAll]⟩
 | d :: ds,h=>by
   obtain ⟨h1,h2,h3⟩:=zhF fun e he=>h e (List.mem_cons_of_mem _ he)
   have hd:=h d (List.mem_cons_self ..)
   have:=hd.ln
   refine ⟨by rw [PyData.showableAll,hd.si,h1]; rfl,?_,by rw [PyData.shownAll,List.length_cons,h3]; rfl⟩
   rw [PyData.shownAll,List.map_cons,List.sum_cons,List.length_cons,Nat.mul_add,Nat.mul_one]
   omega
theorem zhU {n m k : Nat} {ds : List PyData} (h : ∀ d ∈ ds,RpG n m d) (z : ds.length <= k) : RpG (n + 1) ((m + 2) * k + 3) (.tuple ds):=by
 obtain ⟨h1,h2,h3⟩:=zhF h
 refine ⟨zlT fun d hd=>(h d hd).sh,by rw [PyData.showable]; exact h1,?_⟩
 rw [PyData.shown]
 have:=tupleText_len_le (PyData.shownAll ds)
 have h4 : m * ds.length <= m * k:=Nat.mul_le_mul_left _ z
 rw [Nat.add_mul]
 omega
theorem zms {n m k : Nat} {ds : List PyData} (h : ∀ d ∈ ds,RpG n m d) (z : ds.length <= k) : RpG (n + 1) ((m + 2) * k + 3) (.list ds):=by
 obtain ⟨h1,h2,h3⟩:=zhF h
 refine ⟨zlJ fun d hd=>(h d hd).sh,by rw [PyData.showable]; exact h1,?_⟩
 rw [PyData.shown]
 have:=listText_len_le (PyData.shownAll ds)
 have h4 : m * ds.length <= m * k:=Nat.mul_le_mul_left _ z
 rw [Nat.add_mul]
 omega
def zfj (K : PySem.W.Frag) : List V -> Hp -> VK -> Prop:=fun xs H Q=>∃ v d,xs = [v] /\ Is K H v d /\ zn0 d = true /\ RpG 60 sizeLine d /\ Q (.str d.shown) H
theorem zdf {X : Cx} (hg : X.A.guards = some []) (hu : X.A.units + 64 < cLine) : zaj X (.builtin "repr") (zfj X.K):=by
 intro pins s σ H xs us Q I r h
 obtain ⟨v,d,rfl,hd,sq,rp,q⟩:=h
 obtain ⟨u,rfl,rx⟩:=zc1 r
 obtain ⟨a,rfl⟩:=zlY hd sq
 obtain ⟨as,h1⟩:=I.reads d _ u rp.sh.1 hd rx
 cases rx
 have hdp:=rp.sh.2
 exact repr_of_reads' h1 rp.si (PyData.noDict_hsm (PyData.hasDict_of_canLay d rp.sh.1)) hg (by omega) (fun b o e=>e) (fun h' u tk hk=>⟨.str d.shown,H,I.kept (t':=tk) hk,⟨_,rfl⟩,q⟩) rp.ln
theorem zez {K : PySem.W.Frag} {H : Hp} {Q : VK} {v : V} {d : PyData} {n m : Nat} (h : Is K H v d) (s : zn0 d = true) (r : RpG n m d) (hn : n <= 60) (hm : m <= sizeLine) (q : Q (.str d.shown) H) : zfj K [v] H Q:=⟨v,d,rfl,h,s,r.mono hn hm,q⟩
theorem zkt {H : Hp} {Q : VK} {i : Int} (h : i.natAbs.log2 < 1920) (q : Q (.str (toString i)) H) : zgh [.int i] H Q:=.inl ⟨i,rfl,h,q⟩
theorem zkx {H : Hp} {Q : VK} {x : Str} (q : Q (.str x) H) : zgh [.str x] H Q:=.inr ⟨x,rfl,q⟩
end L2
namespace G
open PySem PySem.Spec PyProof.Rows L2 GM
local macro_rules | `(tactic| walk_at "sc")=>`(tactic| exact ⟨rfl,rfl,rfl,by decide +kernel,rfl,by decide +kernel,by decide +kernel⟩)
def top (i : Nat) : Stmt:=PySem.Challenge.pw_glowflock_k57_papers_written_and_read.main.body.getD i (.Pass ⟨0,0,0,0⟩)
abbrev zeg : Stmt:=top 4
abbrev zeh : List Str:=["thing"]
abbrev zdh:=zeh
theorem zib : zal zeh zdh (zae zeg):=by walk_at "sc"
abbrev zbX : Stmt:=top 5
abbrev zbV : List Str:=["least","most","thing"]
abbrev zbh:=zbV
theorem zfn : zal zbV zbh (zae zbX):=by walk_at "sc"
abbrev zbk : Stmt:=top 6
abbrev zcj : List Str:=["one","other","rest"]
abbrev zaX : List Str:=["one","other"]
theorem zaQ : zal zcj zaX (zae zbk):=by walk_at "sc"
abbrev zdy : Stmt:=top 7
abbrev zdv : List Str:=["thing"]
abbrev zcE:=zdv
theorem zhh : zal zdv zcE (zae zdy):=by walk_at "sc"
abbrev zcy : Stmt:=top 13
abbrev zcr : List Str:=["row","worms"]
abbrev zcm:=zcr
theorem zhx : zal zcr zcm (zae zcy):=by walk_at "sc"
abbrev zgp : Stmt:=top 14
abbrev zfU : List Str:=["thing","worms"]
abbrev ze5:=zfU
theorem zkd : zal zfU ze5 (zae zgp):=by walk_at "sc"
abbrev zcL : Stmt:=top 15
abbrev zcH : List Str:=["thing","worms"]
abbrev zbI:=zcH
theorem zga : zal zcH zbI (zae zcL):=by walk_at "sc"
abbrev zc8 : Stmt:=top 16
abbrev zdi : List Str:=["thing","worms"]
abbrev zdb:=zdi
theorem zhZ : zal zdi zdb (zae zc8):=by walk_at "sc"
abbrev zcM : Stmt:=top 20
abbrev zd7 : List Str:=["number","top","bottom"]
abbrev zbN : List Str:=["number"]
theorem zcl : zal zd7 zbN (zae zcM):=by walk_at "sc"
abbrev zbu : Stmt:=top 21
abbrev zbx : List Str:=["numbers"]
abbrev zbw:=zbx
theorem zfH : zal zbx zbw (zae zbu):=by walk_at "sc"
abbrev zbK : Stmt:=top 22
abbrev zbL : List Str:=["wholes"]
abbrev zbJ:=zbL
theorem zgq : zal zbL zbJ (zae zbK):=by walk_at "sc"
abbrev zes : Stmt:=top 23
abbrev zgt : List Str:=["row","hour","phases","end"]
abbrev zdm : List Str:=["row"]
theorem zcD : zal zgt zdm (zae zes):=by walk_at "sc"
abbrev zb2 : Stmt:=top 24
abbrev zb3 : List Str:=["paper"]
abbrev zb5:=zb3
theorem zgx : zal zb3 zb5 (zae zb2):=by walk_at "sc"
abbrev zbi : Stmt:=top 25
abbrev zbg : List Str:=["text","most"]
abbrev zbj:=zbg
theorem zff : zal zbg zbj (zae zbi):=by walk_at "sc"
abbrev zdI : Stmt:=top 26
abbrev zfs : List Str:=["text","parts"]
abbrev zcv : List Str:=["text"]
theorem zeY : zal zfs zcv (zae zdI):=by walk_at "sc"
abbrev zbe : Stmt:=top 27
abbrev zbF : List Str:=["text","most","parts","top","told"]
abbrev za9 : List Str:=["text","most"]
theorem za3 : zal zbF za9 (zae zbe):=by walk_at "sc"
abbrev zbT : Stmt:=top 28
abbrev zbU : List Str:=["words"]
abbrev zcB:=zbU
theorem zhq : zal zbU zcB (zae zbT):=by walk_at "sc"
abbrev zbB : Stmt:=top 29
abbrev zbp : List Str:=["words","most"]
abbrev zb1:=zbp
theorem zgF : zal zbp zb1 (zae zbB):=by walk_at "sc"
abbrev zek : Stmt:=top 30
abbrev zef : List Str:=["text","between"]
abbrev zdn:=zef
theorem zif : zal zef zdn (zae zek):=by walk_at "sc"
abbrev zgu : Stmt:=top 31
abbrev zir : List Str:=["text","parts","hour","phases","end"]
abbrev ze8 : List Str:=["text"]
theorem zcR : zal zir ze8 (zae zgu):=by walk_at "sc"
abbrev zca : Stmt:=top 32
abbrev zc6 : List Str:=["text","rows","worms"]
abbrev zb6 : List Str:=["text"]
theorem zcG : zal zc6 zb6 (zae zca):=by walk_at "sc"
abbrev zfa : Stmt:=top 34
abbrev zgP : List Str:=["_law_script","_law_k","_law_cell"]
abbrev zdY : List Str:=["_law_script","_law_k"]
theorem zei : zal zgP zdY (zae zfa):=by walk_at "sc"
abbrev zep : Stmt:=top 35
abbrev zgn : List Str:=["_law_pen_here","_law_many","_law_digit","_law_mixed"]
abbrev zc7 : List Str:=["_law_pen_here","_law_many"]
theorem zdD : zal zgn zc7 (zae zep):=by walk_at "sc"
abbrev zfg : Stmt:=top 36
abbrev zg4 : List Str:=["_law_top","_law_bottom","_law_one","_law_other"]
abbrev zdP : List Str:=["_law_top","_law_bottom"]
theorem zen : zal zg4 zdP (zae zfg):=by walk_at "sc"
abbrev zdH : Stmt:=top 37
abbrev zdK : List Str:=["_law_one"]
abbrev zcu:=zdK
theorem zhf : zal zdK zcu (zae zdH):=by walk_at "sc"
abbrev zcC : Stmt:=top 38
abbrev zcx : List Str:=["_law_some"]
abbrev zcs:=zcx
theorem zhy : zal zcx zcs (zae zcC):=by walk_at "sc"
abbrev zbG : Stmt:=top 39
abbrev zc4 : List Str:=["_law_pen_here","_law_great","_law_sizes","_law_size","_law_top","_law_k","_law_bottom"]
abbrev za8 : List Str:=["_law_pen_here","_law_great"]
theorem zam : zal zc4 za8 (zae zbG):=by walk_at "sc"
abbrev zbS : Stmt:=top 40
abbrev zcz : List Str:=["_law_pen_here","_law_great","_law_many","_law_rows","_law_k","_law_phases"]
abbrev zcp : List Str:=["_law_pen_here"]
theorem zaV : zal zcz zcp (zae zbS):=by walk_at "sc"
abbrev zby : Stmt:=top 41
abbrev zcf : List Str:=["_law_row","_law_end"]
abbrev zbo : List Str:=["_law_row"]
theorem zds : zal zcf zbo (zae zby):=by walk_at "sc"
abbrev zba : Stmt:=top 42
abbrev zbd : List Str:=["_law_paper_here"]
abbrev zbc:=zbd
theorem zey : zal zbd zbc (zae zba):=by walk_at "sc"
abbrev zjM : Stmt:=top 43
abbrev znz : List Str:=["_law_script","_law_k","_law_paper_here","_law_text","_law_handed","_law_found"]
abbrev zjt : List Str:=["_law_script"]
theorem zfp : zal znz zjt (zae zjM):=by walk_at "sc"
set_option genInjectivity false in
structure Ad where
 is_whole : Addr
 fd_is_whole : FuncData
 is_whole_from : Addr
 fd_is_whole_from : FuncData
 greatest_divisor : Addr
 fd_greatest_divisor : FuncData
 is_number : Addr
 fd_is_number : FuncData
 has_stand : Addr
 fd_has_stand : FuncData
 is_row : Addr
 fd_is_row : FuncData
 is_last_row : Addr
 fd_is_last_row : FuncData
 is_paper : Addr
 fd_is_paper : FuncData
 show_number : Addr
 fd_show_number : FuncData
 show_numbers : Addr
 fd_show_numbers : FuncData
 show_wholes : Addr
 fd_show_wholes : FuncData
 show_row : Addr
 fd_show_row : FuncData
 show_paper : Addr
 fd_show_paper : FuncData
 is_whole_text : Addr
 fd_is_whole_text : FuncData
 number_in : Addr
 fd_number_in : FuncData
 is_number_text : Addr
 fd_is_number_text : FuncData
 wholes_in : Addr
 fd_wholes_in : FuncData
 numbers_in : Addr
 fd_numbers_in : FuncData
 parts_of : Addr
 fd_parts_of : FuncData
 row_in : Addr
 fd_row_in : FuncData
 read_paper : Addr
 fd_read_paper : FuncData
 law_pen : Addr
 fd_law_pen : FuncData
 law_draw : Addr
 fd_law_draw : FuncData
 law_low : Addr
 fd_law_low : FuncData
 law_shown : Addr
 fd_law_shown : FuncData
 law_words : Addr
 fd_law_words : FuncData
 law_any_number : Addr
 fd_law_any_number : FuncData
 law_paper : Addr
 fd_law_paper : FuncData
 law_row_text : Addr
 fd_law_row_text : FuncData
 law_paper_text : Addr
 fd_law_paper_text : FuncData
 law : Addr
 fd_law : FuncData
 C_NoText : Addr
 k_WORDS : Addr
structure Dn (K : PySem.W.Frag) (mg : Str -> Option Value) (n : Str) (st : Stmt) (ps : List Str) (f : Addr) (fd : FuncData) : Prop where
 F : Fun K n n st f fd
 g : mg n = some (.ref f)
 b : zgN K fd ps []
section
variable {X : Cx} {x : Str} {f : Addr} {fd : FuncData} {ps : List Str} {sp : Sp} {j k : Nat} {e : Expr} {es : List Expr} {t : TA} {pos pp : Pos} {st : Stmt} {CX : CXT}
theorem pcx {E : XK} (F : zaP X.prog X.w X.K X.mg X.base CX k f fd ps sp) (hr : zcO j X.A) (D : Dn X.K X.mg x st ps f fd) (hx : ze9 CX X E) (ha : PA X (e :: es) t) (hj : k <= j:=by decide) (hg : Gl X x:=by exact rfl)
   (hdb : (x == ("__debug__" : Str)) = false:=by decide) (he : starEach (e :: es) X.env = (false,eval e X.env) :: starEach es X.env:=by rfl) (hpl : (backTo pos (starEach es X.env)).any (·.1) = false:=by rfl) :
   PE X (.Call (.Name x pp) (e :: es) [] pos) (zgL sp [] E t):=zjq F (hr.mono hj) hg D.g D.F.kp D.b .nil hx ha hdb he hpl
theorem pcl (F : zaP X.prog X.w X.K X.mg X.base CX0 k f fd ps sp) (hr : zcO j X.A) (D : Dn X.K X.mg x st ps f fd) (ha : PA X (e :: es) t) (hj : k <= j:=by decide) (hg : Gl X x:=by exact rfl)
   (hdb : (x == ("__debug__" : Str)) = false:=by decide) (he : starEach (e :: es) X.env = (false,eval e X.env) :: starEach es X.env:=by rfl) (hpl : (backTo pos (starEach es X.env)).any (·.1) = false:=by rfl) :
   PE X (.Call (.Name x pp) (e :: es) [] pos) (zgL sp [] E0 t):=zjq F (hr.mono hj) hg D.g D.F.kp D.b .nil zpw ha hdb he hpl
theorem pix {ta : TE} {i : Int} {kd} (ha : PE X e ta) : PE X (.Subscript e (.Constant (.int i) kd pp) pos) (tOp (rIx X.K) ta (tC (.int i))):=zeK zdg ha zaf (fun _ _=>rfl)
theorem pst (i : Nat) {te : TE} (hN : X.N.Nodup) (he : PE X e te) (hi : X.N[i]? = some x:=by exact rfl) (hx : Loc X.env.scope x:=by first | exact Or.inl rfl | exact Or.inr rfl) (hs : swapsWith e (some (.Name x pp)) pos.line X.env = pure false:=by rfl) (hf : X.fn x = true \/ X.env.scope.names.lookup x = some .local:=by first | exact .inl rfl | exact .inr rfl | assumption) :
   PS X (.Assign [.Name x pp] e pos) (zk0 te (zgb i)):=zoo hN hi hx he hs hf
end
structure Txt (K : PySem.W.Frag) (mg : Str -> Option Value) (a : Ad) : Prop where
 d_is_whole : Dn K mg "is_whole" zeg zdh a.is_whole a.fd_is_whole
 d_is_whole_from : Dn K mg "is_whole_from" zbX zbh a.is_whole_from a.fd_is_whole_from
 d_greatest_divisor : Dn K mg "greatest_divisor" zbk zaX a.greatest_divisor a.fd_greatest_divisor
 d_is_number : Dn K mg "is_number" zdy zcE a.is_number a.fd_is_number
 d_has_stand : Dn K mg "has_stand" zcy zcm a.has_stand a.fd_has_stand
 d_is_row : Dn K mg "is_row" zgp ze5 a.is_row a.fd_is_row
 d_is_last_row : Dn K mg "is_last_row" zcL zbI a.is_last_row a.fd_is_last_row
 d_is_paper : Dn K mg "is_paper" zc8 zdb a.is_paper a.fd_is_paper
 d_show_number : Dn K mg "show_number" zcM zbN a.show_number a.fd_show_number
 d_show_numbers : Dn K mg "show_numbers" zbu zbw a.show_numbers a.fd_show_numbers
 d_show_wholes : Dn K mg "show_wholes" zbK zbJ a.show_wholes a.fd_show_wholes
 d_show_row : Dn K mg "show_row" zes zdm a.show_row a.fd_show_row
 d_show_paper : Dn K mg "show_paper" zb2 zb5 a.show_paper a.fd_show_paper
 d_is_whole_text : Dn K mg "is_whole_text" zbi zbj a.is_whole_text a.fd_is_whole_text
 d_number_in : Dn K mg "number_in" zdI zcv a.number_in a.fd_number_in
 d_is_number_text : Dn K mg "is_number_text" zbe za9 a.is_number_text a.fd_is_number_text
 d_wholes_in : Dn K mg "wholes_in" zbT zcB a.wholes_in a.fd_wholes_in
 d_numbers_in : Dn K mg "numbers_in" zbB zb1 a.numbers_in a.fd_numbers_in
 d_parts_of : Dn K mg "parts_of" zek zdn a.parts_of a.fd_parts_of
 d_row_in : Dn K mg "row_in" zgu ze8 a.row_in a.fd_row_in
 d_read_paper : Dn K mg "read_paper" zca zb6 a.read_paper a.fd_read_paper
 d_law_pen : Dn K mg "_law_pen" zfa zdY a.law_pen a.fd_law_pen
 d_law_draw : Dn K mg "_law_draw" zep zc7 a.law_draw a.fd_law_draw
 d_law_low : Dn K mg "_law_low" zfg zdP a.law_low a.fd_law_low
 d_law_shown : Dn K mg "_law_shown" zdH zcu a.law_shown a.fd_law_shown
 d_law_words : Dn K mg "_law_words" zcC zcs a.law_words a.fd_law_words
 d_law_any_number : Dn K mg "_law_any_number" zbG za8 a.law_any_number a.fd_law_any_number
 d_law_paper : Dn K mg "_law_paper" zbS zcp a.law_paper a.fd_law_paper
 d_law_row_text : Dn K mg "_law_row_text" zby zbo a.law_row_text a.fd_law_row_text
 d_law_paper_text : Dn K mg "_law_paper_text" zba zbc a.law_paper_text a.fd_law_paper_text
 d_law : Dn K mg "law" zjM zjt a.law a.fd_law
 z_abs : mg "abs" = none
 z_all : mg "all" = none
 z_bool : mg "bool" = none
 z_int : mg "int" = none
 z_isinstance : mg "isinstance" = none
 z_len : mg "len" = none
 z_list : mg "list" = none
 z_range : mg "range" = none
 z_repr : mg "repr" = none
 z_str : mg "str" = none
 z_tuple : mg "tuple" = none
 g_NoText : mg "NoText" = some (.ref a.C_NoText)
 x_NoText : PySem.W.excIn K a.C_NoText zkq "ValueError.__new__" = true
 c_MOST_WORMS : ∃ t,mg "MOST_WORMS" = some (.int 8 t)
 c_MOST_FREE : ∃ t,mg "MOST_FREE" = some (.int 30 t)
 c_MOST_GLOWS : ∃ t,mg "MOST_GLOWS" = some (.int 40 t)
 c_WORDS : mg "WORDS" = some (.ref a.k_WORDS)
 t_WORDS : ∀ H : Hp,SqT K H a.k_WORDS [.str "one",.str "rests",.str "drawn"]
 c_FIGURES : ∃ t,mg "FIGURES" = some (.str "0123456789" t)
 c_WHOLE_FIGURES : ∃ t,mg "WHOLE_FIGURES" = some (.int 2 t)
end G
open L2 GM in
local macro_rules | `(tactic| walk_at "is")=>`(tactic| first
 | assumption
 | exact zay.mpr rfl
 | exact zeH.mpr rfl
 | exact zeU.mpr rfl
 | exact zaZ.mpr rfl
 | exact Is.thru (by assumption) (by walk_at "same")
 | exact Is.thruN (by assumption) (by walk_at "keep")
 | exact Is.thruR (by assumption) (by walk_at "keep")
 | ((with_reducible apply is_tupAt); (focus assumption); (focus walk_at "isall"); walk_at "same")
 | ((with_reducible apply is_lstAt); (focus assumption); (focus walk_at "isall"); walk_at "same")
 | ((with_reducible apply is_dctAt); (focus assumption); walk_at "same")
 | fail "is")
open L2 GM in
local macro_rules | `(tactic| walk_at "isall")=>`(tactic| first
 | exact IsAll.nil
 | exact IsAll.cons (by walk_at "is") (by walk_at "isall")
 | fail "isall")
open L2 GM in
local macro_rules | `(tactic| walk_at "ne")=>`(tactic| first
 | assumption
 | (apply Ne.symm; assumption))
/- a list that stands at an address -/
open L2 GM in
local macro_rules | `(tactic| walk_at "lst")=>`(tactic| first
 | assumption
 | exact zah.at (by assumption) (by walk_at "lst")
 | exact Exc.at (by assumption) (by walk_at "ne") (by walk_at "lst")
 | fail "lst")
open L2 GM in
local macro_rules | `(tactic| walk_at "same")=>`(tactic| first
 | assumption
 | exact zah.refl _
 | exact zah.back (by assumption) (by walk_at "same")
 | fail "same")
open L2 GM in
local macro_rules | `(tactic| walk_at "keep")=>`(tactic| first
 | assumption
 | exact zaK.refl _
 | exact zah.keep (by assumption)
 | exact zaK.back (by assumption) (by walk_at "keep")
 | exact zaK.back (zah.keep (by assumption)) (by walk_at "keep")
 | fail "keep")
open L2 GM in
local macro_rules | `(tactic| walk_at "exc")=>`(tactic| first
 | assumption
 | exact Exc.refl _ _
 | exact Exc.back (by assumption) (by walk_at "exc")
 | exact Exc.back (zah.exc (by assumption)) (by walk_at "exc")
 | fail "exc")
open L2 GM in
local macro_rules | `(tactic| walk_at "sqf")=>`(tactic| first
 | assumption
 | exact zaK.sqF (by walk_at "keep") (by assumption)
 | fail "sqf")
/- how great -/
open L2 GM in
local macro_rules | `(tactic| walk_at "bd")=>`(tactic| first
 | assumption
 | exact Bd.mk (n:=128) (by decide)
 | exact Bd.mono (m:=128) ⟨by decide⟩ (by decide)
 | exact Bdr.t (by assumption)
 | exact Bdr.b (by assumption)
 | exact Bd.of128 (by omega) (by omega)
 | (apply Bd.neg; walk_at "bd")
 | (apply Bd.mul; (focus walk_at "bd"); walk_at "bd")
 | (apply Bd.add; (focus walk_at "bd"); walk_at "bd")
 | (apply Bd.sub; (focus walk_at "bd"); walk_at "bd"))
open L2 GM PySem in
local macro_rules | `(tactic| walk_at "mulok")=>`(tactic| first
 | exact IntMulOk.of_right (by decide)
 | exact IntMulOk.of_left (by decide)
 | exact IntMulOk.of_right (intBits_le_64 (by omega) (by omega))
 | exact IntMulOk.of_left (intBits_le_64 (by omega) (by omega))
 | (apply L2.MulBd; (focus walk_at "bd"); (focus walk_at "bd"); (focus decide); decide))
open L2 GM PySem in
local macro_rules | `(tactic| walk_at "side")=>`(tactic| first
 | assumption
 | decide
 | omega
 | walk_at "mulok"
 | (refine And.intro ?_ ?_ <;> walk_at "side")
 | walk_at "bd")
open L2 GM in
local macro_rules | `(tactic| walk_at "gs")=>`(tactic| first
 | walk_at "sq"
 | with_reducible (first | refine zoA ?_ | refine znV ?_ | refine znY ?_ | refine zpC ?_)
 | ((with_reducible apply zoI); (focus rfl))
 | with_reducible (first | refine zpQ ?_ | refine zmC ?_ | refine zoJ ?_ | refine zmn ?_ | refine zpp ?_ | refine zmQ ?_ | refine zpt ?_ | refine zoP ?_ | refine zoE ?_ | refine zog ?_ | refine zmh ?_)
 | ((with_reducible apply zkA); (focus walk_at "side"))
 | with_reducible (first | refine zpx ?_ | refine zpz ?_ | refine zob ?_ | refine zl2 ?_ | refine zoB ?_ | refine zn3 ?_ | refine zl7 ?_ | refine zmM ?_)
 | with_reducible refine zmD (fun _=>?_) (fun _=>?_)
 | with_reducible refine zkB (fun _=>?_) (fun _=>?_)
 | with_reducible refine zkw (fun _=>?_) (fun _=>?_)
 | with_reducible refine zl9 (fun _=>?_) (fun _=>?_)
 | with_reducible (first | refine zok ?_ | refine zpa ?_ | refine znO ?_ | refine zmJ ?_ | refine zoO ?_ | refine zmA ?_ | refine zoC ?_ | refine zmi ?_ | refine zma ?_ | refine zmg ?_ | refine znZ ?_ | refine zmN ?_ | refine zlu ?_ | refine zmp ?_)
 | ((with_reducible apply zm0); (focus walk_at "is"))
 | ((with_reducible apply zm3); (focus walk_at "is"))
 | ((with_reducible apply zfc); (focus (apply SqL.of; walk_at "lst")); (focus rfl))
 | ((with_reducible apply zmz); (focus assumption); (focus rfl); intro hN eN lN; dsimp only [Int.reduceToNat,List.set_cons_succ,List.set_cons_zero] at lN)
 | ((with_reducible apply zkZ); (focus walk_at "is"))
 | ((with_reducible apply zlf); (focus walk_at "is"))
 | ((with_reducible apply zlQ); (focus walk_at "is"))
 | dsimp only [List.set_cons_succ,List.set_cons_zero])
/- one statement behind another: what follows stands behind a name -/
set_option hygiene false in
open L2 GM in
local macro_rules | `(tactic| walk_at "sq")=>`(tactic| with_reducible refine zmV (fun tl_ htl_=>?_))
set_option hygiene false in
open L2 GM in
local macro_rules | `(tactic| walk_at "tl")=>`(tactic| ((with_reducible refine zhQ.go (by assumption) ?_); (try clear htl_ tl_)))
/- how great a number is -/
open L2 GM in
local macro_rules | `(tactic| walk_at "bdr0")=>`(tactic| first
 | assumption
 | exact Bdr.zero
 | exact Bdr.one
 | exact Bdr.four
 | (apply Bdr.add; (focus walk_at "bdr0"); walk_at "bdr0")
 | (apply Bdr.sub; (focus walk_at "bdr0"); walk_at "bdr0")
 | (apply Bdr.mul; (focus walk_at "bdr0"); walk_at "bdr0"))
open L2 GM in
local macro_rules | `(tactic| walk_at "bdr")=>`(tactic| first
 | assumption
 | (apply Bdr.mono; (focus walk_at "bdr0"); (first | decide | omega)))
/- .. with new tuples,lists,dicts -/
open L2 GM in
local macro_rules | `(tactic| walk_at "ga1")=>`(tactic| first
 | walk_at "gs"
 | ((with_reducible apply zdl); (focus (simp only [List.length_cons,List.length_nil]; decide)); (focus walk_at "isall"); intro _ _ _ _)
 | ((with_reducible apply zbq); (focus (simp only [List.length_cons,List.length_nil]; decide)); intro _ _ _ _ _))
local macro_rules | `(tactic| walk_at "ga")=>`(tactic| repeat' (first | walk_at "ga1" | walk_at "tl"))
local macro_rules | `(tactic| walk_at "gg")=>`(tactic| repeat' (first | walk_at "gs" | walk_at "tl"))
local macro_rules | `(tactic| walk_at "gt")=>`(tactic| repeat' (walk_at "gs"))
open L2 GM in
local macro_rules | `(tactic| walk_at "bd128")=>`(tactic| first
 | exact Bd.mono (m:=128) ⟨by decide⟩ (by decide)
 | exact (Bd.of128 (by omega) (by omega)).mono (by decide))
open L2 GM in
local macro_rules | `(tactic| walk_at "gs")=>`(tactic| first
 | with_reducible (first | refine zph ?_ | refine zkj ?_ | refine zo7 ?_ | refine zkE ?_ | refine zkQ ?_ | refine zlo ?_ | refine zlS ?_ | refine zlp ?_ | refine zkC ?_ | refine zpb ?_ | refine zoG ?_ | refine zk8 ?_ | refine znW ?_ | refine zmx ?_ | refine zlA ?_ | refine zjW ?_ | refine zmK ?_ | refine zlw ?_)
 | ((with_reducible apply zfc); (focus (apply SqL.of; walk_at "lst")); (focus rfl))
 | ((with_reducible apply zm6); (focus walk_at "lst"); (focus omega); (focus omega); intro _ _)
 | ((with_reducible apply zlX); (focus walk_at "lst"); (focus omega); (focus omega); intro _ _))
set_option hygiene false in
local macro_rules | `(tactic| walk_at "b1")=>`(tactic| (focus (intro vs H Q E h; obtain ⟨_,rfl,_⟩:=h; rfl)); (intro cdv A outer s H vs Q E hr h; obtain ⟨x0,rfl,h⟩:=h; have hu:=hr.units))
set_option hygiene false in
local macro_rules | `(tactic| walk_at "b2")=>`(tactic| (focus (intro vs H Q E h; obtain ⟨_,_,rfl,_⟩:=h; rfl)); (intro cdv A outer s H vs Q E hr h; obtain ⟨x0,x1,rfl,h⟩:=h; have hu:=hr.units))
set_option hygiene false in
local macro_rules | `(tactic| walk_at "b3")=>`(tactic| (focus (intro vs H Q E h; obtain ⟨_,_,_,rfl,_⟩:=h; rfl)); (intro cdv A outer s H vs Q E hr h; obtain ⟨x0,x1,x2,rfl,h⟩:=h; have hu:=hr.units))
set_option hygiene false in
local macro_rules | `(tactic| walk_at "cl")=>`(tactic| ((clear hu); (try clear hgd); (first | dsimp only [zf7,cxOfH] | dsimp only [zf7] | skip)))
namespace G
open PySem PySem.Spec PyProof.Rows L2 GM
section
variable {P : Program} {w : World} {K : PySem.W.Frag} {mg : Str -> Option Value} {base : Heap} {a : Ad}
def isInt : PyData -> Bool
 | .int _=>true
 | _=>false
def zfD (K : PySem.W.Frag) : Sp:=fun vs H Q _=>∃ x0,vs = [x0] /\ ∃ d,Is K H x0 d /\ Q (.bl (isInt d)) H
theorem zh5 {K : PySem.W.Frag} {H : Hp} {Q : VK} {E : XK} {v : V} {d : PyData} (h : Is K H v d) (q : Q (.bl (isInt d)) H) : zfD K [v] H Q E:=⟨v,rfl,d,h,q⟩
local macro_rules | `(tactic| walk_at "gs")=>`(tactic| ((with_reducible apply zh5); (focus walk_at "is")))
set_option maxHeartbeats 4000000 in
theorem zdE (T : Txt K mg a) : zaP P w K mg base CX0 1 a.is_whole a.fd_is_whole zdh (zfD K):=by
 refine T.d_is_whole.F.ok zib ?_ ?_
 walk_at "b1"
 refine ⟨_,(zag (zak (zeq (zai (show zaj _ (.builtin "isinstance") (zbY K) from zbb) rfl T.z_isinstance zav (zaa (pv 0) (zaa (zb4 (v:=.ty "int") rfl T.z_int zfl rfl) zab))) (zdJ (znM (zai (show zaj _ (.builtin "isinstance") (zbY K) from zbb) rfl T.z_isinstance zav (zaa (pv 0) (zaa (zb4 (v:=.ty "bool") rfl T.z_bool zmI rfl) zab)))))))),?_⟩
 walk_at "cl"
 rw [show start zeh [x0] = [some x0] from rfl]
 obtain ⟨d,hd,q⟩:=h
 walk_at "gg"
 all_goals (cases d <;> simp_all [isInt,zi0,zoK])
def zee (l m : Int) : PyData -> Bool
 | .int i=>decide (l <= i) && decide (i <= m)
 | _=>false
theorem ziR {l m : Int} {d : PyData} (h : isInt d = false) : zee l m d = false:=by cases d <;> first | rfl | cases h
def zcN (K : PySem.W.Frag) : Sp:=fun vs H Q _=>∃ x0 x1 x2,vs = [x0,x1,x2] /\ ∃ (l m : Int) (d : PyData),x0 = .int l /\ x1 = .int m /\ Is K H x2 d /\ Q (.bl (zee l m d)) H
theorem zc0 {K : PySem.W.Frag} {H : Hp} {Q : VK} {E : XK} {l m : Int} {v : V} {d : PyData} (h : Is K H v d) (q : Q (.bl (zee l m d)) H) : zcN K [.int l,.int m,v] H Q E:=⟨_,_,_,rfl,l,m,d,rfl,rfl,h,q⟩
set_option maxHeartbeats 4000000 in
theorem zcP (T : Txt K mg a) : zaP P w K mg base CX0 2 a.is_whole_from a.fd_is_whole_from zbh (zcN K):=by
 refine T.d_is_whole_from.F.ok zfn ?_ ?_
 walk_at "b3"
 refine ⟨_,(zag (zak (zeq (pcl (zdE T) hr T.d_is_whole (zaa (pv 2) zab)) (zdJ (zkS zjQ zjQ (pv 0) (pv 2) (pv 1)))))),?_⟩
 walk_at "cl"
 rw [show start zbV [x0,x1,x2] = [some x0,some x1,some x2] from rfl]
 obtain ⟨l,m,d,rfl,rfl,hd,q⟩:=h
 have hc : (∃ i,d = .int i) \/ isInt d = false:=by cases d <;> simp [isInt]
 rcases hc with ⟨i,rfl⟩ | hn
 . cases zay.mp hd
   have q : Q (.bl (decide (l <= i) && decide (i <= m))) H:=q
   walk_at "gg"
   . rename_i z
     rw [decide_eq_true z,Bool.true_and] at q
     exact q
   . rename_i z
     rw [decide_eq_false z,Bool.false_and] at q
     exact q
   . rename_i z; cases (show true = false from z)
 . rw [ziR hn] at q
   walk_at "gg"
   . rename_i z1; rw [hn] at z1; cases z1
   . exact q
def zbZ (K : PySem.W.Frag) : Sp:=fun vs H Q _=>∃ x0 x1,vs = [x0,x1] /\ ∃ a b : Int,x0 = .int a /\ x1 = .int b /\ 0 <= a /\ 0 <= b /\ Q (.int (Int.gcd a b : Nat)) H
theorem zd2 {K : PySem.W.Frag} {H : Hp} {Q : VK} {E : XK} {a b : Int} (ha : 0 <= a) (hb : 0 <= b) (q : Q (.int (Int.gcd a b : Nat)) H) : zbZ K [.int a,.int b] H Q E:=⟨_,_,rfl,a,b,rfl,rfl,ha,hb,q⟩
set_option maxHeartbeats 4000000 in
theorem zd1 (T : Txt K mg a) : zaP P w K mg base CX0 1 a.greatest_divisor a.fd_greatest_divisor zaX (zbZ K):=by
 refine T.d_greatest_divisor.F.ok zaQ ?_ ?_
 walk_at "b2"
 refine ⟨_,(zad (zh7 PassesOwn.never (zaC (show OpR _ (compareOp .NotEq) (zeA K) from zc9 hu) (pv 1) zaf (zaA _)) (zad (pst 2 zaQ.nd (zan zbW (pv 0) (pv 1)))
     (zad (pst 0 zaQ.nd (pv 1))
     (zag (pst 1 zaQ.nd (pv 2))))))
     (zag (zak (pv 0)))),?_⟩
 walk_at "cl"
 rw [show start zcj [x0,x1] = [some x0,some x1,none] from rfl]
 obtain ⟨a',b',rfl,rfl,ha,hb,q⟩:=h
 refine znJ ?_
 refine zie (fun σ H'=>∃ (x y : Int) (r : Option V),σ = [some (.int x),some (.int y),r] /\ 0 <= x /\ 0 <= y /\ Int.gcd x y = Int.gcd a' b' /\ H' = H) (fun σ=>(ixI σ 1).toNat) ⟨a',b',none,rfl,ha,hb,rfl,rfl⟩ ?_
 rintro σ H' ⟨x,y,r,rfl,hx,hy,hg,rfl⟩
 walk_at "gg"
 . refine zjo ?_
   walk_at "gg"
   have h1:=Int.emod_nonneg x (show y ≠ 0 by assumption)
   have h2:=Int.emod_lt_of_pos x (show 0 < y by omega)
   refine ⟨?_,_,_,_,rfl,hy,h1,?_,rfl⟩
   . show (x % y).toNat < y.toNat
     omega
   . rw [<- hg]; exact zij (by omega) hx
 . rename_i h0
   subst h0
   have e : ((Int.gcd a' b' : Nat) : Int) = x:=by
     rw [<- hg,Int.gcd_zero_right]; omega
   rw [e] at q
   exact q
def zck : PyData -> Bool
 | .tuple [.int p,.int q]=>zgf p q
 | _=>false
theorem zgr (r : Rat) : zck (N r) = true:=zj4 r
theorem ziU {d : PyData} (h : zg7 d = false) : zck d = false:=by
 cases d <;> first | rfl | (simp [zg7] at h)
theorem ziI {ds : List PyData} (h : ¬ ds.length = 2) : zck (.tuple ds) = false:=by
 match ds with
 | []=>rfl
 | [_]=>simp [zck]
 | [_,_]=>exact absurd rfl h
 | _ :: _ :: _ :: _=>simp [zck]
theorem zhr {d e : PyData} (h : isInt d = false) : zck (.tuple [d,e]) = false:=by
 cases d <;> first | rfl | (simp [isInt] at h)
theorem zgy {d e : PyData} (h : isInt e = false) : zck (.tuple [d,e]) = false:=by
 cases d <;> cases e <;> first | rfl | (simp [isInt] at h)
theorem zgV {d : PyData} : isInt d = true ↔ ∃ i,d = .int i:=by cases d <;> simp [isInt]
def zeW (K : PySem.W.Frag) : Sp:=fun vs H Q _=>∃ x0,vs = [x0] /\ ∃ d,Is K H x0 d /\ Q (.bl (zck d)) H
theorem zhJ {K : PySem.W.Frag} {H : Hp} {Q : VK} {E : XK} {v : V} {d : PyData} (h : Is K H v d) (q : Q (.bl (zck d)) H) : zeW K [v] H Q E:=⟨v,rfl,d,h,q⟩
local macro_rules | `(tactic| walk_at "gs")=>`(tactic| ((with_reducible apply zhJ); (focus walk_at "is")))
set_option maxHeartbeats 4000000 in
theorem zdo (T : Txt K mg a) : zaP P w K mg base CX0 2 a.is_number a.fd_is_number zcE (zeW K):=by
 refine T.d_is_number.F.ok zhh ?_ ?_
 walk_at "b1"
 refine ⟨_,(zad (za5 (PW.pt (zcU (za0 (zaS (zai (show zaj _ (.builtin "isinstance") (zbY K) from zbb) rfl T.z_isinstance zav (zaa (pv 0) (zaa (zb4 (v:=.ty "tuple") rfl T.z_tuple zbs rfl) zab))))) (zcI (zaC (show OpR _ (compareOp .NotEq) (zeA K) from zc9 hu) (zai (show zaj _ (.builtin "len") (zd3 K) from zaT) rfl T.z_len zbv (zaa (pv 0) zab)) zaf (zaA _))))) (zag (zak zcn)) zat)
     (zad (za5 (PW.pt (zcU (za0 (zaS (pcl (zdE T) hr T.d_is_whole (zaa (pix (pv 0)) zab)))) (zcI (za0 (zaS (pcl (zdE T) hr T.d_is_whole (zaa (pix (pv 0)) zab))))))) (zag (zak zcn)) zat)
     (zag (zak (zeq (zcq znC (pix (pv 0)) zaf (zaA _)) (zdJ (zcq (show OpR _ (compareOp .Eq) (zgD K) from zfd hu) (pcl (zd1 T) hr T.d_greatest_divisor (zaa (zai zgS rfl T.z_abs zkz (zaa (pix (pv 0)) zab)) (zaa (pix (pv 0)) zab))) zaf (zaA _)))))))),?_⟩
 walk_at "cl"
 rw [show start zdv [x0] = [some x0] from rfl]
 obtain ⟨d,hd,q⟩:=h
 walk_at "gg"
 . rename_i e
   rw [ziU e] at q
   exact q
 . rename_i e
   obtain ⟨ds,rfl⟩:=zj7.mp e
   refine zfQ hd ?_
   walk_at "gg"
   . rename_i e
     rw [ziI (by omega)] at q
     exact q
   . rename_i e
     obtain ⟨d0,d1,rfl⟩ : ∃ d0 d1,ds = [d0,d1]:=by
       match ds,e with
       | [d0,d1],_=>exact ⟨d0,d1,rfl⟩
       | [],e=>simp at e
       | [_],e=>simp at e
       | _ :: _ :: _ :: _,e=>simp at e; omega
     refine za1 (j:=0) hd rfl (fun y0 h0=>?_)
     walk_at "gg"
     . rename_i e
       rw [zhr e] at q
       exact q
     . rename_i e0
       obtain ⟨i,rfl⟩:=zgV.mp e0
       refine za1 (j:=1) hd rfl (fun y1 h1=>?_)
       walk_at "gg"
       . rename_i e
         rw [zgy e] at q
         exact q
       . rename_i e1
         obtain ⟨j,rfl⟩:=zgV.mp e1
         refine za1 (j:=1) hd rfl (fun y2 h2=>?_)
         cases zay.mp h2
         walk_at "gg"
         . refine za1 (j:=0) hd rfl (fun y3 h3=>?_)
           cases zay.mp h3
           walk_at "gg"
           refine za1 (j:=1) hd rfl (fun y4 h4=>?_)
           cases zay.mp h4
           walk_at "gg"
           refine zd2 (by split <;> omega) (by omega) ?_
           walk_at "gg"
           have e3 : zck (.tuple [.int i,.int j]) = decide ((Int.gcd (if i < 0 then -i else i) j : Nat) = (1 : Int)):=by
             have e4 : Int.gcd (if i < 0 then -i else i) j = Int.gcd i j:=by
               split <;> simp
             rw [e4]
             show zgf i j = _
             rename_i e5
             simp only [zgf,e5,decide_true,Bool.true_and]
             rw [Bool.eq_iff_iff,decide_eq_true_eq,decide_eq_true_eq]
             omega
           rw [e3] at q
           exact q
         . rename_i e5
           have e3 : zck (.tuple [.int i,.int j]) = false:=by
             show zgf i j = false
             simp only [zgf,e5,decide_false,Bool.false_and]
           rw [e3] at q
           exact q
def zeu (K : PySem.W.Frag) : Sp:=fun vs H Q _=>∃ x0 x1,vs = [x0,x1] /\ ∃ (h : Rat) (xs : List Rat) (ds : List PyData),Is K H x0 (.tuple (N h :: TN xs :: ds)) /\ x1 = .int (xs.length : Int) /\ xs.length <= 8 /\ ∀ H',zah H H' -> Q (.bl true) H'
theorem zeR {K : PySem.W.Frag} {H : Hp} {Q : VK} {E : XK} {h : Rat} {xs : List Rat} {ds : List PyData} {v : V} (i : Is K H v (.tuple (N h :: TN xs :: ds))) (h8 : xs.length <= 8) (q : ∀ H',zah H H' -> Q (.bl true) H') : zeu K [v,.int (xs.length : Int)] H Q E:=⟨_,_,rfl,h,xs,ds,i,rfl,h8,q⟩
set_option maxHeartbeats 4000000 in
theorem zev (T : Txt K mg a) : zaP P w K mg base CX0 3 a.has_stand a.fd_has_stand zcm (zeu K):=by
 refine T.d_has_stand.F.ok zhx ?_ ?_
 walk_at "b2"
 refine ⟨_,(zad (za5 (PW.pt (zcU (za0 (zaS (pcl (zdo T) hr T.d_is_number (zaa (pix (pv 0)) zab)))) (zcU (za0 (zaS (zai (show zaj _ (.builtin "isinstance") (zbY K) from zbb) rfl T.z_isinstance zav (zaa (pix (pv 0)) (zaa (zb4 (v:=.ty "tuple") rfl T.z_tuple zbs rfl) zab))))) (zcI (zaC (show OpR _ (compareOp .NotEq) (zeA K) from zc9 hu) (zai (show zaj _ (.builtin "len") (zd3 K) from zaT) rfl T.z_len zbv (zaa (pix (pv 0)) zab)) (pv 1) (zaA _)))))) (zag (zak zcn)) zat)
     (zag (zak (zai (show zaj _ (.builtin "all") (zfC K) from zcc rfl) rfl T.z_all zfb (zaa (zaR rfl (zaI.by (N':=["phase"]) (src:=[none]) rfl (show zaB _ (zae zcy).names zcr ["phase"] [none] = true from by decide +kernel)) (zf3 (pix (pv 0))) (fun _ _ _ _ _=>(zaz (i:=0) (show (["phase"] : List Str).Nodup from by decide) rfl (Or.inl rfl))) (fun _ _ _ _ _=>zaL) (fun _ _ _ _ _=>(pcl (zdo (K:=K) (mg:=mg) (a:=a) T) hr T.d_is_number (zaa (pv 0) zab)))) zab))))),?_⟩
 walk_at "cl"
 rw [show start zcr [x0,x1] = [some x0,some x1] from rfl]
 obtain ⟨hh,xs,ds,hi,rfl,h8,q⟩:=h
 walk_at "gg"
 refine za1 (j:=0) hi rfl (fun v0 i0=>?_)
 walk_at "gg"
 all_goals first | (rename_i e; rw [zgr] at e; cases (show true = false from e)) | skip
 refine za1 (j:=1) hi rfl (fun v1 i1=>?_)
 walk_at "gg"
 all_goals first | (rename_i e; cases (show true = false from e)) | skip
 refine za1 (j:=1) hi rfl (fun v2 i2=>?_)
 walk_at "gg"
 refine zid i2 ?_
 walk_at "gg"
 all_goals first | (rename_i e; exact absurd rfl e) | skip
 refine za1 (j:=1) hi rfl (fun v3 i3=>?_)
 walk_at "gg"
 obtain ⟨a3,vs3,rfl,s3,t3⟩:=zau.mp i3
 refine zeG s3 (o0:=none) (tl:=[]) rfl (fun j y _=>y = .bl true) ?_ ?_
 . intro D j x ys o H1 hx inv
   obtain ⟨hj,ix⟩:=zkp t3 hx
   have ix:=ix.by inv.2.2.1
   walk_at "gg"
   rw [zgr]
   exact zaG inv (by omega) (fun _ _ _ _ _ h=>h) ⟨_,rfl⟩ (zah.refl _) rfl
 . intro D ys H1 n1 S1 e1 l1 r1
   have ey : ys = (List.replicate ys.length true).map V.bl:=by
     refine List.ext_getElem (by simp) fun i h1 h2=>?_
     rw [r1 i ys[i] (List.getElem?_eq_getElem h1)]
     simp
   rw [ey] at e1
   walk_at "gg"
   refine zdZ (.of e1) ?_
   rw [show (List.replicate ys.length true).all id = true by simp]
   exact q _ S1
def zgK (K : PySem.W.Frag) : Sp:=fun vs H Q _=>∃ x0 x1,vs = [x0,x1] /\ ∃ (h : Rat) (xs : List Rat) (f g : Int),Is K H x0 (.tuple [N h,TN xs,.int f,.int g]) /\ x1 = .int (xs.length : Int) /\ xs.length <= 8 /\ 0 <= f /\ f <= 30 /\ 0 <= g /\ g <= 40 /\ ∀ H',zah H H' -> Q (.bl true) H'
theorem zkf {K : PySem.W.Frag} {H : Hp} {Q : VK} {E : XK} {h : Rat} {xs : List Rat} {f g : Int} {v : V} {n : Nat} (e : xs.length = n) (i : Is K H v (.tuple [N h,TN xs,.int f,.int g])) (h8 : xs.length <= 8) (f0 : 0 <= f) (f1 : f <= 30) (g0 : 0 <= g) (g1 : g <= 40) (q : ∀ H',zah H H' -> Q (.bl true) H') : zgK K [v,.int (n : Int)] H Q E:=⟨_,_,rfl,h,xs,f,g,i,by rw [e],h8,f0,f1,g0,g1,q⟩
set_option maxHeartbeats 4000000 in
theorem zkl (T : Txt K mg a) : zaP P w K mg base CX0 4 a.is_row a.fd_is_row ze5 (zgK K):=by
 refine T.d_is_row.F.ok zkd ?_ ?_
 walk_at "b2"
 refine ⟨_,(zad (za5 (PW.pt (zcU (za0 (zaS (zai (show zaj _ (.builtin "isinstance") (zbY K) from zbb) rfl T.z_isinstance zav (zaa (pv 0) (zaa (zb4 (v:=.ty "tuple") rfl T.z_tuple zbs rfl) zab))))) (zcU (zaC (show OpR _ (compareOp .NotEq) (zeA K) from zc9 hu) (zai (show zaj _ (.builtin "len") (zd3 K) from zaT) rfl T.z_len zbv (zaa (pv 0) zab)) zaf (zaA _)) (zcI (za0 (zaS (pcl (zev T) hr T.d_has_stand (zaa (pv 0) (zaa (pv 1) zab))))))))) (zag (zak zcn)) zat)
     (zag (zak (zeq (pcl (zcP T) hr T.d_is_whole_from (zaa zaf (zaa (zeM rfl T.c_MOST_FREE) (zaa (pix (pv 0)) zab)))) (zdJ (pcl (zcP T) hr T.d_is_whole_from (zaa zaf (zaa (zeM rfl T.c_MOST_GLOWS) (zaa (pix (pv 0)) zab))))))))),?_⟩
 walk_at "cl"
 rw [show start zfU [x0,x1] = [some x0,some x1] from rfl]
 obtain ⟨hh,xs,f,g,hi,rfl,h8,f0,f1,g0,g1,q⟩:=h
 walk_at "gg"
 all_goals first | (rename_i e; cases (show true = false from e)) | skip
 refine zfQ hi ?_
 walk_at "gg"
 all_goals first | (rename_i e; exact absurd rfl e) | skip
 refine zeR hi h8 (fun H1 S1=>?_)
 have hi1:=hi.by S1
 walk_at "gg"
 refine za1 (j:=2) hi1 rfl (fun v2 i2=>?_)
 walk_at "gg"
 refine zc0 i2 ?_
 rw [show zee 0 30 (.int f) = true by simp [zee,f0,f1]]
 walk_at "gg"
 refine za1 (j:=3) hi1 rfl (fun v3 i3=>?_)
 walk_at "gg"
 refine zc0 i3 ?_
 rw [show zee 0 40 (.int g) = true by simp [zee,g0,g1]]
 exact q _ S1
def zS (z : Int) : Str:=zax z.toNat
theorem zps {z : Int} (h : 0 <= z) : PySem.Str.ofString (toString z) = zS z:=by
 obtain ⟨n,rfl⟩ : ∃ n : Nat,z = (n : Int):=⟨z.toNat,by omega⟩
 exact zhP n
def zb9 (zs : List Int) : Str:=PySem.Str.join " " (zs.map zS)
theorem zfv : (PySem.Str.ofString " ") = ⟨#[32]⟩:=by decide
theorem zdw {n : Nat} (h : n < 100) : (zar n).length <= 2:=zgc (by decide) h
theorem zaN (n : Nat) : (zax n).length = (zar n).length:=by simp [zax,PySem.Str.length]
theorem zja {z : Int} (h0 : 0 <= z) (h1 : z < 100) : (zS z).length <= 2:=by
 unfold zS
 rw [zaN]
 exact zdw (by omega)
theorem znI : (PySem.Str.ofString "0123456789") = znK:=by decide
theorem zic (n : Nat) : (zax n).cps.all (· < 128) = true:=by
 rw [<- Array.all_toList]
 show (((zar n).map (48 + ·)).toArray.toList).all _ = true
 rw [List.all_eq_true]
 intro c hc
 obtain ⟨d,h1,rfl⟩:=List.mem_map.mp hc
 have:=zbH n d h1
 exact decide_eq_true (by omega)
theorem zmL {n i c : Nat} (h : (zax n).cps[i]? = some c) : ∃ d,d < 10 /\ c = 48 + d:=by
 have h : ((zar n).map (48 + ·)).toArray[i]? = some c:=h
 rw [List.getElem?_toArray,List.getElem?_map] at h
 obtain ⟨d,hd,rfl⟩:=Option.map_eq_some_iff.mp h
 exact ⟨d,zbH n d (List.mem_of_getElem? hd),rfl⟩
theorem zi9 {x : PySem.Str} (h : x.cps.all (· < 128) = true) : PyData.strOk x = true:=by
 unfold PyData.strOk
 rw [<- Array.all_toList,List.all_eq_true] at h ⊢
 intro c hc
 have:=of_decide_eq_true (h c hc)
 exact decide_eq_true (by omega)
theorem zkh (n : Nat) : PyData.strOk (zax n) = true:=zi9 (zic n)
theorem zku (n : Nat) : (zax n == PySem.Str.ofString "0") = decide (n = 0):=by
 have e : PySem.Str.ofString "0" = zax 0:=by unfold zax; rw [zbM (by decide)]; decide
 rw [e]
 by_cases h : n = 0
 . subst h; simp
 . rw [decide_eq_false h]
   simp only [beq_eq_false_iff_ne,ne_eq]
   exact fun z=>h (zln z)
theorem zj3 {n : Nat} (h : n ≠ 0) : ∃ d,0 < d /\ d < 10 /\ (zax n).cps.toList[0]? = some (48 + d):=by
 cases e : zar n with
 | nil=>exact absurd e (zde n)
 | cons d ds =>
   refine ⟨d,?_,zbH n d (by rw [e]; simp),?_⟩
   . rcases Nat.eq_zero_or_pos d with z | z
     . exact absurd (zgX n (by rw [e,z]; rfl)) h
     . exact z
   . simp [zax,e]
theorem zkR : ∀ d,d < 10 -> 0 < d -> ((⟨#[48 + d]⟩ : PySem.Str) == PySem.Str.ofString "0") = false:=by decide
structure zp0 (rs : List Int) (us ts : List (List Int)) : Prop where
 l : rs.length = us.length
 n : rs.length <= 8
 r : ∀ z ∈ rs,0 <= z /\ z < 100
 u : ∀ x ∈ us,x.length <= 60 /\ ∀ z ∈ x,0 <= z /\ z < 100
 tl : ts.length <= 100
 t : ∀ x ∈ ts,x.length <= 60 /\ ∀ z ∈ x,0 <= z /\ z < 100
theorem zac (x y : PySem.Str) : (x ++ y).length = x.length + y.length:=by
 show (x.cps ++ y.cps).size = x.cps.size + y.cps.size
 simp
theorem ze4 {x : PySem.Str} {B : Nat} : ∀ {ts : List PySem.Str},(∀ t ∈ ts,t.length <= B) -> (PySem.Str.join x ts).length <= ts.length * (B + x.length)
 | [],_=>by show (0 : Nat) <= _; omega
 | [t],h=>by
   have:=h t (by simp)
   show t.length <= _
   simp only [List.length_singleton]
   omega
 | t :: u :: r,h=>by
   have:=h t (by simp)
   have ih:=ze4 (x:=x) (ts:=u :: r) (fun y hy=>h y (List.mem_cons_of_mem _ hy))
   show (t ++ x ++ PySem.Str.join x (u :: r)).length <= _
   rw [zac,zac,List.length_cons (a:=t),Nat.add_mul,Nat.one_mul]
   omega
theorem zlI : (PySem.Str.ofString " ").length = 1:=by decide
theorem ziA {zs : List Int} (h : ∀ z ∈ zs,0 <= z /\ z < 100) : (zb9 zs).length <= zs.length * 3:=by
 have:=ze4 (x:=" ") (B:=2) (ts:=zs.map zS) (fun t ht=>by
   obtain ⟨z,hz,rfl⟩:=List.mem_map.mp ht
   exact zja (h z hz).1 (h z hz).2)
 rw [List.length_map,show (PySem.Str.ofString " ").length = 1 from zlI] at this
 exact this
theorem zdX (x : PySem.Str) : PySem.Str.empty ++ x = x:=by
 cases x with | mk c=>show (⟨#[] ++ c⟩ : PySem.Str) = _; simp
theorem zos {z : Int} {c : Nat} (h : c < 48) : c ∉ (zS z).cps.toList:=by
 intro hc
 unfold zS zax at hc
 simp only [List.mem_map] at hc
 obtain ⟨d,_,e⟩:=hc
 omega
theorem zf0 {c e : Nat} (he : c ≠ e) : ∀ {xs : List (List Nat)},(∀ x ∈ xs,c ∉ x) -> c ∉ zcQ e xs
 | [],_=>by simp [zcQ]
 | [x],h=>by simpa [zcQ] using h x (by simp)
 | x :: y :: r,h=>by
   have ih:=zf0 he (xs:=y :: r) (fun z hz=>h z (List.mem_cons_of_mem _ hz))
   have:=h x (by simp)
   show c ∉ x ++ e :: zcQ e (y :: r)
   simp only [List.mem_append,List.mem_cons,not_or]
   exact ⟨this,he,ih⟩
theorem zcK {x y : PySem.Str} {c : Nat} (h1 : c ∉ x.cps.toList) (h2 : c ∉ y.cps.toList) : c ∉ (x ++ y).cps.toList:=by
 show c ∉ (x.cps ++ y.cps).toList
 simp only [Array.toList_append,List.mem_append,not_or]
 exact ⟨h1,h2⟩
theorem zmW (n : Nat) : n < 10 ^ (zar n).length:=by
 induction n using Nat.strongRecOn with
 | ind n ih =>
   by_cases h : n < 10
   . rw [zbM h]; simpa using h
   . rw [zdp (by omega),List.length_append,List.length_singleton,Nat.pow_succ]
     have:=ih (n / 10) (by omega)
     omega
structure Fit (k : Nat) (r : Rat) : Prop where
 n : (zar r.num.natAbs).length <= k
 d : (zar r.den).length <= k
theorem Fit.of {k : Nat} {r : Rat} (hk : 1 <= k) (h1 : r.num.natAbs < 10 ^ k) (h2 : r.den < 10 ^ k) : Fit k r:=⟨zgc hk h1,zgc hk h2⟩
theorem Fit.mono {k l : Nat} {r : Rat} (h : Fit k r) (e : k <= l) : Fit l r:=⟨Nat.le_trans h.n e,Nat.le_trans h.d e⟩
theorem zdQ {n : Nat} (h : (zar n).length <= 400) : n.log2 < 1920:=by
 by_cases z : n = 0
 . subst z; decide
 . rw [Nat.log2_lt z]
   refine Nat.lt_of_lt_of_le (zmW n) (Nat.le_trans (Nat.pow_le_pow_right (by decide) h) ?_)
   rw [show 1920 = 4 * 480 from rfl,Nat.pow_mul]
   exact Nat.le_trans (Nat.pow_le_pow_left (show 10 <= 2 ^ 4 by decide) 400) (Nat.pow_le_pow_right (by decide) (by decide))
theorem zjH : (PySem.Str.ofString "/") = ⟨#[47]⟩:=by decide
theorem zpd : (PySem.Str.ofString "-") = ⟨#[45]⟩:=by decide
theorem zjc {x : PySem.Str} (h : ∀ c,127 < c -> c ∉ x.cps.toList) : PyData.strOk x = true:=zi9 (by
 rw [<- Array.all_toList,List.all_eq_true]
 intro c hc
 refine decide_eq_true ?_
 rcases Nat.lt_or_ge c 128 with z | z
 . exact z
 . exact absurd hc (h c (by omega)))
theorem zjC (r : Rat) : PyData.strOk (zaJ r) = true:=zjc fun c h=>zdN (by omega)
theorem zm2 (x : PySem.Str) : x.length = x.cps.toList.length:=by simp [PySem.Str.length]
theorem zdB (z : Int) : (zbl z).length <= (zar z.natAbs).length + 1:=by
 unfold zbl
 split
 . rw [zac,zaN]
   show 1 + _ <= _
   omega
 . rw [zaN]; omega
theorem zbQ {k : Nat} {r : Rat} (h : Fit k r) : (zaJ r).length <= 2 * k + 2:=by
 have h1:=h.n
 have h2:=h.d
 have h3:=zdB r.num
 unfold zaJ
 split
 . omega
 . rw [zac,zac,zaN]
   show _ + 1 + _ <= _
   omega
theorem zim (n : Nat) : 1 <= (zax n).length:=by rw [zaN]; exact List.length_pos_iff.mpr (zde n)
theorem zf4 (n : Nat) : zbl (n : Int) = zax n:=by
 unfold zbl
 rw [if_neg (by omega)]
 rfl
def zfV (r : Rat) : List Nat:=if r.den = 1 then [] else [r.den]
theorem zkT (r : Rat) : zaJ r = PySem.Str.join ⟨#[47]⟩ (zbl r.num :: (zfV r).map zax):=by
 unfold zaJ zfV
 split <;> rfl
theorem zgT (r : Rat) : Txt.split (zaJ r) "/" = zbl r.num :: (zfV r).map zax:=by
 rw [show (PySem.Str.ofString "/") = ⟨#[47]⟩ from zjH,zkT]
 refine zeo (by simp) fun t ht=>?_
 rcases List.mem_cons.mp ht with rfl | ht
 . exact zeT (by omega)
 . obtain ⟨n,_,rfl⟩:=List.mem_map.mp ht
   exact zhS (by omega)
theorem zio (r : Rat) : Txt.partition (zaJ r) "/" = if r.den = 1 then (zbl r.num,PySem.Str.empty,PySem.Str.empty) else (zbl r.num,⟨#[47]⟩,zax r.den):=by
 rw [show (PySem.Str.ofString "/") = ⟨#[47]⟩ from zjH]
 unfold zaJ
 split
 . exact zjS (zeT (by omega))
 . exact zmw (zeT (by omega))
theorem zlW (n : Nat) : ∃ d,d < 10 /\ (zax n).cps.toList[0]? = some (48 + d):=by
 cases e : zar n with
 | nil=>exact absurd e (zde n)
 | cons d ds=>exact ⟨d,zbH n d (by rw [e]; simp),by simp [zax,e]⟩
theorem zk7 (z : Int) : ((zbl z).cps.toList[0]? = some 45) ↔ z < 0:=by
 unfold zbl
 split
 . rename_i h
   rw [zaW]
   simp [h]
 . rename_i h
   obtain ⟨d,hd,e⟩:=zlW z.natAbs
   rw [e]
   simp only [Option.some.injEq]
   omega
theorem zg5 {x y : PySem.Str} (h : 1 <= x.length) : (x ++ y).cps.toList[0]? = x.cps.toList[0]?:=by
 rw [zaW,List.getElem?_append_left (by rw [<- zm2]; omega)]
theorem zik (z : Int) : 1 <= (zbl z).length:=by
 unfold zbl
 have:=zim z.natAbs
 split
 . rw [zac]; omega
 . exact this
theorem zi3 (r : Rat) : Txt.startswith (zaJ r) "-" = decide (r.num < 0):=by
 rw [show (PySem.Str.ofString "-") = ⟨#[45]⟩ from zpd,ziS]
 have:=zik r.num
 have e : (zaJ r).cps.toList[0]? = (zbl r.num).cps.toList[0]?:=by
   unfold zaJ
   split
   . rfl
   . rw [zg5 (by rw [zac]; omega),zg5 this]
 rw [e,Bool.eq_iff_iff,decide_eq_true_eq,decide_eq_true_eq]
 exact zk7 r.num
theorem zn8 {z : Int} (h : z < 0) : StrLaws.sliceText (zbl z) (some 1) none = zax z.natAbs:=by
 unfold zbl
 rw [if_pos h]
 exact zj6
theorem zlM {z : Int} (h : ¬ z < 0) : zbl z = zax z.natAbs:=by
 unfold zbl
 rw [if_neg h]
theorem zmv (x : V) (xs : List V) : ze0 (x :: xs) (some 1) none = xs:=by
 unfold ze0
 have e1 : HT.sIx (x :: xs).length 0 (some 1) = 1:=by simp [HT.sIx]
 have e2 : HT.sIx (x :: xs).length (x :: xs).length none = (x :: xs).length:=by simp [HT.sIx]
 rw [e1,e2]
 simp
def zbm (xs : List Rat) : PySem.Str:=PySem.Str.join " " (xs.map zaJ)
theorem zet {k : Nat} {xs : List Rat} (h : ∀ x ∈ xs,Fit k x) : (zbm xs).length <= xs.length * (2 * k + 3):=by
 have:=ze4 (x:=" ") (B:=2 * k + 2) (ts:=xs.map zaJ) (fun t ht=>by
   obtain ⟨x,hx,rfl⟩:=List.mem_map.mp ht
   exact zbQ (h x hx))
 rw [List.length_map,show (PySem.Str.ofString " ").length = 1 from zlI] at this
 exact this
theorem zfo {xs : List Rat} {c : Nat} (h : c < 45 \/ 57 < c) (hc : c ≠ 32) : c ∉ (zbm xs).cps.toList:=by
 unfold zbm
 rw [show (PySem.Str.ofString " ") = ⟨#[32]⟩ from zfv,zeO]
 refine zf0 hc fun x hx=>?_
 obtain ⟨y,hy,rfl⟩:=List.mem_map.mp hx
 obtain ⟨z,_,rfl⟩:=List.mem_map.mp hy
 exact zdN h
theorem zfE {xs : List Rat} (h : xs ≠ []) : Txt.split (zbm xs) " " = xs.map zaJ:=by
 unfold zbm
 rw [show (PySem.Str.ofString " ") = ⟨#[32]⟩ from zfv]
 refine zeo (by simpa using h) fun t ht=>?_
 obtain ⟨x,_,rfl⟩:=List.mem_map.mp ht
 exact zdN (by omega)
theorem zkM {x : Int} {k : Nat} (h : x.natAbs <= 10 ^ k) (hk : k <= 900) : Bd 3700 x:=⟨by
 have h1 : (10 : Nat) ^ k <= 16 ^ k:=Nat.pow_le_pow_left (by decide) k
 have h2 : (16 : Nat) ^ k = 2 ^ (4 * k):=by rw [Nat.pow_mul]
 have h3 : (2 : Nat) ^ (4 * k) < 2 ^ 3700:=Nat.pow_lt_pow_right (by decide) (by omega)
 omega⟩
theorem zjy {t b : Int} {k : Nat} (hk : 1 <= k) (hb : 0 < b) (h1 : t.natAbs < 10 ^ k) (h2 : b.natAbs < 10 ^ k) : Fit k (Rat.divInt t b) :=
 Fit.of hk (Nat.lt_of_le_of_lt (zoy t b (by omega)) h1) (Nat.lt_of_le_of_lt (zot t b (by omega)) h2)
theorem zcZ (x y z : PySem.Str) : x ++ y ++ z = x ++ (y ++ z):=by
 refine Str.ext' (Array.toList_inj.mp ?_)
 rw [zaW,zaW,zaW,zaW,List.append_assoc]
inductive RE where
 | go (f g : Int)
 | fin (w : PySem.Str)
def zbt (w : PySem.Str) : Prop:=w = PySem.Str.ofString "one" \/ w = PySem.Str.ofString "rests" \/ w = PySem.Str.ofString "drawn"
def RE.Ok : RE -> Prop
 | .go f g=>(0 <= f /\ f <= 30) /\ 0 <= g /\ g <= 40
 | .fin w=>zbt w
def RE.ds : RE -> List PyData
 | .go f g=>[.int f,.int g]
 | .fin w=>[.str w]
def RE.s : RE -> PySem.Str
 | .go f g=>zb9 [f,g]
 | .fin w=>w
def RE.goes : RE -> Bool
 | .go _ _=>true
 | .fin _=>false
structure Rw where
 h : Rat
 xs : List Rat
 e : RE
def Rw.d (r : Rw) : PyData:=.tuple (N r.h :: TN r.xs :: r.e.ds)
def Rw.s (r : Rw) : PySem.Str:=zaJ r.h ++ PySem.Str.ofString " : " ++ zbm r.xs ++ PySem.Str.ofString " : " ++ r.e.s
structure Rw.Ok (n : Nat) (r : Rw) : Prop where
 h : Fit 301 r.h
 l : r.xs.length = n
 x : ∀ x ∈ r.xs,Fit 301 x
 e : r.e.Ok
def zd4 (rs : List Rw) : PyData:=.list (rs.map Rw.d)
def zfJ (rs : List Rw) : PySem.Str:=PySem.Str.join "; " (rs.map Rw.s)
theorem zin {w : PySem.Str} (h : zbt w) : w.length <= 5:=by
 rcases h with rfl | rfl | rfl <;> decide
theorem RE.len {e : RE} (h : e.Ok) : e.s.length <= 6:=by
 cases e with
 | go f g =>
   have:=ziA (zs:=[f,g]) (fun z hz=>by
     have h : (0 <= f /\ f <= 30) /\ 0 <= g /\ g <= 40:=h
     simp only [List.mem_cons,List.not_mem_nil,or_false] at hz
     rcases hz with rfl | rfl <;> omega)
   exact this
 | fin w =>
   have:=zin h
   show w.length <= 6
   omega
theorem zhm : (PySem.Str.ofString " : ").length = 3:=by decide
theorem Rw.len {n : Nat} {r : Rw} (ok : r.Ok n) (hn : n <= 8) : r.s.length <= 6000:=by
 have h1:=zbQ ok.h
 have h2:=zet ok.x
 have h3:=RE.len ok.e
 have h4 : r.xs.length * (2 * 301 + 3) <= 8 * 605:=Nat.mul_le_mul_right _ (by rw [ok.l]; exact hn)
 unfold Rw.s
 rw [zac,zac,zac,zac,zhm]
 omega
theorem zjw {w : PySem.Str} (h : zbt w) : ∀ c,c < 97 -> c ∉ w.cps.toList:=by
 intro c hc
 rcases h with rfl | rfl | rfl
 . have e : (PySem.Str.ofString "one").cps.toList = [111,110,101]:=by decide
   rw [e]; simp; omega
 . have e : (PySem.Str.ofString "rests").cps.toList = [114,101,115,116,115]:=by decide
   rw [e]; simp; omega
 . have e : (PySem.Str.ofString "drawn").cps.toList = [100,114,97,119,110]:=by decide
   rw [e]; simp; omega
theorem zow {z : Int} {c : Nat} (h : 57 < c) : c ∉ (zS z).cps.toList:=zfW h
theorem zfT {zs : List Int} {c : Nat} (h : 57 < c) : c ∉ (zb9 zs).cps.toList:=by
 unfold zb9
 rw [show (PySem.Str.ofString " ") = ⟨#[32]⟩ from zfv,zeO]
 refine zf0 (by omega) fun x hx=>?_
 obtain ⟨y,hy,rfl⟩:=List.mem_map.mp hx
 obtain ⟨z,_,rfl⟩:=List.mem_map.mp hy
 exact zow h
theorem RE.no {e : RE} (h : e.Ok) {c : Nat} (h1 : 57 < c) (h2 : c < 97) : c ∉ e.s.cps.toList:=by
 cases e with
 | go f g=>exact zfT h1
 | fin w=>exact zjw h c h2
theorem zoR : (PySem.Str.ofString " : ") = ⟨#[32,58,32]⟩:=by decide
theorem zhC : (PySem.Str.ofString "; ") = ⟨#[59,32]⟩:=by decide
theorem Rw.split {n : Nat} {r : Rw} (ok : r.Ok n) : Txt.split r.s " : " = [zaJ r.h,zbm r.xs,r.e.s]:=by
 have e : r.s = PySem.Str.join (PySem.Str.ofString " : ") [zaJ r.h,zbm r.xs,r.e.s]:=by
   show _ = zaJ r.h ++ PySem.Str.ofString " : " ++ (zbm r.xs ++ PySem.Str.ofString " : " ++ r.e.s)
   unfold Rw.s
   rw [zcZ,zcZ,zcZ,zcZ,zcZ]
 rw [e,show (PySem.Str.ofString " : ") = ⟨#[32,58,32]⟩ from zoR]
 refine zfz (p:=[32]) (c:=58) (q:=[32]) rfl (by decide) (by decide +kernel) (by simp) fun t ht=>?_
 simp only [List.mem_cons,List.not_mem_nil,or_false] at ht
 rcases ht with rfl | rfl | rfl
 . exact zdN (by omega)
 . exact zfo (by omega) (by omega)
 . exact RE.no ok.e (by omega) (by omega)
theorem Rw.no {n : Nat} {r : Rw} (ok : r.Ok n) : 59 ∉ r.s.cps.toList:=by
 unfold Rw.s
 exact zcK (zcK (zcK (zcK (zdN (by omega)) (by decide)) (zfo (by omega) (by omega))) (by decide)) (RE.no ok.e (by omega) (by omega))
theorem zka {n : Nat} {rs : List Rw} (ne : rs ≠ []) (ok : ∀ r ∈ rs,r.Ok n) : Txt.split (zfJ rs) "; " = rs.map Rw.s:=by
 unfold zfJ
 rw [show (PySem.Str.ofString "; ") = ⟨#[59,32]⟩ from zhC]
 refine zfz (p:=[]) (c:=59) (q:=[32]) rfl (by decide) (by decide +kernel) (by simpa using ne) fun t ht=>?_
 obtain ⟨r,hr,rfl⟩:=List.mem_map.mp ht
 exact Rw.no (ok r hr)
theorem zlm : (PySem.Str.ofString "; ").length = 2:=by decide
theorem zmU {n : Nat} {rs : List Rw} (hn : n <= 8) (hl : rs.length <= 5) (ok : ∀ r ∈ rs,r.Ok n) : (zfJ rs).length <= 31000:=by
 have:=ze4 (x:="; ") (B:=6000) (ts:=rs.map Rw.s) (fun t ht=>by
   obtain ⟨r,hr,rfl⟩:=List.mem_map.mp ht
   exact Rw.len (ok r hr) hn)
 rw [List.length_map,show (PySem.Str.ofString "; ").length = 2 from zlm] at this
 unfold zfJ
 omega
theorem zhR {y : PySem.Str} {c : Nat} (hy : y.cps.all (· < 128) = true) (h : 127 < c) : c ∉ y.cps.toList:=fun hc=>by
 rw [<- Array.all_toList,List.all_eq_true] at hy
 have:=of_decide_eq_true (hy c hc)
 omega
theorem RE.no127 {e : RE} (h : e.Ok) {c : Nat} (h1 : 127 < c) : c ∉ e.s.cps.toList:=by
 cases e with
 | go f g=>exact zfT (by omega)
 | fin w =>
   have h : zbt w:=h
   show c ∉ w.cps.toList
   rcases h with rfl | rfl | rfl <;> exact zhR (by decide +kernel) h1
theorem zjB {n : Nat} {rs : List Rw} (ok : ∀ r ∈ rs,r.Ok n) : PyData.strOk (zfJ rs) = true:=by
 refine zjc fun c h=>?_
 unfold zfJ
 have key : ∀ ts : List PySem.Str,(∀ t ∈ ts,c ∉ t.cps.toList) -> c ∉ (PySem.Str.join "; " ts).cps.toList:=by
   intro ts
   induction ts with
   | nil=>intro _ hc; cases hc
   | cons t ts ih =>
     intro ht
     cases ts with
     | nil=>exact ht t (by simp)
     | cons u r =>
       show c ∉ (t ++ PySem.Str.ofString "; " ++ PySem.Str.join "; " (u :: r)).cps.toList
       exact zcK (zcK (ht t (by simp)) (zhR (by decide +kernel) h)) (ih fun v hv=>ht v (List.mem_cons_of_mem _ hv))
 refine key _ fun t ht=>?_
 obtain ⟨r,hr,rfl⟩:=List.mem_map.mp ht
 unfold Rw.s
 exact zcK (zcK (zcK (zcK (zdN (by omega)) (zhR (by decide +kernel) h)) (zfo (by omega) (by omega))) (zhR (by decide +kernel) h)) (RE.no127 (ok r hr).e h)
theorem zkr {K : PySem.W.Frag} {H : Hp} {vs : List V} {rs : List Rw} {j : Nat} {x : V} (t : IsAll K H vs (rs.map Rw.d)) (h : vs[j]? = some x) : ∃ r,rs[j]? = some r /\ Is K H x r.d:=by
 obtain ⟨hj,iy⟩:=zkX t h
 rw [List.length_map] at hj
 refine ⟨rs[j],List.getElem?_eq_getElem hj,?_⟩
 rw [List.getD_eq_getElem?_getD,List.getElem?_map,List.getElem?_eq_getElem hj] at iy
 exact iy
theorem zhv (r : Rw) : Imm r.d = true:=by
 unfold Rw.d
 rw [Imm,ImmAll,ImmAll,zkD,zje]
 cases r.e <;> rfl
theorem zmF {w : PySem.Str} (h : zbt w) : RpG 1 7 (.str w):=by
 refine ⟨⟨by simpa [PyData.canLay0] using (by rcases h with rfl | rfl | rfl <;> exact zcX _ : PyData.strOk w = true),by simp [PyData.depth]⟩,rfl,?_⟩
 rcases h with rfl | rfl | rfl <;> decide +kernel
theorem zhi {i : Int} {k : Nat} (h : (zar i.natAbs).length <= k) (hk : k <= 400) : RpG 1 (k + 1) (.int i):=by
 refine ⟨zoF i,by rw [PyData.showable,decide_eq_true_eq]; exact zdQ (Nat.le_trans h hk),?_⟩
 rw [PyData.shown,zdW]
 have:=zdB i
 omega
theorem zlr {r : Rat} (h : Fit 301 r) : RpG 2 611 (N r):=by
 refine (zhU (n:=1) (m:=302) (k:=2) (fun d hd=>?_) (by simp)).mono (by decide) (by decide)
 simp only [List.mem_cons,List.not_mem_nil,or_false] at hd
 rcases hd with rfl | rfl
 . exact zhi h.n (by decide)
 . exact zhi (by rw [Int.natAbs_natCast]; exact h.d) (by decide)
theorem zkJ {n : Nat} {r : Rw} (ok : r.Ok n) (hn : n <= 8) : RpG 4 20000 r.d:=by
 have hx : RpG 3 4907 (TN r.xs):=by
   refine zhU (n:=2) (m:=611) (k:=8) (fun d hd=>?_) (by rw [List.length_map,ok.l]; exact hn)
   obtain ⟨x,hx,rfl⟩:=List.mem_map.mp hd
   exact zlr (ok.x x hx)
 have he : ∀ d ∈ r.e.ds,RpG 3 4907 d:=by
   have oke:=ok.e
   cases er : r.e with
   | go f g =>
     rw [er] at oke
     have oke : (0 <= f /\ f <= 30) /\ 0 <= g /\ g <= 40:=oke
     intro d hd
     simp only [RE.ds,List.mem_cons,List.not_mem_nil,or_false] at hd
     rcases hd with rfl | rfl
     . exact (zhi (k:=2) (zdw (by omega)) (by decide)).mono (by decide) (by decide)
     . exact (zhi (k:=2) (zdw (by omega)) (by decide)).mono (by decide) (by decide)
   | fin w =>
     rw [er] at oke
     intro d hd
     simp only [RE.ds,List.mem_cons,List.not_mem_nil,or_false] at hd
     rw [hd]
     exact (zmF oke).mono (by decide) (by decide)
 have hl : r.e.ds.length <= 2:=by cases r.e <;> simp [RE.ds]
 refine (zhU (n:=3) (m:=4907) (k:=4) (fun d hd=>?_) (by simp only [List.length_cons]; omega)).mono (by decide) (by decide)
 rcases List.mem_cons.mp hd with rfl | hd
 . exact (zlr ok.h).mono (by decide) (by decide)
 . rcases List.mem_cons.mp hd with rfl | hd
   . exact hx
   . exact he d hd
theorem zou {n : Nat} {rs : List Rw} (hn : n <= 8) (hl : rs.length <= 5) (ok : ∀ r ∈ rs,r.Ok n) : RpG 5 100013 (zd4 rs):=by
 refine zms (n:=4) (m:=20000) (k:=5) (fun d hd=>?_) (by rw [List.length_map]; exact hl)
 obtain ⟨r,hr,rfl⟩:=List.mem_map.mp hd
 exact zkJ (ok r hr) hn
theorem zn4 {n : Nat} {rs : List Rw} (hn : n <= 8) (ok : ∀ r ∈ rs,r.Ok n) : Sh 5 (zd4 rs):=zlJ fun d hd=>by
 obtain ⟨r,hr,rfl⟩:=List.mem_map.mp hd
 exact (zkJ (ok r hr) hn).sh
theorem znT (rs : List Rw) : PyData.eqv (zd4 rs) (zd4 rs) = true:=znU fun d hd=>by
 obtain ⟨r,hr,rfl⟩:=List.mem_map.mp hd
 refine zoH fun e he=>?_
 rcases List.mem_cons.mp he with rfl | he
 . exact zpJ _
 . rcases List.mem_cons.mp he with rfl | he
   . exact zoZ _
   . cases er : r.e with
     | go f g =>
       rw [er] at he
       simp only [RE.ds,List.mem_cons,List.not_mem_nil,or_false] at he
       rcases he with rfl | rfl <;> simp [PyData.eqv]
     | fin w =>
       rw [er] at he
       simp only [RE.ds,List.mem_cons,List.not_mem_nil,or_false] at he
       rw [he]
       simp [PyData.eqv]
theorem zbn : ∀ rs : List Rw,ImmAll (rs.map Rw.d) = true
 | []=>rfl
 | r :: rs=>by rw [List.map_cons,ImmAll,zhv,zbn rs]; rfl
def zdC (K : PySem.W.Frag) : Sp:=fun vs H Q _=>∃ x0 x1,vs = [x0,x1] /\ ∃ (h : Rat) (xs : List Rat) (w : PySem.Str),Is K H x0 (.tuple [N h,TN xs,.str w]) /\ x1 = .int (xs.length : Int) /\ xs.length <= 8 /\ zbt w /\ ∀ H',zah H H' -> Q (.bl true) H'
theorem zgo {K : PySem.W.Frag} {H : Hp} {Q : VK} {E : XK} {h : Rat} {xs : List Rat} {w : PySem.Str} {v : V} {n : Nat} (e : xs.length = n) (i : Is K H v (.tuple [N h,TN xs,.str w])) (h8 : xs.length <= 8) (hw : zbt w) (q : ∀ H',zah H H' -> Q (.bl true) H') : zdC K [v,.int (n : Int)] H Q E:=⟨_,_,rfl,h,xs,w,i,by rw [e],h8,hw,q⟩
def zhM : List PyData:=[.str (PySem.Str.ofString "one"),.str (PySem.Str.ofString "rests"),.str (PySem.Str.ofString "drawn")]
theorem zbt.ok {w : PySem.Str} (h : zbt w) : PyData.strOk w = true:=by rcases h with rfl | rfl | rfl <;> exact zcX _
theorem zlc {w : PySem.Str} (h : PyData.strOk w = true) : Sh 1 (.str w):=⟨by simpa [PyData.canLay0] using h,by simp [PyData.depth]⟩
theorem ziV : PyData.canLay0 (.tuple zhM) = true:=(zlT (n:=1) fun d hd=>by
 simp only [zhM,List.mem_cons,List.not_mem_nil,or_false] at hd
 rcases hd with rfl | rfl | rfl <;> exact zlc (zcX _)).1
theorem zlL {K : PySem.W.Frag} {H : Hp} {Q : VK} {p : Addr} {w : PySem.Str} (t : SqT K H p [.str (PySem.Str.ofString "one"),.str (PySem.Str.ofString "rests"),.str (PySem.Str.ofString "drawn")]) (h : PyData.strOk w = true) (q : ∀ k : Bool,(k = true ↔ zbt w) -> Q (.bl k) H) : zl5 K (.str w) (.ref p) H Q:=by
 refine ⟨.str w,zhM,zaZ.mpr rfl,zau.mpr ⟨p,_,rfl,t,.cons (zaZ.mpr rfl) (.cons (zaZ.mpr rfl) (.cons (zaZ.mpr rfl) .nil))⟩,(zlc h).mono (by decide),ziV,q _ ?_⟩
 unfold zhM zbt
 simp only [List.any_cons,List.any_nil,PyData.eqv,Bool.or_false,Bool.or_eq_true,beq_iff_eq]
 constructor
 . rintro (h | h | h)
   . exact .inl h.symm
   . exact .inr (.inl h.symm)
   . exact .inr (.inr h.symm)
 . rintro (h | h | h)
   . exact .inl h.symm
   . exact .inr (.inl h.symm)
   . exact .inr (.inr h.symm)
set_option maxHeartbeats 4000000 in
theorem zgs (T : Txt K mg a) : zaP P w K mg base CX0 4 a.is_last_row a.fd_is_last_row zbI (zdC K):=by
 refine T.d_is_last_row.F.ok zga ?_ ?_
 walk_at "b2"
 have hgd:=hr.gd
 refine ⟨_,(zad (za5 (PW.pt (zcU (za0 (zaS (zai (show zaj _ (.builtin "isinstance") (zbY K) from zbb) rfl T.z_isinstance zav (zaa (pv 0) (zaa (zb4 (v:=.ty "tuple") rfl T.z_tuple zbs rfl) zab))))) (zcU (zaC (show OpR _ (compareOp .NotEq) (zeA K) from zc9 hu) (zai (show zaj _ (.builtin "len") (zd3 K) from zaT) rfl T.z_len zbv (zaa (pv 0) zab)) zaf (zaA _)) (zcI (za0 (zaS (pcl (zev T) hr T.d_has_stand (zaa (pv 0) (zaa (pv 1) zab))))))))) (zag (zak zcn)) zat)
     (zag (zak (zeq (zai (show zaj _ (.builtin "isinstance") (zbY K) from zbb) rfl T.z_isinstance zav (zaa (pix (pv 0)) (zaa (zb4 (v:=.ty "str") rfl T.z_str zdj rfl) zab))) (zdJ (zcq (show OpR _ (compareOp .In) (zl5 K) from zlB hu) (pix (pv 0)) (zfR (v:=.ref a.k_WORDS) rfl T.c_WORDS rfl) (by with_unfolding_all rfl))))))),?_⟩
 walk_at "cl"
 rw [show start zcH [x0,x1] = [some x0,some x1] from rfl]
 obtain ⟨hh,xs,ww,hi,rfl,h8,hw,q⟩:=h
 walk_at "gg"
 all_goals first | (rename_i e; cases (show true = false from e)) | skip
 refine zfQ hi ?_
 walk_at "gg"
 all_goals first | (rename_i e; exact absurd rfl e) | skip
 refine zeR hi h8 (fun H1 S1=>?_)
 have hi1:=hi.by S1
 walk_at "gg"
 refine za1 (j:=2) hi1 rfl (fun v2 i2=>?_)
 walk_at "gg"
 refine zia i2 ?_
 rw [show zjz (.str ww) = true from rfl]
 walk_at "gg"
 refine za1 (j:=2) hi1 rfl (fun v3 i3=>?_)
 cases zaZ.mp i3
 walk_at "gg"
 refine zlL (T.t_WORDS _) hw.ok (fun k hk=>?_)
 rw [hk.mpr hw]
 exact q _ S1
def zgI (n : Nat) (rs : List Rw) : Prop:=∃ ps l,rs = ps ++ [l] /\ (∀ r ∈ rs,r.Ok n) /\ (∀ r ∈ ps,r.e.goes = true) /\ l.e.goes = false
def zfq (K : PySem.W.Frag) : Sp:=fun vs H Q _=>∃ x0 x1,vs = [x0,x1] /\ ∃ (n : Nat) (rs : List Rw),Is K H x0 (zd4 rs) /\ x1 = .int (n : Int) /\ n <= 8 /\ zgI n rs /\ rs.length <= 5 /\ ∀ H',zah H H' -> Q (.bl true) H'
theorem ziy {K : PySem.W.Frag} {H : Hp} {Q : VK} {E : XK} {n : Nat} {rs : List Rw} {v : V} (i : Is K H v (zd4 rs)) (h8 : n <= 8) (hp : zgI n rs) (h5 : rs.length <= 5) (q : ∀ H',zah H H' -> Q (.bl true) H') : zfq K [v,.int (n : Int)] H Q E:=⟨_,_,rfl,n,rs,i,rfl,h8,hp,h5,q⟩
theorem ziz {α : Type} (ds : List α) (d : α) : L2.cutD (ds ++ [d]) none (some (-1)) = ds:=by
 unfold L2.cutD
 have e1 : HT.sIx (ds ++ [d]).length 0 none = 0:=by simp [HT.sIx]
 have e2 : HT.sIx (ds ++ [d]).length (ds ++ [d]).length (some (-1)) = ds.length:=by
   rw [List.length_append,List.length_singleton]
   simp [HT.sIx]
   omega
 rw [e1,e2]
 simp
theorem zk4 {K : PySem.W.Frag} {H : Hp} {Q : VK} {v : V} {ds : List PyData} {d : PyData} (h : Is K H v (.list (ds ++ [d]))) (q : ∀ x,Is K H x d -> Q x H) : rIx K v (.int (-1)) H Q:=by
 obtain ⟨a,xs,rfl,hs,t⟩:=zaU.mp h
 have hl:=t.length
 rw [List.length_append,List.length_singleton] at hl
 obtain ⟨x,e1,hx⟩:=t.get (i:=ds.length) (d:=d) (by rw [List.getElem?_append_right (Nat.le_refl _),Nat.sub_self]; rfl)
 exact zfc hs (zmd (by rw [hl]; exact e1)) (q x hx)
theorem RE.go_of {e : RE} (h : e.goes = true) : ∃ f g,e = .go f g:=by cases e with | go f g=>exact ⟨f,g,rfl⟩ | fin w=>cases h
theorem RE.fin_of {e : RE} (h : e.goes = false) : ∃ w,e = .fin w:=by cases e with | go f g=>cases h | fin w=>exact ⟨w,rfl⟩
set_option maxHeartbeats 4000000 in
theorem ziw (T : Txt K mg a) : zaP P w K mg base CX0 5 a.is_paper a.fd_is_paper zdb (zfq K):=by
 refine T.d_is_paper.F.ok zhZ ?_ ?_
 walk_at "b2"
 refine ⟨_,(zad (za5 (PW.pt (zcU (za0 (zaS (zai (show zaj _ (.builtin "isinstance") (zbY K) from zbb) rfl T.z_isinstance zav (zaa (pv 0) (zaa (zb4 (v:=.ty "list") rfl T.z_list zjN rfl) zab))))) (zcI (za0 (zks (pv 0)))))) (zag (zak zcn)) zat)
     (zag (zak (zeq (zai (show zaj _ (.builtin "all") (zfC K) from zcc rfl) rfl T.z_all zfb (zaa (zaR rfl (zaI.by (N':=["row","worms"]) (src:=[none,some 1]) rfl (show zaB _ (zae zc8).names zdi ["row","worms"] [none,some 1] = true from by decide +kernel)) (zb8 (zce zfk (pv 0) zc5 (zdc (zne zlU zaf)))) (fun _ _ _ _ _=>(zaz (i:=0) (show (["row","worms"] : List Str).Nodup from by decide) rfl (Or.inl rfl))) (fun _ _ _ _ _=>zaL) (fun _ _ _ _ _=>(pcl (zkl (K:=K) (mg:=mg) (a:=a) T) hr T.d_is_row (zaa (pv 0) (zaa (pv 1) zab))))) zab)) (zdJ (pcl (zgs T) hr T.d_is_last_row (zaa (zeK zdg (pv 0) (zne zlU zaf) (fun _ _=>rfl)) (zaa (pv 1) zab)))))))),?_⟩
 walk_at "cl"
 rw [show start zdi [x0,x1] = [some x0,some x1] from rfl]
 obtain ⟨n,rs,hi,rfl,h8,⟨ps,l,rfl,ok,hg,hl⟩,h5,q⟩:=h
 have hi : Is K H x0 (.list (ps.map Rw.d ++ [l.d])):=by
   have e : (ps ++ [l]).map Rw.d = ps.map Rw.d ++ [l.d]:=by simp
   rw [<- e]; exact hi
 walk_at "gg"
 refine zlq hi ?_
 rw [show zkI (PyData.list (ps.map Rw.d ++ [l.d])) = true from rfl]
 walk_at "gg"
 refine zme hi ?_
 rw [show (!(ps.map Rw.d ++ [l.d]).isEmpty) = true by simp]
 walk_at "gg"
 refine zl8 hi (fun l1 H1 us n1 S1 e1 t1=>?_)
 rw [ziz] at t1
 have lt:=t1.length
 rw [List.length_map] at lt
 rw [List.length_append] at h5
 walk_at "gg"
 refine zb7 (.of e1) (o0:=none) (tl:=[some (.int (n : Int))]) rfl (fun j y _=>y = .bl true) ?_ ?_
 . intro D j x ys o H2 hx inv
   obtain ⟨r,hr,ir⟩:=zkr t1 hx
   have mr:=List.mem_of_getElem? hr
   have hj:=(List.getElem?_eq_some_iff.mp hr).1
   have okr:=ok r (List.mem_append_left _ mr)
   obtain ⟨f,g,er⟩:=RE.go_of (hg r mr)
   have oke : (0 <= f /\ f <= 30) /\ 0 <= g /\ g <= 40:=by have:=okr.e; rw [er] at this; exact this
   have ir : Is K H1 x (.tuple [N r.h,TN r.xs,.int f,.int g]):=by have:=ir; unfold Rw.d at this; rw [er] at this; exact this
   have okl:=okr.l
   walk_at "gg"
   refine zkf okl (ir.by inv.2.2.1) (by omega) oke.1.1 oke.1.2 oke.2.1 oke.2.2 (fun H3 S3=>?_)
   walk_at "gg"
   exact zaG inv (by omega) (fun _ _ _ _ _ h=>h) ⟨_,rfl⟩ S3 rfl
 . intro D ys H2 n2 S2 e2 l2 r2
   have ey : ys = (List.replicate ys.length true).map V.bl:=by
     refine List.ext_getElem (by simp) fun i h1 h2=>?_
     rw [r2 i ys[i] (List.getElem?_eq_getElem h1)]
     simp
   rw [ey] at e2
   walk_at "gg"
   refine zdZ (.of e2) ?_
   rw [show (List.replicate ys.length true).all id = true by simp]
   have T2:=S1.trans S2
   walk_at "gg"
   refine zk4 (hi.by T2) (fun v3 i3=>?_)
   have okl:=ok l (by simp)
   obtain ⟨w,el⟩:=RE.fin_of hl
   have oke : zbt w:=by have:=okl.e; rw [el] at this; exact this
   have i3 : Is K H2 v3 (.tuple [N l.h,TN l.xs,.str w]):=by have:=i3; unfold Rw.d at this; rw [el] at this; exact this
   have e4:=okl.l
   walk_at "gg"
   refine zgo e4 i3 (by omega) oke (fun H3 S3=>?_)
   exact q _ (T2.trans S3)
def zdu (K : PySem.W.Frag) : Sp:=fun vs H Q _=>∃ x0,vs = [x0] /\ ∃ r : Rat,Is K H x0 (N r) /\ Fit 400 r /\ Q (.str (zaJ r)) H
theorem zcd {K : PySem.W.Frag} {H : Hp} {Q : VK} {E : XK} {r : Rat} {v : V} (h : Is K H v (N r)) (hf : Fit 400 r) (q : Q (.str (zaJ r)) H) : zdu K [v] H Q E:=⟨_,rfl,r,h,hf,q⟩
theorem zji {r : Rat} : ((r.den : Int) = 1) ↔ r.den = 1:=by omega
set_option maxHeartbeats 4000000 in
theorem zch (T : Txt K mg a) : zaP P w K mg base CX0 1 a.show_number a.fd_show_number zbN (zdu K):=by
 refine T.d_show_number.F.ok zcl ?_ ?_
 walk_at "b1"
 have hgd:=hr.gd
 refine ⟨_,(zad (pst 1 zcl.nd (zao (show zaj _ (.type "str") zfw from zcb) rfl T.z_str zdj (zaa (pix (pv 0)) zab)))
     (zad (za5 (zaC (show OpR _ (compareOp .Eq) (zgD K) from zfd hu) (pix (pv 0)) zaf (zaA _)) (zag (zak (pv 1))) zat)
     (zad (pst 2 zcl.nd (zao (show zaj _ (.type "str") zfw from zcb) rfl T.z_str zdj (zaa (pix (pv 0)) zab)))
     (zag (zak (zjL (zgv (pv 1) (ziQ (zgv (pv 2) zlF))))))))),?_⟩
 walk_at "cl"
 rw [show start zd7 [x0] = [some x0,none,none] from rfl]
 obtain ⟨r,hr,hf,q⟩:=h
 have z : 2000 <= sizeLine:=by decide
 have l1:=zdB r.num
 have f1:=hf.n
 have f2:=hf.d
 walk_at "gg"
 refine zeN (zdQ f1) ?_
 rw [zdW]
 walk_at "gg"
 . rename_i e
   have e : r.den = 1:=zji.mp e
   unfold zaJ at q
   rw [if_pos e] at q
   exact q
 . rename_i e
   have e : ¬ r.den = 1:=fun z=>e (zji.mpr z)
   unfold zaJ at q
   rw [if_neg e] at q
   refine zeN (by rw [Int.natAbs_natCast]; exact zdQ f2) ?_
   rw [zdW,zf4]
   walk_at "gg"
   refine zjj (zhX ?_)
   walk_at "gg"
   refine ⟨_,rfl,by omega,by rw [zdX]; omega,zli (by rw [zdX,zac]; show _ + 1 <= _; omega) (zhX ?_)⟩
   rw [zdX]
   walk_at "gg"
   refine ⟨_,rfl,by rw [zaN]; omega,by rw [zac,zac,zaN]; show _ + 1 + _ <= _; omega,znk (by rw [zac,zac,zaN]; show _ + 1 + _ <= _; omega) ?_⟩
   rw [show (PySem.Str.ofString "/") = ⟨#[47]⟩ from zjH]
   exact q
def zdq (K : PySem.W.Frag) : Sp:=fun vs H Q _=>∃ x0,vs = [x0] /\ ∃ xs : List Rat,Is K H x0 (TN xs) /\ xs.length <= 20 /\ (∀ x ∈ xs,Fit 400 x) /\ ∀ H',zah H H' -> Q (.str (zbm xs)) H'
theorem zfL {K : PySem.W.Frag} {H : Hp} {Q : VK} {E : XK} {xs : List Rat} {v : V} (h : Is K H v (TN xs)) (hl : xs.length <= 20) (hf : ∀ x ∈ xs,Fit 400 x) (q : ∀ H',zah H H' -> Q (.str (zbm xs)) H') : zdq K [v] H Q E:=⟨_,rfl,xs,h,hl,hf,q⟩
set_option maxHeartbeats 4000000 in
theorem zfN (T : Txt K mg a) : zaP P w K mg base CX0 2 a.show_numbers a.fd_show_numbers zbw (zdq K):=by
 refine T.d_show_numbers.F.ok zfH ?_ ?_
 walk_at "b1"
 refine ⟨_,(zag (zak (zb0 PySem.F.plainAttrs_str PySem.F.slot_str_join PySem.F.type_str_join (show MtM _ "str.join" (zdM K) from zcY) zaw (zaa (zaR rfl (zaI.by (N':=["one"]) (src:=[none]) rfl (show zaB _ (zae zbu).names zbx ["one"] [none] = true from by decide +kernel)) (zf3 (pv 0)) (fun _ _ _ _ _=>(zaz (i:=0) (show (["one"] : List Str).Nodup from by decide) rfl (Or.inl rfl))) (fun _ _ _ _ _=>zaL) (fun _ _ _ _ _=>(pcl (zch (K:=K) (mg:=mg) (a:=a) T) hr T.d_show_number (zaa (pv 0) zab)))) zab)))),?_⟩
 walk_at "cl"
 rw [show start zbx [x0] = [some x0] from rfl]
 obtain ⟨xs,hx,hl,hf,q⟩:=h
 obtain ⟨a1,vs,rfl,hs,tv⟩:=zau.mp hx
 walk_at "gg"
 refine zbz ?_
 walk_at "gg"
 refine zeG hs (o0:=none) (tl:=[]) rfl (fun j y _=>y = .str (zaJ (xs.getD j 0))) ?_ ?_
 . intro D j x ys o H1 hx inv
   obtain ⟨hj,iy⟩:=zkp tv hx
   walk_at "gg"
   refine zcd (iy.by inv.2.2.1) (hf _ (getD_mem hj)) ?_
   walk_at "gg"
   exact zaG inv (by omega) (fun _ _ _ _ _ h=>h) ⟨_,rfl⟩ (zah.refl _) rfl
 . intro D ys H1 n1 S1 e1 l1 r1
   have lv:=tv.length
   rw [List.length_map] at lv
   have ey : ys = (xs.map zaJ).map V.str:=by
     refine List.ext_getElem (by rw [l1]; simp; omega) fun i h1 h2=>?_
     rw [r1 i ys[i] (List.getElem?_eq_getElem h1)]
     rw [List.length_map,List.length_map] at h2
     simp [List.getD_eq_getElem?_getD,List.getElem?_eq_getElem h2]
   rw [ey] at e1
   walk_at "gg"
   refine zcV (B:=802) (.of e1) (fun y hy=>?_) ?_ (q _ S1)
   . obtain ⟨x,hx',rfl⟩:=List.mem_map.mp hy
     exact zbQ (hf x hx')
   . rw [List.length_map,zfv]
     show xs.length * 802 + xs.length * 1 <= _
     omega
def zdA (K : PySem.W.Frag) : Sp:=fun vs H Q _=>∃ x0,vs = [x0] /\ ∃ e : RE,Is K H x0 (.tuple e.ds) /\ e.Ok /\ ∀ H',zah H H' -> Q (.str e.s) H'
theorem zf8 {K : PySem.W.Frag} {H : Hp} {Q : VK} {E : XK} {e : RE} {v : V} (h : Is K H v (.tuple e.ds)) (ok : e.Ok) (q : ∀ H',zah H H' -> Q (.str e.s) H') : zdA K [v] H Q E:=⟨_,rfl,e,h,ok,q⟩
def RE.ts : RE -> List PySem.Str
 | .go f g=>[zS f,zS g]
 | .fin w=>[w]
theorem RE.join (e : RE) : PySem.Str.join " " e.ts = e.s:=by cases e <;> rfl
theorem RE.few (e : RE) : e.ts.length <= 2 /\ e.ds.length = e.ts.length:=by cases e <;> exact ⟨by simp [RE.ts],rfl⟩
theorem RE.short {e : RE} (ok : e.Ok) : ∀ y ∈ e.ts,y.length <= 6:=by
 cases e with
 | go f g =>
   have ok : (0 <= f /\ f <= 30) /\ 0 <= g /\ g <= 40:=ok
   intro y hy
   simp only [RE.ts,List.mem_cons,List.not_mem_nil,or_false] at hy
   rcases hy with rfl | rfl
   . exact Nat.le_trans (zja (by omega) (by omega)) (by decide)
   . exact Nat.le_trans (zja (by omega) (by omega)) (by decide)
 | fin w =>
   intro y hy
   simp only [RE.ts,List.mem_cons,List.not_mem_nil,or_false] at hy
   subst hy
   have:=zin ok
   omega
theorem zh6 {K : PySem.W.Frag} {H : Hp} {Q : VK} {e : RE} {j : Nat} {x : V} (ok : e.Ok) (hj : j < e.ts.length) (h : Is K H x (e.ds.getD j .none)) (q : Q (.str (e.ts.getD j "")) H) : zgh [x] H Q:=by
 have f : ∀ z : Int,0 <= z -> z < 100 -> Is K H x (.int z) -> Q (.str (zS z)) H -> zgh [x] H Q:=fun z h0 h1 hi q=>by
   cases zay.mp hi
   refine zkt (by have:=zjY (show z.natAbs < 1000000 by omega); omega) ?_
   rw [zps h0]
   exact q
 cases e with
 | go a b =>
   have ok : (0 <= a /\ a <= 30) /\ 0 <= b /\ b <= 40:=ok
   have : j = 0 \/ j = 1:=by simp [RE.ts] at hj; omega
   rcases this with rfl | rfl
   . exact f a (by omega) (by omega) h q
   . exact f b (by omega) (by omega) h q
 | fin w =>
   have : j = 0:=by simp [RE.ts] at hj; omega
   subst this
   cases zaZ.mp (show Is K H x (.str w) from h)
   exact zkx q
set_option maxHeartbeats 4000000 in
theorem zgm (T : Txt K mg a) : zaP P w K mg base CX0 1 a.show_wholes a.fd_show_wholes zbJ (zdA K):=by
 refine T.d_show_wholes.F.ok zgq ?_ ?_
 walk_at "b1"
 have hgd:=hr.gd
 refine ⟨_,(zag (zak (zb0 PySem.F.plainAttrs_str PySem.F.slot_str_join PySem.F.type_str_join (show MtM _ "str.join" (zdM K) from zcY) zaw (zaa (zaR rfl (zaI.by (N':=["one"]) (src:=[none]) rfl (show zaB _ (zae zbK).names zbL ["one"] [none] = true from by decide +kernel)) (zf3 (pv 0)) (fun _ _ _ _ _=>(zaz (i:=0) (show (["one"] : List Str).Nodup from by decide) rfl (Or.inl rfl))) (fun _ _ _ _ _=>zaL) (fun _ _ _ _ _=>(zao (show zaj _ (.type "str") zgh from zg8) rfl T.z_str zdj (zaa (pv 0) zab)))) zab)))),?_⟩
 walk_at "cl"
 rw [show start zbL [x0] = [some x0] from rfl]
 obtain ⟨e,hz,ok,q⟩:=h
 obtain ⟨a1,vs,rfl,hs,tv⟩:=zau.mp hz
 have lv:=tv.length
 obtain ⟨f1,f2⟩:=RE.few e
 walk_at "gg"
 refine zbz ?_
 walk_at "gg"
 refine zeG hs (o0:=none) (tl:=[]) rfl (fun j y _=>y = .str (e.ts.getD j "")) ?_ ?_
 . intro D j x ys o H1 hx inv
   obtain ⟨hj,ix⟩:=zkX tv hx
   walk_at "gg"
   refine zh6 ok (by omega) (ix.by inv.2.2.1) ?_
   walk_at "gg"
   exact zaG inv (by omega) (fun _ _ _ _ _ h=>h) ⟨_,rfl⟩ (zah.refl _) rfl
 . intro D ys H1 n1 S1 e1 l1 r1
   have ey : ys = e.ts.map V.str:=by
     refine List.ext_getElem (by rw [l1]; simp; omega) fun i h1 h2=>?_
     rw [r1 i ys[i] (List.getElem?_eq_getElem h1)]
     rw [List.length_map] at h2
     simp [List.getD_eq_getElem?_getD,List.getElem?_eq_getElem h2]
   rw [ey] at e1
   walk_at "gg"
   refine zcV (B:=6) (.of e1) (RE.short ok) ?_ ?_
   . rw [zfv]
     show e.ts.length * 6 + e.ts.length * 1 <= _
     omega
   . rw [RE.join]
     exact q _ S1
def zft (K : PySem.W.Frag) : Sp:=fun vs H Q _=>∃ x0,vs = [x0] /\ ∃ (n : Nat) (r : Rw),Is K H x0 r.d /\ r.Ok n /\ n <= 8 /\ ∀ H',zah H H' -> Q (.str r.s) H'
theorem zig {K : PySem.W.Frag} {H : Hp} {Q : VK} {E : XK} {n : Nat} {r : Rw} {v : V} (h : Is K H v r.d) (ok : r.Ok n) (h8 : n <= 8) (q : ∀ H',zah H H' -> Q (.str r.s) H') : zft K [v] H Q E:=⟨_,rfl,n,r,h,ok,h8,q⟩
theorem zjm {a b : PyData} {ds : List PyData} : L2.cutD (a :: b :: ds) (some 2) none = ds:=by
 unfold L2.cutD
 have e1 : HT.sIx (a :: b :: ds).length 0 (some 2) = 2:=by simp [HT.sIx]
 have e2 : HT.sIx (a :: b :: ds).length (a :: b :: ds).length none = (a :: b :: ds).length:=by simp [HT.sIx]
 rw [e1,e2]
 simp
theorem ziC {a b : PyData} {ds : List PyData} : ¬ (HT.sIx (a :: b :: ds).length 0 (some 2) = 0 /\ HT.sIx (a :: b :: ds).length (a :: b :: ds).length none = (a :: b :: ds).length):=by
 have e1 : HT.sIx (a :: b :: ds).length 0 (some 2) = 2:=by simp [HT.sIx]
 rw [e1]
 omega
set_option maxHeartbeats 4000000 in
theorem zhY (T : Txt K mg a) : zaP P w K mg base CX0 3 a.show_row a.fd_show_row zdm (zft K):=by
 refine T.d_show_row.F.ok zcD ?_ ?_
 walk_at "b1"
 refine ⟨_,(zad (pst 1 zcD.nd (pcl (zch T) hr T.d_show_number (zaa (pix (pv 0)) zab)))
     (zad (pst 2 zcD.nd (pcl (zfN T) hr T.d_show_numbers (zaa (pix (pv 0)) zab)))
     (zad (pst 3 zcD.nd (pcl (zgm T) hr T.d_show_wholes (zaa (zce zfk (pv 0) (zdc zaf) zc5) zab)))
     (zag (zak (zjL (zgv (pv 1) (ziQ (zgv (pv 2) (ziQ (zgv (pv 3) zlF))))))))))),?_⟩
 walk_at "cl"
 rw [show start zgt [x0] = [some x0,none,none,none] from rfl]
 obtain ⟨n,r,hi,ok,h8,q⟩:=h
 have hi : Is K H x0 (.tuple (N r.h :: TN r.xs :: r.e.ds)):=hi
 have z : 10000 <= sizeLine:=by decide
 have h1:=zbQ ok.h
 have h2:=zet ok.x
 have h3:=RE.len ok.e
 have h4 : r.xs.length * (2 * 301 + 3) <= 8 * 605:=Nat.mul_le_mul_right _ (by rw [ok.l]; exact h8)
 have h5:=ok.l
 have cl:=zhm
 walk_at "gg"
 refine za1 (j:=0) hi rfl (fun v0 i0=>?_)
 walk_at "gg"
 refine zcd i0 (ok.h.mono (by decide)) ?_
 walk_at "gg"
 refine za1 (j:=1) hi rfl (fun v1 i1=>?_)
 walk_at "gg"
 refine zfL i1 (by omega) (fun x hx=>(ok.x x hx).mono (by decide)) (fun H1 S1=>?_)
 walk_at "gg"
 refine zjG (hi.by S1) ziC (fun v2 H2 S2 i2=>?_)
 rw [zjm] at i2
 walk_at "gg"
 refine zf8 i2 ok.e (fun H3 S3=>?_)
 walk_at "gg"
 refine zjj (zhX ?_)
 walk_at "gg"
 refine ⟨_,rfl,by omega,by rw [zdX]; omega,zli (by rw [zdX,zac]; omega) (zhX ?_)⟩
 rw [zdX]
 walk_at "gg"
 refine ⟨_,rfl,by omega,by rw [zac,zac]; omega,zli (by rw [zac,zac,zac]; omega) (zhX ?_)⟩
 walk_at "gg"
 refine ⟨_,rfl,by omega,by rw [zac,zac,zac,zac]; omega,znk (by rw [zac,zac,zac,zac]; omega) ?_⟩
 exact q _ (S1.trans (S2.trans S3))
def zea (K : PySem.W.Frag) : Sp:=fun vs H Q _=>∃ x0,vs = [x0] /\ ∃ (n : Nat) (rs : List Rw),Is K H x0 (zd4 rs) /\ (∀ r ∈ rs,r.Ok n) /\ n <= 8 /\ rs.length <= 5 /\ ∀ H',zah H H' -> Q (.str (zfJ rs)) H'
theorem zgz {K : PySem.W.Frag} {H : Hp} {Q : VK} {E : XK} {n : Nat} {rs : List Rw} {v : V} (h : Is K H v (zd4 rs)) (ok : ∀ r ∈ rs,r.Ok n) (h8 : n <= 8) (h5 : rs.length <= 5) (q : ∀ H',zah H H' -> Q (.str (zfJ rs)) H') : zea K [v] H Q E:=⟨_,rfl,n,rs,h,ok,h8,h5,q⟩
set_option maxHeartbeats 4000000 in
theorem zgE (T : Txt K mg a) : zaP P w K mg base CX0 4 a.show_paper a.fd_show_paper zb5 (zea K):=by
 refine T.d_show_paper.F.ok zgx ?_ ?_
 walk_at "b1"
 refine ⟨_,(zag (zak (zb0 PySem.F.plainAttrs_str PySem.F.slot_str_join PySem.F.type_str_join (show MtM _ "str.join" (zdM K) from zcY) zaw (zaa (zaR rfl (zaI.by (N':=["row"]) (src:=[none]) rfl (show zaB _ (zae zb2).names zb3 ["row"] [none] = true from by decide +kernel)) (zb8 (pv 0)) (fun _ _ _ _ _=>(zaz (i:=0) (show (["row"] : List Str).Nodup from by decide) rfl (Or.inl rfl))) (fun _ _ _ _ _=>zaL) (fun _ _ _ _ _=>(pcl (zhY (K:=K) (mg:=mg) (a:=a) T) hr T.d_show_row (zaa (pv 0) zab)))) zab)))),?_⟩
 walk_at "cl"
 rw [show start zb3 [x0] = [some x0] from rfl]
 obtain ⟨n,rs,hi,ok,h8,h5,q⟩:=h
 obtain ⟨a1,vs,rfl,hs,tv⟩:=zaU.mp hi
 have lv:=tv.length
 rw [List.length_map] at lv
 walk_at "gg"
 refine zbz ?_
 walk_at "gg"
 refine zb7 hs (o0:=none) (tl:=[]) rfl (fun j y _=>∃ r,rs[j]? = some r /\ y = .str r.s) ?_ ?_
 . intro D j x ys o H1 hx inv
   obtain ⟨r,hr,ir⟩:=zkr tv hx
   have hj:=(List.getElem?_eq_some_iff.mp hr).1
   walk_at "gg"
   refine zig (ir.by inv.2.2.1) (ok r (List.mem_of_getElem? hr)) h8 (fun H2 S2=>?_)
   walk_at "gg"
   exact zaG inv (by omega) (fun _ _ _ _ _ h=>h) ⟨_,rfl⟩ S2 ⟨r,hr,rfl⟩
 . intro D ys H1 n1 S1 e1 l1 r1
   have ey : ys = (rs.map Rw.s).map V.str:=by
     refine List.ext_getElem (by rw [l1]; simp; omega) fun i h1 h2=>?_
     obtain ⟨r,hr,e⟩:=r1 i ys[i] (List.getElem?_eq_getElem h1)
     rw [e]
     rw [List.length_map,List.length_map] at h2
     rw [List.getElem?_eq_getElem h2] at hr
     cases hr
     simp
   rw [ey] at e1
   walk_at "gg"
   refine zcV (B:=6000) (.of e1) (fun y hy=>?_) ?_ (q _ S1)
   . obtain ⟨r,hr,rfl⟩:=List.mem_map.mp hy
     exact Rw.len (ok r hr) h8
   . rw [List.length_map,zhC]
     show rs.length * 6000 + rs.length * 2 <= _
     omega
def zcT (K : PySem.W.Frag) : Sp:=fun vs H Q _=>∃ x0 x1,vs = [x0,x1] /\ ∃ (n : Nat) (m : Int),x0 = .str (zax n) /\ x1 = .int m /\ ((zar n).length : Int) <= m /\ (zar n).length <= 640 /\ ∀ H',zah H H' -> Q (.bl true) H'
theorem zcS {K : PySem.W.Frag} {H : Hp} {Q : VK} {E : XK} {n : Nat} {m : Int} (h : ((zar n).length : Int) <= m) (hl : (zar n).length <= 640) (q : ∀ H',zah H H' -> Q (.bl true) H') : zcT K [.str (zax n),.int m] H Q E:=⟨_,_,rfl,n,m,rfl,rfl,h,hl,q⟩
set_option maxHeartbeats 4000000 in
theorem zc3 (T : Txt K mg a) : zaP P w K mg base CX0 1 a.is_whole_text a.fd_is_whole_text zbj (zcT K):=by
 refine T.d_is_whole_text.F.ok zff ?_ ?_
 walk_at "b2"
 refine ⟨_,(zad (za5 (PW.pt (zcU (za0 (zk1 zjQ zjQ zaf (zai (show zaj _ (.builtin "len") zis from zfi) rfl T.z_len zbv (zaa (pv 0) zab)) (pv 1))) (zcI (za0 (zaS (zai (show zaj _ (.builtin "all") (zfC K) from zcc rfl) rfl T.z_all zfb (zaa (zaR rfl (zaI.by (N':=["sign"]) (src:=[none]) rfl (show zaB _ (zae zbi).names zbg ["sign"] [none] = true from by decide +kernel)) (zom (pv 0)) (fun _ _ _ _ _=>(zaz (i:=0) (show (["sign"] : List Str).Nodup from by decide) rfl (Or.inl rfl))) (fun _ _ _ _ _=>zaL) (fun _ _ _ _ _=>(zcq (show OpR _ (compareOp .In) zn7 from zn6) (pv 0) (zkY rfl T.c_FIGURES) (by with_unfolding_all rfl)))) zab))))))) (zag (zak zcn)) zat)
     (zag (zak (zo6 (zcq (show OpR _ (compareOp .Eq) (zgD K) from zfd hu) (pv 0) zaw (zaA _)) (zdJ (zcq (show OpR _ (compareOp .NotEq) (zeA K) from zc9 hu) (pix (pv 0)) zaw (zaA _))))))),?_⟩
 walk_at "cl"
 rw [show start zbg [x0,x1] = [some x0,some x1] from rfl]
 obtain ⟨n,m,rfl,rfl,hm,hl,q⟩:=h
 have hlen:=zaN n
 have hne : 1 <= (zar n).length:=List.length_pos_iff.mpr (zde n)
 walk_at "gg"
 refine zhE (by rw [hlen]; exact Nat.le_trans hl (by decide)) ?_
 rw [hlen]
 walk_at "gg"
 all_goals first | (exfalso; omega) | skip
 refine ziP ?_
 walk_at "gg"
 refine ziL (zic n) (zci H [] fun _ y _=>y = .bl true) (fun D H' n s e=>⟨⟨none,rfl⟩,n,s,e,rfl,fun j y z=>by simp at z⟩) ?_ ?_
 . intro D i c ys σ' H1 hc inv
   obtain ⟨d,hd,rfl⟩:=zmL hc
   obtain ⟨⟨o,rfl⟩,_⟩:=id inv
   have hi : i < (zax n).length:=by
     have:=(Array.getElem?_eq_some_iff.mp hc).1
     exact this
   walk_at "gg"
   refine znS ?_
   rw [znI,zoj d hd]
   walk_at "gg"
   exact zaG inv (by omega) (fun _ _ _ _ _ h=>h) ⟨_,rfl⟩ (zah.refl _) rfl
 . rintro D ys σ' H1 ⟨_,n1,S1,e1,l1,r1⟩
   have ey : ys = (List.replicate ys.length true).map V.bl:=by
     refine List.ext_getElem (by simp) fun i h1 h2=>?_
     rw [r1 i ys[i] (List.getElem?_eq_getElem h1)]
     simp
   rw [ey] at e1
   walk_at "gg"
   refine zdZ (.of e1) ?_
   rw [show (List.replicate ys.length true).all id = true by simp]
   walk_at "gg"
   refine zh9 (zkh n) (zcX _) ?_
   rw [zku]
   by_cases hz : n = 0
   . rw [decide_eq_true hz]
     walk_at "gg"
     exact q _ S1
   . rw [decide_eq_false hz]
     walk_at "gg"
     obtain ⟨d,d0,d1,ec⟩:=zj3 hz
     refine .inr (.inr ⟨_,_,_,rfl,rfl,by rw [hlen]; exact Nat.le_trans hl (by decide),zdV (j:=0) ec,?_⟩)
     walk_at "gg"
     refine zh1 (zi9 (by simp; omega)) (zcX _) ?_
     rw [zkR d d1 d0]
     exact q _ S1
def zew (K : PySem.W.Frag) : Sp:=fun vs H Q _=>∃ x0,vs = [x0] /\ ∃ r : Rat,x0 = .str (zaJ r) /\ Fit 400 r /\ ∀ v H',zah H H' -> Is K H' v (N r) -> Q v H'
theorem zeV {K : PySem.W.Frag} {H : Hp} {Q : VK} {E : XK} {r : Rat} (hf : Fit 400 r) (q : ∀ v H',zah H H' -> Is K H' v (N r) -> Q v H') : zew K [.str (zaJ r)] H Q E:=⟨_,rfl,r,rfl,hf,q⟩
theorem zjE {K : PySem.W.Frag} {H : Hp} {QB : Bool -> Hp -> Prop} {x : PySem.Str} (h : x.length <= sizeLine) (q : QB (decide (x.length ≠ 0)) H) : zl3 K (.str x) H QB:=⟨_,⟨h,rfl⟩,by
 have e : (((x.length : Int) != 0) : Bool) = decide (x.length ≠ 0):=by rw [Bool.eq_iff_iff,decide_eq_true_eq,bne_iff_ne]; omega
 rw [e]; exact q⟩
set_option maxHeartbeats 4000000 in
theorem zeJ (T : Txt K mg a) : zaP P w K mg base CX0 1 a.number_in a.fd_number_in zcv (zew K):=by
 refine T.d_number_in.F.ok zeY ?_ ?_
 walk_at "b1"
 refine ⟨_,(zad (pst 1 zeY.nd (zb0 PySem.F.plainAttrs_str PySem.F.slot_str_partition PySem.F.type_str_partition (show MtM _ "str.partition" zlb from zl0) (pv 0) (zaa zaw zab)))
     (zag (zak (ze2 (zaa (zao (show zaj _ (.type "int") zjl from zhb) rfl T.z_int zfl (zaa (pix (pv 1)) zab)) (zaa (zfZ (zks (pix (pv 1))) (zao (show zaj _ (.type "int") zjl from zhb) rfl T.z_int zfl (zaa (pix (pv 1)) zab)) zaf) zab)))))),?_⟩
 walk_at "cl"
 rw [show start zfs [x0] = [some x0,none] from rfl]
 obtain ⟨r,rfl,hf,q⟩:=h
 have z : 2000 <= sizeLine:=by decide
 have l1:=zbQ hf
 have f1:=hf.n
 have f2:=hf.d
 by_cases hd : r.den = 1
 . walk_at "gg"
   refine zbz ?_
   walk_at "gg"
   refine ziB (by decide) (by omega) ((zio r).trans (if_pos hd)) (fun l H1 n1 S1 e1=>?_)
   walk_at "gg"
   refine zda (.of e1) rfl ?_
   walk_at "gg"
   refine zhB (by omega) ?_
   walk_at "gg"
   refine zda (.of e1) rfl ?_
   refine zjE (by decide) ?_
   rw [show decide (PySem.Str.empty.length ≠ 0) = false from rfl,if_neg (by decide)]
   walk_at "gg"
   refine zdl (ds:=[.int r.num,.int r.den]) (by simp) (.cons (zay.mpr rfl) (.cons (zay.mpr (by rw [hd]; rfl)) .nil)) (fun v H2 S2 i2=>?_)
   exact q v H2 (S1.trans S2) i2
 . walk_at "gg"
   refine zbz ?_
   walk_at "gg"
   refine ziB (by decide) (by omega) ((zio r).trans (if_neg hd)) (fun l H1 n1 S1 e1=>?_)
   walk_at "gg"
   refine zda (.of e1) rfl ?_
   walk_at "gg"
   refine zhB (by omega) ?_
   walk_at "gg"
   refine zda (.of e1) rfl ?_
   have hn:=zim r.den
   refine zjE (by rw [zaN]; omega) ?_
   rw [show decide ((zax r.den).length ≠ 0) = true from decide_eq_true (by omega),if_pos rfl]
   walk_at "gg"
   refine zda (.of e1) rfl ?_
   rw [<- zf4]
   walk_at "gg"
   refine zhB (by rw [Int.natAbs_natCast]; omega) ?_
   walk_at "gg"
   refine zdl (ds:=[.int r.num,.int r.den]) (by simp) (.cons (zay.mpr rfl) (.cons (zay.mpr rfl) .nil)) (fun v H2 S2 i2=>?_)
   exact q v H2 (S1.trans S2) i2
def zcA (K : PySem.W.Frag) : Sp:=fun vs H Q _=>∃ x0 x1,vs = [x0,x1] /\ ∃ (r : Rat) (m : Int),x0 = .str (zaJ r) /\ x1 = .int m /\ Fit 400 r /\ ((zar r.num.natAbs).length : Int) <= m /\ ((zar r.den).length : Int) <= m /\ ∀ H',zah H H' -> Q (.bl true) H'
theorem zeB {K : PySem.W.Frag} {H : Hp} {Q : VK} {E : XK} {r : Rat} {m : Int} (hf : Fit 400 r) (h1 : ((zar r.num.natAbs).length : Int) <= m) (h2 : ((zar r.den).length : Int) <= m) (q : ∀ H',zah H H' -> Q (.bl true) H') : zcA K [.str (zaJ r),.int m] H Q E:=⟨_,_,rfl,r,m,rfl,rfl,hf,h1,h2,q⟩
theorem zlH (r : Rat) : (zfV r).length <= 1:=by
 unfold zfV
 split <;> simp
theorem zmy {r : Rat} {n : Nat} (h : n ∈ zfV r) : n = r.den:=by
 unfold zfV at h
 split at h
 . cases h
 . simpa using h
set_option maxHeartbeats 4000000 in
theorem zeE (T : Txt K mg a) : zaP P w K mg base CX0 3 a.is_number_text a.fd_is_number_text za9 (zcA K):=by
 refine T.d_is_number_text.F.ok za3 ?_ ?_
 walk_at "b2"
 refine ⟨_,(zad (pst 2 za3.nd (zb0 PySem.F.plainAttrs_str PySem.F.slot_str_split PySem.F.type_str_split (show MtM _ "str.split" zel from zdt) (pv 0) (zaa zaw zab)))
     (zad (pst 3 za3.nd (zfZ (zaS (zb0 PySem.F.plainAttrs_str PySem.F.slot_str_startswith PySem.F.type_str_startswith (show MtM _ "str.startswith" zhk from zkg) (pv 0) (zaa zaw zab))) (zce (show SlR _ (zmu K) from zkv) (pix (pv 2)) (zdc zaf) zc5) (pix (pv 2))))
     (zad (za5 (PW.pt (zcU (zaC zjs (zai (show zaj _ (.builtin "len") (zd3 K) from zaT) rfl T.z_len zbv (zaa (pv 2) zab)) zaf (zaA _)) (zcI (za0 (zaS (zai (show zaj _ (.builtin "all") (zfC K) from zcc rfl) rfl T.z_all zfb (zaa (zaR rfl (zaI.by (N':=["part","most"]) (src:=[none,some 1]) rfl (show zaB _ (zae zbe).names zbF ["part","most"] [none,some 1] = true from by decide +kernel)) (zb8 (zan zaM (zbA (zaa (pv 3) zab)) (zce (show SlR _ (zmu K) from zkv) (pv 2) (zdc zaf) zc5))) (fun _ _ _ _ _=>(zaz (i:=0) (show (["part","most"] : List Str).Nodup from by decide) rfl (Or.inl rfl))) (fun _ _ _ _ _=>zaL) (fun _ _ _ _ _=>(pcl (zc3 (K:=K) (mg:=mg) (a:=a) T) hr T.d_is_whole_text (zaa (pv 0) (zaa (pv 1) zab))))) zab))))))) (zag (zak zcn)) zat)
     (zad (pst 4 za3.nd (pcl (zeJ T) hr T.d_number_in (zaa (pv 0) zab)))
     (zag (zak (zeq (pcl (zdo T) hr T.d_is_number (zaa (pv 4) zab)) (zdJ (zcq (show OpR _ (compareOp .Eq) (zgD K) from zfd hu) (pcl (zch T) hr T.d_show_number (zaa (pv 4) zab)) (pv 0) (zaA _)))))))))),?_⟩
 walk_at "cl"
 rw [show start zbF [x0,x1] = [some x0,some x1,none,none,none] from rfl]
 obtain ⟨r,m,rfl,rfl,hf,m1,m2,q⟩:=h
 have z : 2000 <= sizeLine:=by decide
 have l1:=zbQ hf
 have l2:=zlH r
 have l3:=zdB r.num
 have f1:=hf.n
 have f2:=hf.d
 walk_at "gg"
 refine zbz ?_
 walk_at "gg"
 refine zdF (by decide) (by omega) (by rw [zgT,List.length_cons,List.length_map]; omega) (fun l H1 n1 S1 e1=>?_)
 rw [zgT] at e1
 walk_at "gg"
 refine zbz ?_
 walk_at "gg"
 refine zjT ?_
 rw [zi3]
 walk_at "gg"
 all_goals
   rename_i hn
   refine zfc (.of e1) (zdV (j:=0) rfl) ?_
   first | rw [zlM hn] | (walk_at "gg"; refine zov (by omega) ?_; rw [zn8 hn])
   walk_at "gg"
   refine ⟨l,_,rfl,.inl (.of e1),?_⟩
   walk_at "gg"
   . rename_i hc
     rw [List.length_map,List.length_cons,List.length_map] at hc
     omega
   refine zbq (by simp) (fun l2 H2 n2 S2 e2=>?_)
   walk_at "gg"
   refine .inl (zhL (.of (S2 _ _ e1)) (fun l3 H3 n3 S3 e3=>?_))
   rw [List.map_cons,zmv] at e3
   walk_at "gg"
   refine .inr (.inl ⟨_,_,_,_,rfl,rfl,S3 _ _ e2,e3,by simp; omega,fun l4 n4=>?_⟩)
   have S4 : zah H3 (upd H3 l4 (.lst ([.str (zax r.num.natAbs)] ++ ((zfV r).map zax).map V.str))):=zah.upd n4
   have e4 : (upd H3 l4 (.lst ([.str (zax r.num.natAbs)] ++ ((zfV r).map zax).map V.str))) l4 = some (.lst (((r.num.natAbs :: zfV r).map zax).map V.str)):=zas
   generalize upd H3 l4 (.lst ([.str (zax r.num.natAbs)] ++ ((zfV r).map zax).map V.str)) = H4 at *
   have T4:=S1.trans (S2.trans (S3.trans S4))
   walk_at "gg"
   refine zb7 (.of e4) (o0:=none) (tl:=[some (.int m)]) rfl (fun _ y _=>y = .bl true) ?_ ?_
   . intro D j x ys o H5 hx inv
     rw [List.getElem?_map,List.getElem?_map] at hx
     obtain ⟨y,hy,rfl⟩:=Option.map_eq_some_iff.mp hx
     obtain ⟨n,hz,rfl⟩:=Option.map_eq_some_iff.mp hy
     have hj:=(List.getElem?_eq_some_iff.mp hz).1
     rw [List.length_cons] at hj
     have hb : ((zar n).length : Int) <= m /\ (zar n).length <= 400:=by
       rcases List.mem_cons.mp (List.mem_of_getElem? hz) with rfl | hm
       . exact ⟨m1,f1⟩
       . rw [zmy hm]; exact ⟨m2,f2⟩
     walk_at "gg"
     refine zcS hb.1 (by omega) (fun H6 S6=>?_)
     walk_at "gg"
     exact zaG inv (by omega) (fun _ _ _ _ _ h=>h) ⟨_,rfl⟩ S6 rfl
   . intro D ys H5 n5 S5 e5 l5 r5
     have ey : ys = (List.replicate ys.length true).map V.bl:=by
       refine List.ext_getElem (by simp) fun i h1 h2=>?_
       rw [r5 i ys[i] (List.getElem?_eq_getElem h1)]
       simp
     rw [ey] at e5
     walk_at "gg"
     refine zdZ (.of e5) ?_
     rw [show (List.replicate ys.length true).all id = true by simp]
     walk_at "gg"
     refine zeV hf (fun v H6 S6 i6=>?_)
     walk_at "gg"
     . refine zcd i6 hf ?_
       walk_at "gg"
       refine zh9 (zjC r) (zjC r) ?_
       rw [beq_self_eq_true]
       exact q _ (T4.trans (S5.trans S6))
     . rename_i e
       rw [zgr] at e
       cases e
def zeP (K : PySem.W.Frag) (a : Ad) : Sp:=fun vs H Q E=>∃ x0,vs = [x0] /\ ∃ (l : Addr) (zs : List Int),x0 = .ref l /\ SqL K H l ((zs.map zS).map V.str) /\ zs.length <= 100 /\ (∀ z ∈ zs,0 <= z /\ z < 100) /\ ∀ v H',zah H H' -> Is K H' v (TZ zs) -> Q v H'
theorem zhs {K : PySem.W.Frag} {a : Ad} {H : Hp} {Q : VK} {E : XK} {l : Addr} {zs : List Int} (h : SqL K H l ((zs.map zS).map V.str)) (hl : zs.length <= 100) (hz : ∀ z ∈ zs,0 <= z /\ z < 100) (q : ∀ v H',zah H H' -> Is K H' v (TZ zs) -> Q v H') : zeP K a [.ref l] H Q E:=⟨_,rfl,l,zs,rfl,h,hl,hz,q⟩
theorem znB {zs : List Int} {j : Nat} {x : V} (h : ((zs.map zS).map V.str)[j]? = some x) : j < zs.length /\ x = .str (zax (zs.getD j 0).toNat):=by
 rw [List.getElem?_map,List.getElem?_map] at h
 obtain ⟨y,hy,rfl⟩:=Option.map_eq_some_iff.mp h
 obtain ⟨z,hz,rfl⟩:=Option.map_eq_some_iff.mp hy
 have hj : j < zs.length:=(List.getElem?_eq_some_iff.mp hz).1
 refine ⟨hj,?_⟩
 rw [List.getD_eq_getElem?_getD,hz]
 rfl
set_option maxHeartbeats 4000000 in
theorem zhj (T : Txt K mg a) : zaP P w K mg base (CX1 P w) 2 a.wholes_in a.fd_wholes_in zcB (zeP K a):=by
 refine T.d_wholes_in.F.ok1 zhq ?_ ?_
 walk_at "b1"
 refine ⟨_,(zad (za5 (za0 (zaS (zai (show zaj _ (.builtin "all") (zfC K) from zcc rfl) rfl T.z_all zfb (zaa (zaR rfl (zaI.by (N':=["word"]) (src:=[none]) rfl (show zaB _ (zae zbT).names zbU ["word"] [none] = true from by decide +kernel)) (zb8 (pv 0)) (fun _ _ _ _ _=>(zaz (i:=0) (show (["word"] : List Str).Nodup from by decide) rfl (Or.inl rfl))) (fun _ _ _ _ _=>zaL) (fun _ _ _ _ _=>(pcl (zc3 (K:=K) (mg:=mg) (a:=a) T) hr T.d_is_whole_text (zaa (pv 0) (zaa (zeM rfl T.c_WHOLE_FIGURES) zab))))) zab)))) (zag (zdL T.x_NoText rfl rfl T.g_NoText zf9 (zaa zaw zab))) zat)
     (zag (zak (zao (show zaj _ (.type "tuple") (zbR K) from zbP) rfl T.z_tuple zbs (zaa (zaR rfl (zaI.by (N':=["word"]) (src:=[none]) rfl (show zaB _ (zae zbT).names zbU ["word"] [none] = true from by decide +kernel)) (zb8 (pv 0)) (fun _ _ _ _ _=>(zaz (i:=0) (show (["word"] : List Str).Nodup from by decide) rfl (Or.inl rfl))) (fun _ _ _ _ _=>zaL) (fun _ _ _ _ _=>(zao (show zaj _ (.type "int") zlP from zg0) rfl T.z_int zfl (zaa (pv 0) zab)))) zab))))),?_⟩
 walk_at "cl"
 rw [show start zbU [x0] = [some x0] from rfl]
 obtain ⟨l,zs,rfl,hs,hl,hz,q⟩:=h
 walk_at "gg"
 refine zb7 hs (o0:=none) (tl:=[]) rfl (fun _ y _=>y = .bl true) ?_ ?_
 . intro D j x ys o H1 hx inv
   obtain ⟨hj,rfl⟩:=znB hx
   obtain ⟨b0,b1⟩:=hz _ (zjk hj)
   have hd : (zar (zs.getD j 0).toNat).length <= 2:=zdw (by omega)
   walk_at "gg"
   refine zcS (by omega) (by omega) (fun H2 S2=>?_)
   walk_at "gg"
   exact zaG inv (by omega) (fun _ _ _ _ _ h=>h) ⟨_,rfl⟩ S2 rfl
 . intro D ys H1 n1 S1 e1 l1 r1
   have ey : ys = (List.replicate ys.length true).map V.bl:=by
     refine List.ext_getElem (by simp) fun i h1 h2=>?_
     rw [r1 i ys[i] (List.getElem?_eq_getElem h1)]
     simp
   rw [ey] at e1
   walk_at "gg"
   refine zdZ (.of e1) ?_
   rw [show (List.replicate ys.length true).all id = true by simp]
   have hs1:=S1.seq hs
   walk_at "gg"
   refine zb7 hs1 (o0:=none) (tl:=[]) rfl (fun j y _=>y = .int (zs.getD j 0)) ?_ ?_
   . intro D j x ys o H2 hx inv
     obtain ⟨hj,rfl⟩:=znB hx
     obtain ⟨b0,b1⟩:=hz _ (zjk hj)
     have hd : (zar (zs.getD j 0).toNat).length <= 2:=zdw (by omega)
     walk_at "gg"
     refine zmb (by omega) ?_
     rw [show (((zs.getD j 0).toNat : Nat) : Int) = zs.getD j 0 by omega]
     walk_at "gg"
     exact zaG inv (by omega) (fun _ _ _ _ _ h=>h) ⟨_,rfl⟩ (zah.refl _) rfl
   . intro D2 ys2 H2 n2 S2 e2 l2 r2
     have ey2 : ys2 = zs.map V.int:=by
       refine List.ext_getElem (by rw [l2]; simp) fun i h1 h2=>?_
       rw [r2 i ys2[i] (List.getElem?_eq_getElem h1)]
       rw [List.length_map] at h2
       simp [List.getD_eq_getElem?_getD,List.getElem?_eq_getElem h2]
     rw [ey2] at e2
     walk_at "gg"
     refine zdU (.of e2) (fun lt H3 n3 S3 e3=>?_)
     exact q _ _ (S1.trans (S2.trans S3)) (zpk.mpr ⟨lt,rfl,.of e3⟩)
def zed (K : PySem.W.Frag) (a : Ad) : Sp:=fun vs H Q E=>∃ x0 x1,vs = [x0,x1] /\ ∃ (l : Addr) (xs : List Rat) (m : Int),x0 = .ref l /\ x1 = .int m /\ SqL K H l ((xs.map zaJ).map V.str) /\ xs.length <= 20 /\ (∀ x ∈ xs,Fit 400 x /\ ((zar x.num.natAbs).length : Int) <= m /\ ((zar x.den).length : Int) <= m) /\ ∀ v H',zah H H' -> Is K H' v (TN xs) -> Q v H'
theorem zd6 {K : PySem.W.Frag} {a : Ad} {H : Hp} {Q : VK} {E : XK} {l : Addr} {xs : List Rat} {m : Int} (h : SqL K H l ((xs.map zaJ).map V.str)) (hl : xs.length <= 20) (hf : ∀ x ∈ xs,Fit 400 x /\ ((zar x.num.natAbs).length : Int) <= m /\ ((zar x.den).length : Int) <= m) (q : ∀ v H',zah H H' -> Is K H' v (TN xs) -> Q v H') : zed K a [.ref l,.int m] H Q E:=⟨_,_,rfl,l,xs,m,rfl,rfl,h,hl,hf,q⟩
theorem zns {xs : List Rat} {j : Nat} {x : V} (h : ((xs.map zaJ).map V.str)[j]? = some x) : j < xs.length /\ x = .str (zaJ (xs.getD j 0)):=by
 rw [List.getElem?_map,List.getElem?_map] at h
 obtain ⟨y,hy,rfl⟩:=Option.map_eq_some_iff.mp h
 obtain ⟨z,hz,rfl⟩:=Option.map_eq_some_iff.mp hy
 have hj : j < xs.length:=(List.getElem?_eq_some_iff.mp hz).1
 refine ⟨hj,?_⟩
 rw [List.getD_eq_getElem?_getD,hz]
 rfl
set_option maxHeartbeats 4000000 in
theorem zd9 (T : Txt K mg a) : zaP P w K mg base (CX1 P w) 4 a.numbers_in a.fd_numbers_in zb1 (zed K a):=by
 refine T.d_numbers_in.F.ok1 zgF ?_ ?_
 walk_at "b2"
 refine ⟨_,(zad (za5 (za0 (zaS (zai (show zaj _ (.builtin "all") (zfC K) from zcc rfl) rfl T.z_all zfb (zaa (zaR rfl (zaI.by (N':=["word","most"]) (src:=[none,some 1]) rfl (show zaB _ (zae zbB).names zbp ["word","most"] [none,some 1] = true from by decide +kernel)) (zb8 (pv 0)) (fun _ _ _ _ _=>(zaz (i:=0) (show (["word","most"] : List Str).Nodup from by decide) rfl (Or.inl rfl))) (fun _ _ _ _ _=>zaL) (fun _ _ _ _ _=>(pcl (zeE (K:=K) (mg:=mg) (a:=a) T) hr T.d_is_number_text (zaa (pv 0) (zaa (pv 1) zab))))) zab)))) (zag (zdL T.x_NoText rfl rfl T.g_NoText zf9 (zaa zaw zab))) zat)
     (zag (zak (zao (show zaj _ (.type "tuple") (zbR K) from zbP) rfl T.z_tuple zbs (zaa (zaR rfl (zaI.by (N':=["word"]) (src:=[none]) rfl (show zaB _ (zae zbB).names zbp ["word"] [none] = true from by decide +kernel)) (zb8 (pv 0)) (fun _ _ _ _ _=>(zaz (i:=0) (show (["word"] : List Str).Nodup from by decide) rfl (Or.inl rfl))) (fun _ _ _ _ _=>zaL) (fun _ _ _ _ _=>(pcl (zeJ (K:=K) (mg:=mg) (a:=a) T) hr T.d_number_in (zaa (pv 0) zab)))) zab))))),?_⟩
 walk_at "cl"
 rw [show start zbp [x0,x1] = [some x0,some x1] from rfl]
 obtain ⟨l,xs,m,rfl,rfl,hs,hl,hz,q⟩:=h
 walk_at "gg"
 refine zb7 hs (o0:=none) (tl:=[some (.int m)]) rfl (fun _ y _=>y = .bl true) ?_ ?_
 . intro D j x ys o H1 hx inv
   obtain ⟨hj,rfl⟩:=zns hx
   obtain ⟨b0,b1,b2⟩:=hz _ (getD_mem hj)
   walk_at "gg"
   refine zeB b0 b1 b2 (fun H2 S2=>?_)
   walk_at "gg"
   exact zaG inv (by omega) (fun _ _ _ _ _ h=>h) ⟨_,rfl⟩ S2 rfl
 . intro D ys H1 n1 S1 e1 l1 r1
   have ey : ys = (List.replicate ys.length true).map V.bl:=by
     refine List.ext_getElem (by simp) fun i h1 h2=>?_
     rw [r1 i ys[i] (List.getElem?_eq_getElem h1)]
     simp
   rw [ey] at e1
   walk_at "gg"
   refine zdZ (.of e1) ?_
   rw [show (List.replicate ys.length true).all id = true by simp]
   have hs1:=S1.seq hs
   walk_at "gg"
   refine zb7 hs1 (o0:=none) (tl:=[]) rfl (fun j y H'=>Is K H' y (N (xs.getD j 0))) ?_ ?_
   . intro D j x ys o H2 hx inv
     obtain ⟨hj,rfl⟩:=zns hx
     obtain ⟨b0,b1,b2⟩:=hz _ (getD_mem hj)
     walk_at "gg"
     refine zeV b0 (fun v H3 S3 i3=>?_)
     walk_at "gg"
     exact zaG inv (by omega) (fun _ _ _ _ s h=>h.byN s) ⟨_,rfl⟩ S3 i3
   . intro D2 ys2 H2 n2 S2 e2 l2 r2
     rw [List.length_map,List.length_map] at l2
     walk_at "gg"
     refine zdU (.of e2) (fun lt H3 n3 S3 e3=>?_)
     exact q _ _ (S1.trans (S2.trans S3)) (zau.mpr ⟨lt,ys2,rfl,.of e3,zh4 l2 fun i x hx=>(r2 i x hx).by S3⟩)
def zfu (K : PySem.W.Frag) (a : Ad) : Sp:=fun vs H Q E=>∃ x0 x1,vs = [x0,x1] /\ ∃ (x y : PySem.Str),x0 = .str x /\ x1 = .str y /\ (y.length == 0) = false /\ x.length <= sizeLine /\ (Txt.split x y).length <= sizeLine /\ ∀ l H',H l = none -> zah H H' -> H' l = some (.lst ((Txt.split x y).map V.str)) -> Q (.ref l) H'
theorem zh0 {K : PySem.W.Frag} {a : Ad} {H : Hp} {Q : VK} {E : XK} {x y : PySem.Str} (hy : (y.length == 0) = false) (h1 : x.length <= sizeLine) (h2 : (Txt.split x y).length <= sizeLine) (q : ∀ l H',H l = none -> zah H H' -> H' l = some (.lst ((Txt.split x y).map V.str)) -> Q (.ref l) H') : zfu K a [.str x,.str y] H Q E:=⟨_,_,rfl,x,y,rfl,rfl,hy,h1,h2,q⟩
set_option maxHeartbeats 4000000 in
theorem zh8 (T : Txt K mg a) : zaP P w K mg base (CX1 P w) 1 a.parts_of a.fd_parts_of zdn (zfu K a):=by
 refine T.d_parts_of.F.ok1 zif ?_ ?_
 walk_at "b2"
 have hgd:=hr.gd
 refine ⟨_,(zad (za5 (za0 (zaS (zai (show zaj _ (.builtin "isinstance") (zbY K) from zbb) rfl T.z_isinstance zav (zaa (pv 0) (zaa (zb4 (v:=.ty "str") rfl T.z_str zdj rfl) zab))))) (zag (zdL T.x_NoText rfl rfl T.g_NoText zf9 (zaa zaw zab))) zat)
     (zag (zak (zb0 PySem.F.plainAttrs_str PySem.F.slot_str_split PySem.F.type_str_split (show MtM _ "str.split" zel from zdt) (pv 0) (zaa (pv 1) zab))))),?_⟩
 walk_at "cl"
 rw [show start zef [x0,x1] = [some x0,some x1] from rfl]
 obtain ⟨x,y,rfl,rfl,hy,h1,h2,q⟩:=h
 walk_at "gg"
 refine zia (d:=.str x) (zaZ.mpr rfl) ?_
 rw [show zjz (.str x) = true from rfl]
 walk_at "gg"
 refine zbz ?_
 walk_at "gg"
 exact zdF hy h1 h2 q
def zgU (K : PySem.W.Frag) (a : Ad) : Sp:=fun vs H Q E=>∃ x0,vs = [x0] /\ ∃ (n : Nat) (r : Rw),x0 = .str r.s /\ r.Ok n /\ 1 <= n /\ n <= 8 /\ ∀ v H',zah H H' -> Is K H' v r.d -> Q v H'
theorem zjZ {K : PySem.W.Frag} {a : Ad} {H : Hp} {Q : VK} {E : XK} {n : Nat} {r : Rw} (ok : r.Ok n) (h1 : 1 <= n) (h8 : n <= 8) (q : ∀ v H',zah H H' -> Is K H' v r.d -> Q v H') : zgU K a [.str r.s] H Q E:=⟨_,rfl,n,r,rfl,ok,h1,h8,q⟩
theorem zmj (x : V) (xs : List V) : ze0 (x :: xs) none (some 1) = [x]:=by
 unfold ze0
 have e1 : HT.sIx (x :: xs).length 0 none = 0:=by simp [HT.sIx]
 have e2 : HT.sIx (x :: xs).length (x :: xs).length (some 1) = 1:=by simp [HT.sIx]
 rw [e1,e2]
 simp
theorem zpf (x y z : V) : ze0 [x,y,z] (some 2) none = [z]:=rfl
theorem zly (r : Rat) : (zar r.num.natAbs).length <= (zaJ r).length /\ (zar r.den).length <= (zaJ r).length:=by
 have h1 : (zar r.num.natAbs).length <= (zbl r.num).length:=by
   unfold zbl
   split
   . rw [zac,zaN]; omega
   . rw [zaN]; omega
 have h2:=zik r.num
 unfold zaJ
 split
 . rename_i e
   rw [e]
   exact ⟨h1,by rw [zbM (by decide)]; exact h2⟩
 . rw [zac,zac,zaN]
   exact ⟨by omega,by omega⟩
theorem zhW {x t : PySem.Str} : ∀ {ts : List PySem.Str},t ∈ ts -> t.length <= (PySem.Str.join x ts).length
 | [],h=>by cases h
 | [u],h=>by rw [List.mem_singleton.mp h]; exact Nat.le_refl _
 | u :: w :: r,h=>by
   show t.length <= (u ++ x ++ PySem.Str.join x (w :: r)).length
   rw [zac,zac]
   rcases List.mem_cons.mp h with rfl | h
   . omega
   . have:=zhW (x:=x) h
     omega
theorem zkV {n : Nat} {r : Rw} (ok : r.Ok n) : ∀ x ∈ r.h :: r.xs,Fit 400 x /\ ((zar x.num.natAbs).length : Int) <= (r.s.length : Int) /\ ((zar x.den).length : Int) <= (r.s.length : Int):=by
 intro x hx
 have f:=zly x
 have g : (zaJ x).length <= r.s.length:=by
   unfold Rw.s
   rw [zac,zac,zac,zac]
   rcases List.mem_cons.mp hx with rfl | hx
   . omega
   . have : (zaJ x).length <= (zbm r.xs).length:=zhW (List.mem_map.mpr ⟨x,hx,rfl⟩)
     omega
 refine ⟨?_,by omega,by omega⟩
 rcases List.mem_cons.mp hx with rfl | hx
 . exact ok.h.mono (by decide)
 . exact (ok.x x hx).mono (by decide)
theorem RE.ok2 {e : RE} (h : e.Ok) : PyData.strOk e.s = true:=zjc fun c hc=>RE.no127 h hc
theorem zeZ {zs : List Int} (h : zs ≠ []) : Txt.split (zb9 zs) " " = zs.map zS:=by
 unfold zb9
 rw [show (PySem.Str.ofString " ") = ⟨#[32]⟩ from zfv]
 refine zeo (by simpa using h) fun t ht=>?_
 obtain ⟨z,_,rfl⟩:=List.mem_map.mp ht
 exact zos (by decide)
theorem zkm {f g : Int} : ¬ zbt (zb9 [f,g]):=by
 intro h
 have h1 : 32 ∈ (zb9 [f,g]).cps.toList:=by
   show 32 ∈ (zS f ++ PySem.Str.ofString " " ++ zS g).cps.toList
   rw [zaW,zaW,List.mem_append,List.mem_append]
   exact .inl (.inr (by decide))
 exact zjw h 32 (by decide) h1
set_option maxHeartbeats 4000000 in
theorem zkk (T : Txt K mg a) : zaP P w K mg base (CX1 P w) 5 a.row_in a.fd_row_in ze8 (zgU K a):=by
 refine T.d_row_in.F.ok1 zcR ?_ ?_
 walk_at "b1"
 refine ⟨_,(zad (pst 1 zcR.nd (zb0 PySem.F.plainAttrs_str PySem.F.slot_str_split PySem.F.type_str_split (show MtM _ "str.split" zel from zdt) (pv 0) (zaa zaw zab)))
     (zad (za5 (zaC (show OpR _ (compareOp .NotEq) (zeA K) from zc9 hu) (zai (show zaj _ (.builtin "len") (zd3 K) from zaT) rfl T.z_len zbv (zaa (pv 1) zab)) zaf (zaA _)) (zag (zdL T.x_NoText rfl rfl T.g_NoText zf9 (zaa zaw zab))) zat)
     (zad (pst 2 zcR.nd (pix (pcx (zd9 T) hr T.d_numbers_in zjn (zaa (zce zfk (pv 1) zc5 (zdc zaf)) (zaa (zai (show zaj _ (.builtin "len") zis from zfi) rfl T.z_len zbv (zaa (pv 0) zab)) zab)))))
     (zad (pst 3 zcR.nd (pcx (zd9 T) hr T.d_numbers_in zjn (zaa (zb0 PySem.F.plainAttrs_str PySem.F.slot_str_split PySem.F.type_str_split (show MtM _ "str.split" zel from zdt) (pix (pv 1)) (zaa zaw zab)) (zaa (zai (show zaj _ (.builtin "len") zis from zfi) rfl T.z_len zbv (zaa (pv 0) zab)) zab))))
     (zad (pst 4 zcR.nd (zfZ (zaC (show OpR _ (compareOp .In) (zl5 K) from zlB hu) (pix (pv 1)) (zfR (v:=.ref a.k_WORDS) rfl T.c_WORDS rfl) (by with_unfolding_all rfl)) (zao (show zaj _ (.type "tuple") (zbR K) from zbP) rfl T.z_tuple zbs (zaa (zce zfk (pv 1) (zdc zaf) zc5) zab)) (pcx (zhj T) hr T.d_wholes_in zjn (zaa (zb0 PySem.F.plainAttrs_str PySem.F.slot_str_split PySem.F.type_str_split (show MtM _ "str.split" zel from zdt) (pix (pv 1)) (zaa zaw zab)) zab))))
     (zag (zak (zan (show OpR _ (binaryOp .Add) (zkL K) from zmY) (ze2 (zaa (pv 2) (zaa (pv 3) zab))) (pv 4))))))))),?_⟩
 walk_at "cl"
 rw [show start zir [x0] = [some x0,none,none,none,none] from rfl]
 obtain ⟨n,r,rfl,ok,h1,h8,q⟩:=h
 have z : 10000 <= sizeLine:=by decide
 have hl:=Rw.len ok h8
 have hd:=zkV ok
 have hx : r.xs ≠ []:=fun e=>by have:=ok.l; rw [e] at this; simp at this; omega
 have e5:=ok.l
 walk_at "gg"
 refine zbz ?_
 walk_at "gg"
 refine zdF (by decide) (by omega) (by rw [Rw.split ok]; simp; omega) (fun l H1 n1 S1 e1=>?_)
 rw [Rw.split ok] at e1
 walk_at "gg"
 refine ⟨l,_,rfl,.inl (.of e1),?_⟩
 walk_at "gg"
 . rename_i e; simp at e
 simp only [List.map_cons,List.map_nil] at e1
 refine zhL (.of e1) (fun l2 H2 n2 S2 e2=>?_)
 rw [zmj] at e2
 walk_at "gg"
 refine zhE (by omega) ?_
 walk_at "gg"
 refine zd6 (xs:=[r.h]) (.of e2) (by simp) (fun x hx=>hd x (by simp at hx; simp [hx])) (fun vh H3 S3 i3=>?_)
 walk_at "gg"
 refine zmc i3 (by decide) (by simp) (fun v4 i4=>?_)
 have i4 : Is K H3 v4 (N r.h):=i4
 have T3:=S2.trans S3
 have e3:=T3 _ _ e1
 walk_at "gg"
 have wl : (zbm r.xs).length <= 6000:=by
   have:=hl
   unfold Rw.s at this
   rw [zac,zac,zac] at this
   omega
 have el:=RE.len ok.e
 refine zbz ?_
 walk_at "gg"
 refine zdF (by decide) (by omega) (by rw [zfE hx,List.length_map]; omega) (fun l5 H5 n5 S5 e5=>?_)
 rw [zfE hx] at e5
 walk_at "gg"
 refine zhE (by omega) ?_
 walk_at "gg"
 refine zd6 (.of e5) (by omega) (fun x hx=>hd x (List.mem_cons_of_mem _ hx)) (fun vp H6 S6 i6=>?_)
 have T6:=S5.trans S6
 have e6:=T6 _ _ e3
 have i46:=i4.by T6
 have U6:=S1.trans (T3.trans T6)
 clear e3 e2 e5 S5 S6 T3 S2 S3 i3 i4
 walk_at "gg"
 refine zlL (T.t_WORDS _) (RE.ok2 ok.e) (fun k hk=>?_)
 have oke:=ok.e
 cases er : r.e with
 | go f g =>
   rw [er] at oke
   have oke : (0 <= f /\ f <= 30) /\ 0 <= g /\ g <= 40:=oke
   have kf : k = false:=by
     cases k with
     | false=>rfl
     | true=>have:=hk.mp rfl; rw [er] at this; exact absurd this zkm
   subst kf
   walk_at "gg"
   have es : r.e.s = zb9 [f,g]:=by rw [er]; rfl
   refine zbz ?_
   walk_at "gg"
   refine zdF (by decide) (by omega) (by rw [es,zeZ (by simp)]; simp; omega) (fun l7 H7 n7 S7 e7=>?_)
   rw [es,zeZ (by simp)] at e7
   walk_at "gg"
   refine zhs (zs:=[f,g]) (.of e7) (by simp) (fun z hz=>?_) (fun v8 H8 S8 i8=>?_)
   . simp only [List.mem_cons,List.not_mem_nil,or_false] at hz
     rcases hz with rfl | rfl <;> omega
   walk_at "gg"
   have S8:=S7.trans S8
   have i7 : Is K H8 v8 (.tuple r.e.ds):=by rw [er]; exact i8
   refine zdl (ds:=[N r.h,TN r.xs]) (by simp) (.cons (i46.by S8) (.cons (i6.by S8) .nil)) (fun v9 H9 S9 i9=>?_)
   walk_at "gg"
   refine zih i9 (i7.by S9) (by have:=(RE.few r.e).1; have:=(RE.few r.e).2; simp only [List.length_cons,List.length_nil]; omega) (fun v10 H10 S10 i10=>?_)
   exact q v10 H10 (U6.trans (S8.trans (S9.trans S10))) i10
 | fin w =>
   rw [er] at oke
   have kt : k = true:=hk.mpr (by rw [er]; exact oke)
   subst kt
   walk_at "gg"
   refine zhL (.of e6) (fun l7 H7 n7 S7 e7=>?_)
   rw [zpf] at e7
   walk_at "gg"
   refine zdU (.of e7) (fun l8 H8 n8 S8 e8=>?_)
   walk_at "gg"
   have S8:=S7.trans S8
   have i7 : Is K H8 (.ref l8) (.tuple r.e.ds):=by rw [er]; exact zau.mpr ⟨l8,_,rfl,.of e8,.cons (zaZ.mpr (by rw [er]; rfl)) .nil⟩
   refine zdl (ds:=[N r.h,TN r.xs]) (by simp) (.cons (i46.by S8) (.cons (i6.by S8) .nil)) (fun v9 H9 S9 i9=>?_)
   walk_at "gg"
   refine zih i9 (i7.by S9) (by have:=(RE.few r.e).1; have:=(RE.few r.e).2; simp only [List.length_cons,List.length_nil]; omega) (fun v10 H10 S10 i10=>?_)
   exact q v10 H10 (U6.trans (S8.trans (S9.trans S10))) i10
def zec (K : PySem.W.Frag) (a : Ad) : Sp:=fun vs H Q E=>∃ x0,vs = [x0] /\ ∃ (n : Nat) (rs : List Rw),x0 = .str (zfJ rs) /\ zgI n rs /\ 1 <= n /\ n <= 8 /\ rs.length <= 5 /\ ∀ l H' us,zah H H' -> H l = none -> H' l = some (.lst us) -> IsAll K H' us (rs.map Rw.d) -> Q (.ref l) H'
theorem zd8 {K : PySem.W.Frag} {a : Ad} {H : Hp} {Q : VK} {E : XK} {n : Nat} {rs : List Rw} (hp : zgI n rs) (h1 : 1 <= n) (h8 : n <= 8) (h5 : rs.length <= 5) (q : ∀ l H' us,zah H H' -> H l = none -> H' l = some (.lst us) -> IsAll K H' us (rs.map Rw.d) -> Q (.ref l) H') : zec K a [.str (zfJ rs)] H Q E:=⟨_,rfl,n,rs,rfl,hp,h1,h8,h5,q⟩
set_option maxHeartbeats 4000000 in
theorem zd5 (T : Txt K mg a) : zaP P w K mg base (CX1 P w) 6 a.read_paper a.fd_read_paper zb6 (zec K a):=by
 refine T.d_read_paper.F.ok1 zcG ?_ ?_
 walk_at "b1"
 refine ⟨_,(zad (zi4 (i:=1) zcG.nd rfl (Or.inl rfl) rfl (zaI.by (N':=["part"]) (src:=[none]) rfl (show zaB _ (zae zca).names zc6 ["part"] [none] = true from by decide +kernel)) (zb8 (pcx (zh8 T) hr T.d_parts_of zjn (zaa (pv 0) (zaa zaw zab)))) (fun _ _ _ _ _=>(zaz (i:=0) (show (["part"] : List Str).Nodup from by decide) rfl (Or.inl rfl))) (fun _ _ _ _ _=>zaL) (fun _ _ _ _ _=>(pcx (zkk (K:=K) (mg:=mg) (a:=a) T) hr T.d_row_in zlV (zaa (pv 0) zab))))
     (zad (pst 2 zcG.nd (zai (show zaj _ (.builtin "len") (zd3 K) from zaT) rfl T.z_len zbv (zaa (pix (pix (pv 1))) zab)))
     (zad (za5 (PW.pt (zcU (zaC zjs (pv 2) (zeM rfl T.c_MOST_WORMS) (zaA _)) (zcI (za0 (zaS (pcl (ziw T) hr T.d_is_paper (zaa (pv 1) (zaa (pv 2) zab)))))))) (zag (zdL T.x_NoText rfl rfl T.g_NoText zf9 (zaa zaw zab))) zat)
     (zag (zak (pv 1)))))),?_⟩
 walk_at "cl"
 rw [show start zc6 [x0] = [some x0,none,none] from rfl]
 obtain ⟨n,rs,rfl,hp,h1,h8,h5,q⟩:=h
 obtain ⟨ps,l,e0,ok,hg,hl⟩:=id hp
 have ne : rs ≠ []:=by rw [e0]; simp
 have z : 100000 <= sizeLine:=by decide
 have pl:=zmU h8 h5 ok
 have sp:=zka ne ok
 walk_at "gg"
 refine zh0 (by decide) (by omega) (by rw [sp,List.length_map]; omega) (fun l1 H1 n1 S1 e1=>?_)
 rw [sp] at e1
 walk_at "gg"
 refine zb7 (.of e1) (o0:=none) (tl:=[]) rfl (fun j y H'=>∃ r,rs[j]? = some r /\ Is K H' y r.d) ?_ ?_
 . intro D j x ys o H2 hx inv
   rw [List.getElem?_map,List.getElem?_map] at hx
   obtain ⟨y,hy,rfl⟩:=Option.map_eq_some_iff.mp hx
   obtain ⟨r,hr,rfl⟩:=Option.map_eq_some_iff.mp hy
   have hj:=(List.getElem?_eq_some_iff.mp hr).1
   walk_at "gg"
   refine zjZ (ok r (List.mem_of_getElem? hr)) h1 h8 (fun v H3 S3 i3=>?_)
   walk_at "gg"
   exact zaG inv (by omega) (fun _ _ _ _ s h=>let ⟨r,e,i⟩:=h; ⟨r,e,i.byK s (zhv r)⟩) ⟨_,rfl⟩ S3 ⟨r,hr,i3⟩
 . intro D ys H2 n2 S2 e2 l2 r2
   have tr : IsAll K H2 ys (rs.map Rw.d):=zg9 (by rw [l2]; simp) fun i x hx=>by
     obtain ⟨r,hr,ir⟩:=r2 i x hx
     rw [List.getD_eq_getElem?_getD,List.getElem?_map,hr]
     exact ir
   have T2:=S1.trans S2
   walk_at "gg"
   obtain ⟨r0,za7,er⟩ : ∃ r0 za7,rs = r0 :: za7:=by
     cases rs with
     | nil=>exact absurd rfl ne
     | cons r0 za7=>exact ⟨r0,za7,rfl⟩
   have ok0:=ok r0 (by rw [er]; simp)
   have ir : Is K H2 (.ref D) (zd4 rs):=zaU.mpr ⟨D,ys,rfl,.of e2,tr⟩
   refine zmP (j:=0) (d:=r0.d) ir (by rw [er]; rfl) (fun v3 i3=>?_)
   walk_at "gg"
   refine za1 (j:=1) (ds:=N r0.h :: TN r0.xs :: r0.e.ds) i3 rfl (fun v4 i4=>?_)
   walk_at "gg"
   refine zid i4 ?_
   rw [ok0.l]
   walk_at "gg"
   . rename_i e; exfalso; omega
   refine ziy ir h8 hp h5 (fun H3 S3=>?_)
   walk_at "gg"
   have nD : H D = none:=by
     cases e : H D with
     | none=>rfl
     | some o=>rw [S1 _ _ e] at n2; cases n2
   exact q D H3 ys (T2.trans S3) nD (S3 _ _ e2) (IsAll.same S3 _ _ tr)
def Pen (H : Hp) (p : Addr) (k : Int) : Prop:=0 <= k /\ ∃ (a : Int) (b : Bool),H p = some (.lst [.int a,.bl b])
theorem Pen.same {H H' : Hp} {p : Addr} {k : Int} (s : zah H H') (h : Pen H p k) : Pen H' p k:=by
 obtain ⟨k0,x,y,e⟩:=h
 exact ⟨k0,x,y,s _ _ e⟩
theorem Pen.exc {H H' : Hp} {p l : Addr} {k : Int} (h : Pen H p k) (s : Exc l H H') (n : p ≠ l) : Pen H' p k:=by
 obtain ⟨k0,x,y,e⟩:=h
 exact ⟨k0,x,y,s _ _ n e⟩
theorem Pen.ne {H : Hp} {p q : Addr} {k : Int} (e : H q = none) (h : Pen H p k) : q ≠ p:=by
 obtain ⟨_,x,y,z⟩:=h
 exact (zaF z e).symm
def zgj (K : PySem.W.Frag) : Sp:=fun vs H Q _=>∃ x0 x1,vs = [x0,x1] /\ ∃ (a : Addr) (ns : List Int) (k : Int),x0 = .ref a /\ x1 = .int k /\ SqF K H a (ns.map V.int) /\ ns.length <= 63 /\ 0 <= k /\ k <= 1000 /\
 ∀ p H',H p = none -> zah H H' -> Pen H' p 0 -> Q (.ref p) H'
theorem ziO {K : PySem.W.Frag} {H : Hp} {Q : VK} {E : XK} {a : Addr} {ns : List Int} {k : Int} (h : SqF K H a (ns.map V.int)) (hl : ns.length <= 63) (h0 : 0 <= k) (h1 : k <= 1000)
   (q : ∀ p H',H p = none -> zah H H' -> Pen H' p 0 -> Q (.ref p) H') : zgj K [.ref a,.int k] H Q E:=⟨_,_,rfl,a,ns,k,rfl,rfl,h,hl,h0,h1,q⟩
local macro_rules | `(tactic| walk_at "pen")=>`(tactic| first
 | assumption
 | (apply Pen.same; (focus assumption); walk_at "pen"))
local macro_rules | `(tactic| walk_at "ne")=>`(tactic| ((with_reducible apply Pen.ne); (focus assumption); walk_at "pen"))
local macro_rules | `(tactic| walk_at "penle")=>`(tactic| exact Pen.le (by walk_at "pen") (by omega))
set_option maxHeartbeats 4000000 in
theorem zi7 (T : Txt K mg a) : zaP P w K mg base CX0 1 a.law_pen a.fd_law_pen zdY (zgj K):=by
 refine T.d_law_pen.F.ok zei ?_ ?_
 walk_at "b2"
 refine ⟨_,(zad (pst 2 zei.nd (zan zaM (zan zbC zaf (pv 1)) zaf))
     (zad (za5 (zaC zjs (zai (show zaj _ (.builtin "len") (zd3 K) from zaT) rfl T.z_len zbv (zaa (pv 0) zab)) zaf (zaA _)) (zag (pst 2 zei.nd (zan zaM (zeK zdg (pv 0) (zan zbW (pv 1) (zai (show zaj _ (.builtin "len") (zd3 K) from zaT) rfl T.z_len zbv (zaa (pv 0) zab))) (fun _ _=>rfl)) (zan zbC (zan zcW (pv 1) (zai (show zaj _ (.builtin "len") (zd3 K) from zaT) rfl T.z_len zbv (zaa (pv 0) zab))) zaf)))) zat)
     (zad (za5 (PW.pt (zoM (zaC zo4 (pv 1) (zai (show zaj _ (.builtin "len") (zd3 K) from zaT) rfl T.z_len zbv (zaa (pv 0) zab)) (zaA _)) (zmX (zaC znC (pv 2) (zcw (v:=1000000000000000000) ⟨by decide,by decide,by decide⟩ (by decide +kernel)) (zaA _))))) (zag (zak (zbA (zaa (pv 2) (zaa zcn zab))))) zat)
     (zag (zak (zbA (zaa (zan zbW (zan zbC (zan zaM (zan zaM (zan zbW (pv 2) zaf) (zan zbC zaf (pv 1))) zaf) zaf) zaf) (zaa zcn zab)))))))),?_⟩
 walk_at "cl"
 rw [show start zgP [x0,x1] = [some x0,some x1,none] from rfl]
 obtain ⟨a',ns,k,rfl,rfl,hs,hl,h0,h1,q⟩:=h
 have fin : ∀ (x : Int) (y : Bool),mkL K [.int x,.bl y] H Q:=fun x y=>zbq (by show 2 <= 1000; decide) fun p H' hp s e=>q p H' hp s ⟨by decide,x,y,e⟩
 walk_at "gg"
 refine zeQ hs.sq ?_
 walk_at "gg"
 . rename_i hz
   rw [List.length_map] at hz
   refine zeQ hs.sq ?_
   rw [List.length_map]
   walk_at "gg"
   refine znL hs (Int.emod_nonneg _ (by omega)) (by rw [List.length_map]; exact Int.emod_lt_of_pos _ (by omega)) (fun z=>?_)
   walk_at "gg"
   refine zeQ hs.sq ?_
   rw [List.length_map]
   walk_at "gg"
   refine zkA ⟨by omega,(Bd.of128 (by omega) (by omega)).mono (by decide)⟩ ?_
   walk_at "gg"
   refine zeQ hs.sq ?_
   walk_at "gg"
   all_goals exact fin _ _
 . refine zeQ hs.sq ?_
   walk_at "gg"
   all_goals exact fin _ _
def zfy (K : PySem.W.Frag) : Sp:=fun vs H Q _=>∃ x0 x1,vs = [x0,x1] /\ ∃ (p : Addr) (k m : Int),x0 = .ref p /\ x1 = .int m /\ Pen H p k /\ 0 < m /\ Bd 8999 m /\
 ∀ (r : Int) (H' : Hp),0 <= r -> r < m -> Exc p H H' -> zaK H H' -> Pen H' p k -> Q (.int r) H'
theorem zh3 {K : PySem.W.Frag} {H : Hp} {Q : VK} {E : XK} {p : Addr} {k m : Int} (h : Pen H p k) (hm : 0 < m) (hb : Bd 8999 m)
   (q : ∀ (r : Int) (H' : Hp),0 <= r -> r < m -> Exc p H H' -> zaK H H' -> Pen H' p k -> Q (.int r) H') : zfy K [.ref p,.int m] H Q E:=⟨_,_,rfl,p,k,m,rfl,rfl,h,hm,hb,q⟩
local macro_rules | `(tactic| walk_at "gs")=>`(tactic| ((with_reducible apply zh3); (focus walk_at "pen"); (focus (first | decide | omega)); (focus walk_at "bd128"); intro _ _ _ _ _ _ _))
set_option maxHeartbeats 4000000 in
theorem zaE (T : Txt K mg a) : zaP P w K mg base CX0 1 a.law_draw a.fd_law_draw zc7 (zfy K):=by
 refine T.d_law_draw.F.ok zdD ?_ ?_
 walk_at "b2"
 refine ⟨_,(zad (za5 (zaS (pix (pv 0))) (zad (pst 2 zdD.nd (zan zbW (pix (pv 0)) (pv 1)))
     (zad (zkU (zan zcW (pix (pv 0)) (pv 1)) (zlg (pv 0) zaf ziq))
     (zag (zak (pv 2))))) zat)
     (zad (zkU (zan zbW (zan zaM (zan zbC (pix (pv 0)) zaf) zaf) zaf) (zlg (pv 0) zaf ziq))
     (zad (pst 3 zdD.nd (zan zbW (zan zbC (zan zaM (zan zaM (zan zbC (zan zbW (pix (pv 0)) zaf) zaf) (zan zcW (pix (pv 0)) zaf)) zaf) zaf) zaf))
     (zag (zak (zan zbW (zan zcW (pv 3) zaf) (pv 1))))))),?_⟩
 walk_at "cl"
 rw [show start zgn [x0,x1] = [some x0,some x1,none,none] from rfl]
 obtain ⟨p,k,m,rfl,rfl,⟨hk0,x,y,hp⟩,hm,hbm,q⟩:=h
 walk_at "gg"
 all_goals
   exact q _ _ (Int.emod_nonneg _ (by omega)) (Int.emod_lt_of_pos _ hm) (by walk_at "exc") (Exc.keep (p:=p) (by walk_at "exc") hp) ⟨hk0,_,_,by assumption⟩
def zgg (K : PySem.W.Frag) : Sp:=fun vs H Q _=>∃ x0 x1,vs = [x0,x1] /\ ∃ (t b : Int),x0 = .int t /\ x1 = .int b /\ 0 < b /\ Bd 8999 b /\ ∀ v H',zah H H' -> Is K H' v (N (Rat.divInt t b)) -> Q v H'
theorem zgl {K : PySem.W.Frag} {H : Hp} {Q : VK} {E : XK} {t b : Int} (hb : 0 < b) (hB : Bd 8999 b) (q : ∀ v H',zah H H' -> Is K H' v (N (Rat.divInt t b)) -> Q v H') : zgg K [.int t,.int b] H Q E:=⟨_,_,rfl,t,b,rfl,rfl,hb,hB,q⟩
local macro_rules | `(tactic| walk_at "gs")=>`(tactic| ((with_reducible apply vc_low128); (focus omega); (focus omega); (focus omega); (focus omega); (focus omega); intro _ _ _ _ _ _ _))
set_option maxHeartbeats 4000000 in
theorem ziM (T : Txt K mg a) : zaP P w K mg base CX0 1 a.law_low a.fd_law_low zdP (zgg K):=by
 refine T.d_law_low.F.ok zen ?_ ?_
 walk_at "b2"
 refine ⟨_,(zad (zls (i:=2) (j:=3) rfl zen.nd rfl rfl (by decide) rfl rfl (zaa (zai zgS rfl T.z_abs zkz (zaa (pv 0) zab)) (zaa (pv 1) zab)) rfl)
     (zad (zh7 PassesOwn.never (zaC zjs (pv 3) zaf (zaA _)) (zag (zls (i:=2) (j:=3) rfl zen.nd rfl rfl (by decide) rfl rfl (zaa (pv 3) (zaa (zan zbW (pv 2) (pv 3)) zab)) rfl)))
     (zag (zak (ze2 (zaa (zan zcW (pv 0) (pv 2)) (zaa (zan zcW (pv 1) (pv 2)) zab))))))),?_⟩
 walk_at "cl"
 rw [show start zg4 [x0,x1] = [some x0,some x1,none,none] from rfl]
 obtain ⟨t,b,rfl,rfl,hp,hB,q⟩:=h
 have hb : b ≠ 0:=by omega
 walk_at "gg"
 refine zie (fun σ H'=>∃ (x y : Int),σ = [some (.int t),some (.int b),some (.int x),some (.int y)] /\ 0 <= x /\ 0 <= y /\ Int.gcd x y = Int.gcd t b /\ H' = H) (fun σ=>(ixI σ 3).toNat) ⟨_,_,rfl,by split <;> omega,by omega,zl1 t b,rfl⟩ ?_
 rintro σ H' ⟨x,y,rfl,hx,hy,hg,rfl⟩
 have hgb : Bd 8999 ((Int.gcd t b : Nat) : Int):=hB.le (by
   have : Int.gcd t b ∣ b.natAbs:=Int.gcd_dvd_natAbs_right t b
   have:=Nat.le_of_dvd (by omega) this
   simpa using this)
 walk_at "gg"
 . refine zjo ?_
   walk_at "gg"
   have h1:=Int.emod_nonneg x (show y ≠ 0 by omega)
   have h2:=Int.emod_lt_of_pos x (show 0 < y by omega)
   refine ⟨?_,_,_,rfl,hy,h1,?_,rfl⟩
   . show (x % y).toNat < y.toNat
     omega
   . rw [<- hg]; exact zij (by omega) hx
 . rename_i h0
   have e0 : y = 0:=by omega
   subst e0
   have e : x = ((Int.gcd t b : Nat) : Int):=by
     rw [<- hg,Int.gcd_zero_right]; omega
   have e1 : x = dv t b:=by unfold dv; rw [if_neg (by omega),<- e]
   rw [e1]
   have hd : zny t (dv t b):=⟨zni hb,by unfold dv; rw [if_neg (by omega)]; exact hgb⟩
   refine zkA hd ?_
   walk_at "gg"
   exact zmT (zko hb) (zn9 hb) q
def zeI (K : PySem.W.Frag) : Sp:=fun vs H Q _=>∃ x0,vs = [x0] /\ ∃ r : Rat,Is K H x0 (N r) /\ Fit 400 r /\ Q (.str (zaJ r)) H
theorem zeX {K : PySem.W.Frag} {H : Hp} {Q : VK} {E : XK} {r : Rat} {v : V} (h : Is K H v (N r)) (hf : Fit 400 r) (q : Q (.str (zaJ r)) H) : zeI K [v] H Q E:=⟨_,rfl,r,h,hf,q⟩
set_option maxHeartbeats 4000000 in
theorem ze7 (T : Txt K mg a) : zaP P w K mg base CX0 1 a.law_shown a.fd_law_shown zcu (zeI K):=by
 refine T.d_law_shown.F.ok zhf ?_ ?_
 walk_at "b1"
 have hgd:=hr.gd
 refine ⟨_,(zad (za5 (zaC (show OpR _ (compareOp .Eq) (zgD K) from zfd hu) (pix (pv 0)) zaf (zaA _)) (zag (zak (zao (show zaj _ (.type "str") zfw from zcb) rfl T.z_str zdj (zaa (pix (pv 0)) zab)))) zat)
     (zag (zak (zan zaM (zan zaM (zao (show zaj _ (.type "str") zfw from zcb) rfl T.z_str zdj (zaa (pix (pv 0)) zab)) zaw) (zao (show zaj _ (.type "str") zfw from zcb) rfl T.z_str zdj (zaa (pix (pv 0)) zab)))))),?_⟩
 walk_at "cl"
 rw [show start zdK [x0] = [some x0] from rfl]
 obtain ⟨r,hr,hf,q⟩:=h
 have z : 2000 <= sizeLine:=by decide
 have l1:=zdB r.num
 have f1:=hf.n
 have f2:=hf.d
 walk_at "gg"
 . rename_i e
   have e : r.den = 1:=by omega
   unfold zaJ at q
   rw [if_pos e] at q
   refine zeN (zdQ f1) ?_
   rw [zdW]
   exact q
 . rename_i e
   have e : ¬ r.den = 1:=by omega
   unfold zaJ at q
   rw [if_neg e] at q
   refine zeN (zdQ f1) ?_
   rw [zdW]
   walk_at "gg"
   refine .inr (.inr ⟨_,_,rfl,rfl,by show _ + 1 <= _; omega,?_⟩)
   walk_at "gg"
   refine zeN (by rw [Int.natAbs_natCast]; exact zdQ f2) ?_
   rw [zdW,zf4]
   walk_at "gg"
   refine .inr (.inr ⟨_,_,rfl,rfl,by rw [zac,zaN]; show _ + 1 + _ <= _; omega,?_⟩)
   rw [show (PySem.Str.ofString "/") = ⟨#[47]⟩ from zjH]
   exact q
def zeL (K : PySem.W.Frag) : Sp:=fun vs H Q _=>∃ x0,vs = [x0] /\ ∃ xs : List Rat,Is K H x0 (TN xs) /\ xs.length <= 20 /\ (∀ x ∈ xs,Fit 400 x) /\ ∀ H',zah H H' -> Q (.str (zbm xs)) H'
theorem zhV {K : PySem.W.Frag} {H : Hp} {Q : VK} {E : XK} {xs : List Rat} {v : V} (h : Is K H v (TN xs)) (hl : xs.length <= 20) (hf : ∀ x ∈ xs,Fit 400 x) (q : ∀ H',zah H H' -> Q (.str (zbm xs)) H') : zeL K [v] H Q E:=⟨_,rfl,xs,h,hl,hf,q⟩
set_option maxHeartbeats 4000000 in
theorem zhT (T : Txt K mg a) : zaP P w K mg base CX0 2 a.law_words a.fd_law_words zcs (zeL K):=by
 refine T.d_law_words.F.ok zhy ?_ ?_
 walk_at "b1"
 refine ⟨_,(zag (zak (zb0 PySem.F.plainAttrs_str PySem.F.slot_str_join PySem.F.type_str_join (show MtM _ "str.join" (zdM K) from zcY) zaw (zaa (zaR rfl (zaI.by (N':=["_law_one"]) (src:=[none]) rfl (show zaB _ (zae zcC).names zcx ["_law_one"] [none] = true from by decide +kernel)) (zf3 (pv 0)) (fun _ _ _ _ _=>(zaz (i:=0) (show (["_law_one"] : List Str).Nodup from by decide) rfl (Or.inl rfl))) (fun _ _ _ _ _=>zaL) (fun _ _ _ _ _=>(pcl (ze7 (K:=K) (mg:=mg) (a:=a) T) hr T.d_law_shown (zaa (pv 0) zab)))) zab)))),?_⟩
 walk_at "cl"
 rw [show start zcx [x0] = [some x0] from rfl]
 obtain ⟨xs,hx,hl,hf,q⟩:=h
 obtain ⟨a1,vs,rfl,hs,tv⟩:=zau.mp hx
 walk_at "gg"
 refine zbz ?_
 walk_at "gg"
 refine zeG hs (o0:=none) (tl:=[]) rfl (fun j y _=>y = .str (zaJ (xs.getD j 0))) ?_ ?_
 . intro D j x ys o H1 hx inv
   obtain ⟨hj,iy⟩:=zkp tv hx
   walk_at "gg"
   refine zeX (iy.by inv.2.2.1) (hf _ (getD_mem hj)) ?_
   walk_at "gg"
   exact zaG inv (by omega) (fun _ _ _ _ _ h=>h) ⟨_,rfl⟩ (zah.refl _) rfl
 . intro D ys H1 n1 S1 e1 l1 r1
   have lv:=tv.length
   rw [List.length_map] at lv
   have ey : ys = (xs.map zaJ).map V.str:=by
     refine List.ext_getElem (by rw [l1]; simp; omega) fun i h1 h2=>?_
     rw [r1 i ys[i] (List.getElem?_eq_getElem h1)]
     rw [List.length_map,List.length_map] at h2
     simp [List.getD_eq_getElem?_getD,List.getElem?_eq_getElem h2]
   rw [ey] at e1
   walk_at "gg"
   refine zcV (B:=802) (.of e1) (fun y hy=>?_) ?_ (q _ S1)
   . obtain ⟨x,hx',rfl⟩:=List.mem_map.mp hy
     exact zbQ (hf x hx')
   . rw [List.length_map,zfv]
     show xs.length * 802 + xs.length * 1 <= _
     omega
def zbD (K : PySem.W.Frag) : Sp:=fun vs H Q _=>∃ x0 x1,vs = [x0,x1] /\ ∃ (p : Addr) (k : Int) (g : Bool),x0 = .ref p /\ x1 = .bl g /\ Pen H p k /\ ∀ v H' (r : Rat),Exc p H H' -> zaK H H' -> Pen H' p k -> Is K H' v (N r) -> Fit 301 r -> Q v H'
theorem zbr {K : PySem.W.Frag} {H : Hp} {Q : VK} {E : XK} {p : Addr} {k : Int} {g : Bool} (h : Pen H p k) (q : ∀ v H' (r : Rat),Exc p H H' -> zaK H H' -> Pen H' p k -> Is K H' v (N r) -> Fit 301 r -> Q v H') : zbD K [.ref p,.bl g] H Q E:=⟨_,_,rfl,p,k,g,rfl,rfl,h,q⟩
theorem zjF : (10 : Nat) ^ 300 = 1000000000000000000000000000000000000000000000000000000000000000000000000000000000000000000000000000000000000000000000000000000000000000000000000000000000000000000000000000000000000000000000000000000000000000000000000000000000000000000000000000000000000000000000000000000000000000000000000000000000000:=by decide +kernel
theorem zjO {z : Int} (h : 1 <= z /\ z.natAbs <= 10 ^ 300) : 1 <= z /\ z.natAbs <= 10 ^ 300 /\ 60 <= 10 ^ 300:=⟨h.1,h.2,by decide +kernel⟩
set_option maxHeartbeats 4000000 in
theorem za2 (T : Txt K mg a) : zaP P w K mg base CX0 2 a.law_any_number a.fd_law_any_number za8 (zbD K):=by
 refine T.d_law_any_number.F.ok zam ?_ ?_
 walk_at "b2"
 refine ⟨_,(zad (pst 2 zam.nd (zbA (zaa zaf (zaa zaf (zaa (zcw (v:=1000000000000000000000000000000) ⟨by decide,by decide,by decide⟩ (by decide +kernel)) (zaa (zcw (v:=10000000000000000000000000000000000000000) ⟨by decide,by decide,by decide⟩ (by decide +kernel)) zab))))))
     (zad (za5 (zaS (pv 1)) (zag (pst 2 zam.nd (zbA (zaa zaf (zaa (zcw (v:=100000000000000000000000000000000000000000000000000000000000000) ⟨by decide,by decide,by decide⟩ (by decide +kernel)) (zaa (zmR (v:=1000000000000000000000000000000000000000000000000000000000000000000000000) (zcw (v:=10000000000000000000000000000000000000000000000000000000000000000) ⟨by decide,by decide,by decide⟩ (by decide +kernel)) (zcw (v:=100000000) ⟨by decide,by decide,by decide⟩ (by decide +kernel)) (MulBd (m:=1000) (n:=1000) ⟨by decide +kernel⟩ ⟨by decide +kernel⟩ (by decide) (by decide)) (by decide +kernel)) (zaa (zlZ (v:=1000000000000000000000000000000000000000000000000000000000000000000000000000000000000000000000000000000000000000000000000000000000000000000000000000000000000000000000000000000000000000000000000000000000000000000000000000000000000000000000000000000000000000000000000000000000000000000000000000000000000) (zcw (v:=1000000000000000000000000000000000000000000000000000000000000) ⟨by decide,by decide,by decide⟩ (by decide +kernel)) ⟨by decide,by decide,⟨by decide +kernel⟩⟩ (by decide +kernel)) zab))))))) zat)
     (zad (pst 3 zam.nd (zeK zdg (pv 2) (pcl (zaE T) hr T.d_law_draw (zaa (pv 0) (zaa zaf zab))) (fun _ _=>rfl)))
     (zad (pst 4 zam.nd zaf)
     (zad (ziE PassesOwn.never rfl (zc2 rfl T.z_range (zaa zaf zab)) (zaz (i:=5) zam.nd rfl (Or.inl rfl)) (zag (pst 4 zam.nd (zan zaM (zan zbC (pv 4) zaf) (pcl (zaE T) hr T.d_law_draw (zaa (pv 0) (zaa (zcw (v:=100000000) ⟨by decide,by decide,by decide⟩ (by decide +kernel)) zab)))))))
     (zad (za5 (zaS (pv 1)) (zag (pst 4 zam.nd (zan (show OpR _ (binaryOp .Pow) (rI zlz _) from zjp) (pv 4) zaf))) zat)
     (zad (pst 6 zam.nd (zan zaM zaf (zan zbW (zan zbC (pv 4) zaf) (zeK zdg (zbA (zaa zaf (zaa zaf (zaa (pv 3) (zaa (pv 3) zab))))) (pcl (zaE T) hr T.d_law_draw (zaa (pv 0) (zaa zaf zab))) (fun _ _=>rfl)))))
     (zad (pst 4 zam.nd (zan zbW (zan zbC (pv 4) zaf) (pv 3)))
     (zag (zak (pcl (ziM T) hr T.d_law_low (zaa (zeK zdg (zbA (zaa (pv 4) (zaa (zan zoi zaf (pv 4)) zab))) (pcl (zaE T) hr T.d_law_draw (zaa (pv 0) (zaa zaf zab))) (fun _ _=>rfl)) (zaa (pv 6) zab))))))))))))),?_⟩
 walk_at "cl"
 rw [show start zc4 [x0,x1] = [some x0,some x1,none,none,none,none,none] from rfl]
 obtain ⟨p,k,g,rfl,rfl,hp,q⟩:=h
 cases g
 . walk_at "gg"
   refine zbq (by simp) (fun lx H1 n1 S1 e1=>?_)
   have np1 : lx ≠ p:=Pen.ne n1 hp
   have P1:=hp.same S1
   walk_at "gg"
   rename_i d H3 d0 d1 E3 K3 P3 z hz
   have X3 : Exc p H H3:=S1.exc.trans E3
   have Y3 : zaK H H3:=S1.keep.trans K3
   clear S1 E3 K3 P1 e1 n1 np1
   have z1 : 1 <= z /\ z.natAbs <= 10 ^ 300 /\ 60 <= 10 ^ 300:=zjO (by have:=zjF; omega)
   clear hz
   refine zdS (n:=8) (by omega) (by omega) (fun i σ H'=>∃ (t : Int) (o : Option V),σ = [some (.ref p),some (.bl false),some (.ref lx),some (.int z),some (.int t),o,none] /\ 0 <= t /\ Bd (30 + 20 * i) t /\ Exc p H3 H' /\ zaK H3 H' /\ Pen H' p k) ⟨0,none,rfl,by omega,⟨by decide +kernel⟩,Exc.refl _ _,zaK.refl _,P3⟩ ?_ ?_
   . rintro i σ H4 hi ⟨t,o,rfl,t0,bt,E4,K4,P4⟩
     walk_at "gg"
     rename_i c H5 c0 c1 E5 K5 P5
     have b1 : Bd 17 (99991 : Int):=⟨by decide +kernel⟩
     have b2 : Bd 27 c:=⟨by have : (2 : Nat) ^ 27 = 134217728:=(by decide); omega⟩
     exact ⟨_,_,rfl,by omega,((bt.mul b1).add b2).mono (by omega),E4.trans E5,K4.trans K5,P5⟩
   . rintro σ H4 ⟨t,o,rfl,t0,bt,E4,K4,P4⟩
     have X4:=X3.trans E4
     have Y4:=Y3.trans K4
     have bt : Bd 4000 t:=bt.mono (by decide)
     clear X3 Y3 E4 K4 P3
     walk_at "gg"
     refine zbq (by simp) (fun l4 H4b n4 S4 e4=>?_)
     have np4 : l4 ≠ p:=Pen.ne n4 P4
     have P4b:=P4.same S4
     walk_at "gg"
     rename_i d2 H5 f0 f1 E5 K5 P5 w hw
     have X5:=X4.trans (S4.exc.trans E5)
     have Y5:=Y4.trans (S4.keep.trans K5)
     have m0:=Int.emod_nonneg (t * 48271) (show z ≠ 0 by omega)
     have m1:=Int.emod_lt_of_pos (t * 48271) (show 0 < z by omega)
     have b0:=Int.emod_nonneg (t * 31) (show w ≠ 0 by omega)
     have b1:=Int.emod_lt_of_pos (t * 31) (show 0 < w by omega)
     generalize t * 48271 % z = x at *
     generalize t * 31 % w = y at *
     have hw2 : w.natAbs <= 10 ^ 300:=by
       have:=z1.2
       rcases hw with rfl | rfl | rfl | rfl <;> omega
     clear X4 Y4 S4 E5 K5 P4 P4b e4 n4 np4 hw
     refine zbq (by simp) (fun l6 H6 n6 S6 e6=>?_)
     have np6 : l6 ≠ p:=Pen.ne n6 P5
     have P6:=P5.same S6
     walk_at "gg"
     rename_i d3 H7 g0 g1 E7 K7 P7 u hu
     have hu2 : u.natAbs < z.natAbs:=by omega
     have e301 : (10 : Nat) ^ 301 = 10 ^ 300 * 10:=Nat.pow_succ ..
     have zl:=z1.2.1
     have y1 : (1 + y).natAbs <= 10 ^ 300:=by omega
     have yb : Bd 8999 (1 + y):=(zkM y1 (by decide)).mono (by decide)
     generalize (10 : Nat) ^ 300 = TT at *
     refine zgl (b:=1 + y) (by omega) yb (fun v H8 S8 i8=>?_)
     exact q v H8 _ (X5.trans (S6.exc.trans (E7.trans S8.exc))) (Y5.trans (S6.keep.trans (K7.trans S8.keep))) (P7.same S8) i8 (zjy (by decide) (by omega) (by omega) (by omega))
 . walk_at "gg"
   refine zbq (by simp) (fun l1 H1 n1 S1 e1=>?_)
   have np1 : l1 ≠ p:=Pen.ne n1 hp
   have P1:=hp.same S1
   walk_at "gg"
   refine zbq (by simp) (fun lx H2 n2 S2 e2=>?_)
   have np2 : lx ≠ p:=Pen.ne n2 P1
   have P2:=P1.same S2
   walk_at "gg"
   rename_i d H3 d0 d1 E3 K3 P3 z hz
   have X3 : Exc p H H3:=S1.exc.trans (S2.exc.trans E3)
   have Y3 : zaK H H3:=S1.keep.trans (S2.keep.trans K3)
   clear S1 E3 K3 P1 e1 n1 np1 S2 P2 e2 n2 np2
   have z1 : 1 <= z /\ z.natAbs <= 10 ^ 300 /\ 60 <= 10 ^ 300:=zjO (by have:=zjF; omega)
   clear hz
   refine zdS (n:=8) (by omega) (by omega) (fun i σ H'=>∃ (t : Int) (o : Option V),σ = [some (.ref p),some (.bl true),some (.ref lx),some (.int z),some (.int t),o,none] /\ 0 <= t /\ Bd (30 + 20 * i) t /\ Exc p H3 H' /\ zaK H3 H' /\ Pen H' p k) ⟨0,none,rfl,by omega,⟨by decide +kernel⟩,Exc.refl _ _,zaK.refl _,P3⟩ ?_ ?_
   . rintro i σ H4 hi ⟨t,o,rfl,t0,bt,E4,K4,P4⟩
     walk_at "gg"
     rename_i c H5 c0 c1 E5 K5 P5
     have b1 : Bd 17 (99991 : Int):=⟨by decide +kernel⟩
     have b2 : Bd 27 c:=⟨by have : (2 : Nat) ^ 27 = 134217728:=(by decide); omega⟩
     exact ⟨_,_,rfl,by omega,((bt.mul b1).add b2).mono (by omega),E4.trans E5,K4.trans K5,P5⟩
   . rintro σ H4 ⟨t,o,rfl,t0,bt,E4,K4,P4⟩
     have X4:=X3.trans E4
     have Y4:=Y3.trans K4
     have bt : Bd 4000 t:=bt.mono (by decide)
     clear X3 Y3 E4 K4 P3
     walk_at "gg"
     generalize t ^ Int.toNat 7 = t at *
     refine zbq (by simp) (fun l4 H4b n4 S4 e4=>?_)
     have np4 : l4 ≠ p:=Pen.ne n4 P4
     have P4b:=P4.same S4
     walk_at "gg"
     rename_i d2 H5 f0 f1 E5 K5 P5 w hw
     have X5:=X4.trans (S4.exc.trans E5)
     have Y5:=Y4.trans (S4.keep.trans K5)
     have m0:=Int.emod_nonneg (t * 48271) (show z ≠ 0 by omega)
     have m1:=Int.emod_lt_of_pos (t * 48271) (show 0 < z by omega)
     have b0:=Int.emod_nonneg (t * 31) (show w ≠ 0 by omega)
     have b1:=Int.emod_lt_of_pos (t * 31) (show 0 < w by omega)
     generalize t * 48271 % z = x at *
     generalize t * 31 % w = y at *
     have hw2 : w.natAbs <= 10 ^ 300:=by
       have:=z1.2
       rcases hw with rfl | rfl | rfl | rfl <;> omega
     clear X4 Y4 S4 E5 K5 P4 P4b e4 n4 np4 hw
     refine zbq (by simp) (fun l6 H6 n6 S6 e6=>?_)
     have np6 : l6 ≠ p:=Pen.ne n6 P5
     have P6:=P5.same S6
     walk_at "gg"
     rename_i d3 H7 g0 g1 E7 K7 P7 u hu
     have hu2 : u.natAbs < z.natAbs:=by omega
     have e301 : (10 : Nat) ^ 301 = 10 ^ 300 * 10:=Nat.pow_succ ..
     have zl:=z1.2.1
     have y1 : (1 + y).natAbs <= 10 ^ 300:=by omega
     have yb : Bd 8999 (1 + y):=(zkM y1 (by decide)).mono (by decide)
     generalize (10 : Nat) ^ 300 = TT at *
     refine zgl (b:=1 + y) (by omega) yb (fun v H8 S8 i8=>?_)
     exact q v H8 _ (X5.trans (S6.exc.trans (E7.trans S8.exc))) (Y5.trans (S6.keep.trans (K7.trans S8.keep))) (P7.same S8) i8 (zjy (by decide) (by omega) (by omega) (by omega))
def zeD (K : PySem.W.Frag) : Sp:=fun vs H Q _=>∃ x0,vs = [x0] /\ ∃ (p : Addr) (k : Int),x0 = .ref p /\ Pen H p k /\ ∀ l H' us (n : Nat) (rs : List Rw),H l = none -> Exc p H H' -> zaK H H' -> Pen H' p k -> H' l = some (.lst us) -> IsAll K H' us (rs.map Rw.d) -> zgI n rs -> 1 <= n -> n <= 8 -> rs.length <= 5 -> Q (.ref l) H'
theorem zhK {K : PySem.W.Frag} {H : Hp} {Q : VK} {E : XK} {p : Addr} {k : Int} (h : Pen H p k) (q : ∀ l H' us (n : Nat) (rs : List Rw),H l = none -> Exc p H H' -> zaK H H' -> Pen H' p k -> H' l = some (.lst us) -> IsAll K H' us (rs.map Rw.d) -> zgI n rs -> 1 <= n -> n <= 8 -> rs.length <= 5 -> Q (.ref l) H') : zeD K [.ref p] H Q E:=⟨_,rfl,p,k,rfl,h,q⟩
theorem zjr {K : PySem.W.Frag} {H : Hp} {Q : VK} {p : Addr} {k : Int} {g : Bool} {n : Nat} {σ : L2.St} (hσ : zaH [none,some 0,some 1] σ = [none,some (.ref p),some (.bl g)]) (P : Pen H p k) (n8 : n <= 8) (q : ∀ (D : Addr) (H' : Hp) (us : List V) (xs : List Rat),H D = none -> Exc p H H' -> zaK H H' -> Pen H' p k -> H' D = some (.lst us) -> IsAll K H' us (xs.map N) -> xs.length = n -> (∀ x ∈ xs,Fit 301 x) -> Q (.ref D) H') : zkG (zgb 0) zkN (zgL (zbD K) [] E0 (zjP (zlt 1) (zjP (zlt 2) zn5))) [none,some 0,some 1] σ [.int (n : Int)] H Q:=by
 refine zi1 (n:=(n : Int)) (by omega) (by omega) (fun D j ys σ' H'=>(∃ o,σ' = [o,some (.ref p),some (.bl g)]) /\ H D = none /\ D ≠ p /\ Exc p H H' /\ zaK H H' /\ Pen H' p k /\ H' D = some (.lst ys) /\ ∃ xs : List Rat,xs.length = j /\ IsAll K H' ys (xs.map N) /\ ∀ x ∈ xs,Fit 301 x) ?_ ?_ ?_
 . intro D H' nD s e
   exact ⟨⟨_,hσ⟩,nD,Pen.ne nD P,s.exc,s.keep,P.same s,e,[],rfl,.nil,by simp⟩
 . rintro D j ys σ' H' hj ⟨⟨o,rfl⟩,nD,ne,E1,K1,P1,e1,xs,hl,t1,hf⟩
   have hyl:=t1.length
   rw [List.length_map] at hyl
   walk_at "gg"
   refine zbr P1 (fun v H2 r E2 K2 P2 i2 f2=>?_)
   have e2:=E2.at ne e1
   refine zjK e2 (by omega) (fun H3 E3 e3=>⟨⟨_,rfl⟩,nD,ne,fun b o hb h=>E3 b o (zaF h nD) ((E1.trans E2) b o hb h),(K1.trans K2).trans (E3.keep e2),P2.exc E3 (Ne.symm ne),e3,xs ++ [r],by simp [hl],?_,fun x hx=>?_⟩)
   . rw [List.map_append]
     exact (IsAll.keep (K2.trans (E3.keep e2)) _ _ (zf1 _) t1).append (.cons (i2.byN (E3.keep e2)) .nil)
   . rcases List.mem_append.mp hx with hx | hx
     . exact hf x hx
     . rw [List.mem_singleton.mp hx]; exact f2
 . rintro D ys σ' H' ⟨_,nD,ne,E1,K1,P1,e1,xs,hl,t1,hf⟩
   exact q D H' ys xs nD E1 K1 P1 e1 t1 (by rw [hl]; simp) hf
set_option maxHeartbeats 4000000 in
theorem zhD (T : Txt K mg a) : zaP P w K mg base CX0 3 a.law_paper a.fd_law_paper zcp (zeD K):=by
 refine T.d_law_paper.F.ok zaV ?_ ?_
 walk_at "b1"
 refine ⟨_,(zad (pst 1 zaV.nd (zcq (show OpR _ (compareOp .Eq) (zgD K) from zfd hu) (pcl (zaE T) hr T.d_law_draw (zaa (pv 0) (zaa zaf zab))) zaf (zaA _)))
     (zad (pst 2 zaV.nd (zan zaM zaf (pcl (zaE T) hr T.d_law_draw (zaa (pv 0) (zaa (zeK zdg (zbA (zaa zaf (zaa zaf zab))) (zao zgZ rfl T.z_int zfl (zaa (pv 1) zab)) (fun _ _=>rfl)) zab)))))
     (zad (pst 3 zaV.nd (zbA zab))
     (zad (ziE PassesOwn.never rfl (zc2 rfl T.z_range (zaa (pcl (zaE T) hr T.d_law_draw (zaa (pv 0) (zaa (zeK zdg (zbA (zaa zaf (zaa zaf zab))) (zao zgZ rfl T.z_int zfl (zaa (pv 1) zab)) (fun _ _=>rfl)) zab))) zab)) (zaz (i:=4) zaV.nd rfl (Or.inl rfl)) (zad (pst 5 zaV.nd (zao (show zaj _ (.type "tuple") (zbR K) from zbP) rfl T.z_tuple zbs (zaa (zaR rfl (zaI.by (N':=["_law_worm","_law_pen_here","_law_great"]) (src:=[none,some 0,some 1]) rfl (show zaB _ (zae zbS).names zcz ["_law_worm","_law_pen_here","_law_great"] [none,some 0,some 1] = true from by decide +kernel)) (zc2 rfl T.z_range (zaa (pv 2) zab)) (fun _ _ _ _ _=>(zaz (i:=0) (show (["_law_worm","_law_pen_here","_law_great"] : List Str).Nodup from by decide) rfl (Or.inl rfl))) (fun _ _ _ _ _=>zaL) (fun _ _ _ _ _=>(pcl (za2 (K:=K) (mg:=mg) (a:=a) T) hr T.d_law_any_number (zaa (pv 1) (zaa (pv 2) zab))))) zab)))
     (zag (zhG (zb0 PySem.F.plainAttrs_list PySem.F.slot_list_append PySem.F.type_list_append zdR (pv 3) (zaa (ze2 (zaa (pcl (za2 T) hr T.d_law_any_number (zaa (pv 0) (zaa (pv 1) zab))) (zaa (pv 5) (zaa (pcl (zaE T) hr T.d_law_draw (zaa (pv 0) (zaa zaf zab))) (zaa (pcl (zaE T) hr T.d_law_draw (zaa (pv 0) (zaa zaf zab))) zab))))) zab))))))
     (zad (pst 5 zaV.nd (zao (show zaj _ (.type "tuple") (zbR K) from zbP) rfl T.z_tuple zbs (zaa (zaR rfl (zaI.by (N':=["_law_worm","_law_pen_here","_law_great"]) (src:=[none,some 0,some 1]) rfl (show zaB _ (zae zbS).names zcz ["_law_worm","_law_pen_here","_law_great"] [none,some 0,some 1] = true from by decide +kernel)) (zc2 rfl T.z_range (zaa (pv 2) zab)) (fun _ _ _ _ _=>(zaz (i:=0) (show (["_law_worm","_law_pen_here","_law_great"] : List Str).Nodup from by decide) rfl (Or.inl rfl))) (fun _ _ _ _ _=>zaL) (fun _ _ _ _ _=>(pcl (za2 (K:=K) (mg:=mg) (a:=a) T) hr T.d_law_any_number (zaa (pv 1) (zaa (pv 2) zab))))) zab)))
     (zad (zhG (zb0 PySem.F.plainAttrs_list PySem.F.slot_list_append PySem.F.type_list_append zdR (pv 3) (zaa (ze2 (zaa (pcl (za2 T) hr T.d_law_any_number (zaa (pv 0) (zaa (pv 1) zab))) (zaa (pv 5) (zaa (zeK zdg (zbA (zaa zaw (zaa zaw (zaa zaw zab)))) (pcl (zaE T) hr T.d_law_draw (zaa (pv 0) (zaa zaf zab))) (fun _ _=>rfl)) zab)))) zab)))
     (zag (zak (pv 3))))))))),?_⟩
 walk_at "cl"
 rw [show start zcz [x0] = [some x0,none,none,none,none,none] from rfl]
 obtain ⟨p,k,rfl,hp,q⟩:=h
 walk_at "gg"
 rename_i d H1 d0 d1 E1 K1 P1
 generalize decide (d = 0) = g
 refine zbq (by simp) (fun l2 H2 n2 S2 e2=>?_)
 have np2 : l2 ≠ p:=Pen.ne n2 P1
 have P2:=P1.same S2
 walk_at "gg"
 rename_i c hc m H3 m0 m1 E3 K3 P3
 have X3 : Exc p H H3:=E1.trans (S2.exc.trans E3)
 have Y3 : zaK H H3:=K1.trans (S2.keep.trans K3)
 obtain ⟨n,hn⟩ : ∃ n : Nat,1 + m = (n : Int):=⟨(1 + m).toNat,by omega⟩
 rw [hn]
 have n1 : 1 <= n:=by omega
 have n8 : n <= 8:=by omega
 clear E1 K1 P1 S2 E3 K3 P2 np2 e2 n2 hn m0 m1 hc
 refine zbq (by simp) (fun lr H4 n4 S4 e4=>?_)
 have npr : lr ≠ p:=Pen.ne n4 P3
 have P4:=P3.same S4
 have X4 : Exc p H H4:=X3.trans S4.exc
 have Y4:=Y3.trans S4.keep
 have nlr : H lr = none:=by
   cases e : H lr with
   | none=>rfl
   | some o=>rw [X3.at npr e] at n4; cases n4
 clear X3 Y3 S4 P3
 walk_at "gg"
 refine zbq (by simp) (fun l5 H5 n5 S5 e5=>?_)
 have np5 : l5 ≠ p:=Pen.ne n5 P4
 have P5:=P4.same S5
 walk_at "gg"
 rename_i c2 hc2 m2 H6 m20 m21 E6 K6 P6
 have X6 : Exc p H H6:=X4.trans (S5.exc.trans E6)
 have Y6 : zaK H H6:=Y4.trans (S5.keep.trans K6)
 have e6 : H6 lr = some (.lst []):=E6.at npr (S5 _ _ e4)
 have m24 : m2 <= 4:=by omega
 clear S5 E6 K6 P4 P5 np5 e5 n5 X4 Y4 e4 n4 hc2 m21
 refine zdS (n:=m2) (by omega) (by omega) (fun i σ H'=>∃ (o4 o5 : Option V) (us : List V) (rs : List Rw),σ = [some (.ref p),some (.bl g),some (.int (n : Int)),some (.ref lr),o4,o5] /\ Exc p H H' /\ zaK H H' /\ Pen H' p k /\ H' lr = some (.lst us) /\ IsAll K H' us (rs.map Rw.d) /\ rs.length = i /\ ∀ r ∈ rs,r.Ok n /\ r.e.goes = true) ⟨_,_,[],[],rfl,X6,Y6,P6,e6,.nil,rfl,by simp⟩ ?_ ?_
 . rintro i σ H7 hi ⟨o4,o5,us,rs,rfl,X7,Y7,P7,e7,t7,hl,hr⟩
   walk_at "gg"
   refine zjr rfl P7 n8 (fun D H8 vs xs nD E8 K8 P8 e8 t8 hx hf=>?_)
   walk_at "gg"
   refine zf2 (znt e8 t8) (fun vt H9 S9 it=>?_)
   have e9 : H9 lr = some (.lst us):=S9 _ _ (E8.at npr e7)
   have X9 : Exc p H H9:=(X7.trans E8).trans S9.exc
   have Y9 : zaK H H9:=(Y7.trans K8).trans S9.keep
   have P9:=P8.same S9
   have t9 : IsAll K H9 us (rs.map Rw.d):=IsAll.keep (K8.trans S9.keep) _ _ (zbn rs) t7
   have lu:=t9.length
   rw [List.length_map] at lu
   clear X7 Y7 P7 e7 t7 E8 K8 P8 e8 t8 S9 nD
   walk_at "gg"
   refine ziH (SqL.of e9) ?_
   walk_at "gg"
   refine zbr P9 (fun vh H10 r E10 K10 P10 i10 f10=>?_)
   walk_at "gg"
   rename_i f H11 f0 f1 E11 K11 P11 h H12 h0 h1 E12 K12 P12
   refine zdl (ds:=[N r,TN xs,.int f,.int h]) (by simp) (.cons (i10.byN (K11.trans K12)) (.cons (it.byK (K10.trans (K11.trans K12)) (zje _)) (.cons (zay.mpr rfl) (.cons (zay.mpr rfl) .nil)))) (fun vw H13 S13 i13=>?_)
   have e13:=S13 _ _ ((E10.trans (E11.trans E12)).at npr e9)
   have X13 : Exc p H H13:=(X9.trans (E10.trans (E11.trans E12))).trans S13.exc
   have Y13 : zaK H H13:=(Y9.trans (K10.trans (K11.trans K12))).trans S13.keep
   have t13 : IsAll K H13 us (rs.map Rw.d):=IsAll.keep ((K10.trans (K11.trans K12)).trans S13.keep) _ _ (zbn rs) t9
   have P13:=P12.same S13
   walk_at "gg"
   refine zfh e13 (by omega) (fun H14 E14 e14=>?_)
   refine ⟨_,_,us ++ [vw],rs ++ [⟨r,xs,.go f h⟩],rfl,fun b o hb hh=>E14 b o (zaF hh nlr) (X13 b o hb hh),Y13.trans (E14.keep e13),P13.exc E14 (Ne.symm npr),e14,?_,by simp [hl],fun r' hr'=>?_⟩
   . rw [List.map_append]
     exact (IsAll.keep (E14.keep e13) _ _ (zbn rs) t13).append (.cons (Is.byK (E14.keep e13) (zhv ⟨r,xs,.go f h⟩) i13) .nil)
   . rcases List.mem_append.mp hr' with hr' | hr'
     . exact hr r' hr'
     . rw [List.mem_singleton.mp hr']
       exact ⟨⟨f10,hx,hf,⟨⟨f0,by omega⟩,h0,by omega⟩⟩,rfl⟩
 . rintro σ H7 ⟨o4,o5,us,rs,rfl,X7,Y7,P7,e7,t7,hl,hr⟩
   walk_at "gg"
   refine zjr rfl P7 n8 (fun D H8 vs xs nD E8 K8 P8 e8 t8 hx hf=>?_)
   walk_at "gg"
   refine zf2 (znt e8 t8) (fun vt H9 S9 it=>?_)
   have e9 : H9 lr = some (.lst us):=S9 _ _ (E8.at npr e7)
   have X9 : Exc p H H9:=(X7.trans E8).trans S9.exc
   have Y9 : zaK H H9:=(Y7.trans K8).trans S9.keep
   have P9:=P8.same S9
   have t9 : IsAll K H9 us (rs.map Rw.d):=IsAll.keep (K8.trans S9.keep) _ _ (zbn rs) t7
   have lu:=t9.length
   rw [List.length_map] at lu
   clear X7 Y7 P7 e7 t7 E8 K8 P8 e8 t8 S9 nD
   walk_at "gg"
   refine ziH (SqL.of e9) ?_
   walk_at "gg"
   refine zbr P9 (fun vh H10 r E10 K10 P10 i10 f10=>?_)
   walk_at "gg"
   refine zbq (by simp) (fun l11 H11 n11 S11 e11=>?_)
   have np11 : l11 ≠ p:=Pen.ne n11 P10
   have P11:=P10.same S11
   walk_at "gg"
   rename_i d3 H12 f0 f1 E12 K12 P12
   have e12:=E12.at np11 e11
   refine zfP (fun v=>∃ w,v = .str w /\ zbt w) (.of e12) f0 (by simp; omega) (fun x hx=>?_) (fun x hx=>?_)
   . simp only [List.mem_cons,List.not_mem_nil,or_false] at hx
     rcases hx with rfl | rfl | rfl
     . exact ⟨_,rfl,.inl rfl⟩
     . exact ⟨_,rfl,.inr (.inl rfl)⟩
     . exact ⟨_,rfl,.inr (.inr rfl)⟩
   obtain ⟨ww,rfl,hw⟩:=hx
   have K11:=S11.keep.trans K12
   walk_at "gg"
   refine zdl (ds:=[N r,TN xs,.str ww]) (by simp) (.cons (i10.byN K11) (.cons (it.byK (K10.trans K11) (zje _)) (.cons (zaZ.mpr rfl) .nil))) (fun vw H13 S13 i13=>?_)
   have e13:=S13 _ _ (E12.at npr (S11 _ _ (E10.at npr e9)))
   have X13 : Exc p H H13:=(X9.trans (E10.trans (S11.exc.trans E12))).trans S13.exc
   have Y13 : zaK H H13:=(Y9.trans (K10.trans K11)).trans S13.keep
   have t13 : IsAll K H13 us (rs.map Rw.d):=IsAll.keep ((K10.trans K11).trans S13.keep) _ _ (zbn rs) t9
   have P13:=P12.same S13
   walk_at "gg"
   refine zfh e13 (by omega) (fun H14 E14 e14=>?_)
   walk_at "gg"
   refine q lr H14 (us ++ [vw]) n (rs ++ [⟨r,xs,.fin ww⟩]) nlr (fun b o hb hh=>E14 b o (zaF hh nlr) (X13 b o hb hh)) (Y13.trans (E14.keep e13)) (P13.exc E14 (Ne.symm npr)) e14 ?_ ⟨rs,_,rfl,fun r' hr'=>?_,fun r' hr'=>(hr r' hr').2,rfl⟩ n1 n8 (by simp; omega)
   . rw [List.map_append]
     exact (IsAll.keep (E14.keep e13) _ _ (zbn rs) t13).append (.cons (Is.byK (E14.keep e13) (zhv ⟨r,xs,.fin ww⟩) i13) .nil)
   . rcases List.mem_append.mp hr' with hr' | hr'
     . exact (hr r' hr').1
     . rw [List.mem_singleton.mp hr']
       exact ⟨f10,hx,hf,hw⟩
def zdr (K : PySem.W.Frag) : Sp:=fun vs H Q _=>∃ x0,vs = [x0] /\ ∃ (n : Nat) (r : Rw),Is K H x0 r.d /\ r.Ok n /\ n <= 8 /\ ∀ H',zah H H' -> Q (.str r.s) H'
theorem zfO {K : PySem.W.Frag} {H : Hp} {Q : VK} {E : XK} {n : Nat} {r : Rw} {v : V} (h : Is K H v r.d) (ok : r.Ok n) (h8 : n <= 8) (q : ∀ H',zah H H' -> Q (.str r.s) H') : zdr K [v] H Q E:=⟨_,rfl,n,r,h,ok,h8,q⟩
set_option maxHeartbeats 4000000 in
theorem zfG (T : Txt K mg a) : zaP P w K mg base CX0 3 a.law_row_text a.fd_law_row_text zbo (zdr K):=by
 refine T.d_law_row_text.F.ok zds ?_ ?_
 walk_at "b1"
 have hgd:=hr.gd
 refine ⟨_,(zad (pst 1 zds.nd (zb0 PySem.F.plainAttrs_str PySem.F.slot_str_join PySem.F.type_str_join (show MtM _ "str.join" (zdM K) from zcY) zaw (zaa (zaR rfl (zaI.by (N':=["_law_part"]) (src:=[none]) rfl (show zaB _ (zae zby).names zcf ["_law_part"] [none] = true from by decide +kernel)) (zf3 (zce zfk (pv 0) (zdc zaf) zc5)) (fun _ _ _ _ _=>(zaz (i:=0) (show (["_law_part"] : List Str).Nodup from by decide) rfl (Or.inl rfl))) (fun _ _ _ _ _=>zaL) (fun _ _ _ _ _=>(zao (show zaj _ (.type "str") zgh from zg8) rfl T.z_str zdj (zaa (pv 0) zab)))) zab)))
     (zag (zak (zan zaM (zan zaM (zan zaM (zan zaM (pcl (ze7 T) hr T.d_law_shown (zaa (pix (pv 0)) zab)) zaw) (pcl (zhT T) hr T.d_law_words (zaa (pix (pv 0)) zab))) zaw) (pv 1))))),?_⟩
 walk_at "cl"
 rw [show start zcf [x0] = [some x0,none] from rfl]
 obtain ⟨n,r,hi,ok,h8,q⟩:=h
 have hi : Is K H x0 (.tuple (N r.h :: TN r.xs :: r.e.ds)):=hi
 have z : 10000 <= sizeLine:=by decide
 have h1:=zbQ ok.h
 have h2:=zet ok.x
 have h3:=RE.len ok.e
 have h4 : r.xs.length * (2 * 301 + 3) <= 8 * 605:=Nat.mul_le_mul_right _ (by rw [ok.l]; exact h8)
 have h5:=ok.l
 have cl:=zhm
 obtain ⟨f1,f2⟩:=RE.few r.e
 walk_at "gg"
 refine zbz ?_
 walk_at "gg"
 refine zjG hi ziC (fun v2 H1 S1 i2=>?_)
 rw [zjm] at i2
 obtain ⟨a1,vs,rfl,hs,tv⟩:=zau.mp i2
 have lv:=tv.length
 walk_at "gg"
 refine zeG hs (o0:=none) (tl:=[]) rfl (fun j y _=>y = .str (r.e.ts.getD j "")) ?_ ?_
 . intro D j x ys o H2 hx inv
   obtain ⟨hj,ix⟩:=zkX tv hx
   walk_at "gg"
   refine zh6 ok.e (by omega) (ix.by inv.2.2.1) ?_
   walk_at "gg"
   exact zaG inv (by omega) (fun _ _ _ _ _ h=>h) ⟨_,rfl⟩ (zah.refl _) rfl
 . intro D ys H2 n2 S2 e2 l2 r2
   have ey : ys = r.e.ts.map V.str:=by
     refine List.ext_getElem (by rw [l2]; simp; omega) fun i h1 h2=>?_
     rw [r2 i ys[i] (List.getElem?_eq_getElem h1)]
     rw [List.length_map] at h2
     simp [List.getD_eq_getElem?_getD,List.getElem?_eq_getElem h2]
   rw [ey] at e2
   have hi2:=hi.by (S1.trans S2)
   walk_at "gg"
   refine zcV (B:=6) (.of e2) (RE.short ok.e) (by rw [zfv]; show r.e.ts.length * 6 + r.e.ts.length * 1 <= _; omega) ?_
   rw [RE.join]
   walk_at "gg"
   refine za1 (j:=0) hi2 rfl (fun v0 i0=>?_)
   walk_at "gg"
   refine zeX i0 (ok.h.mono (by decide)) ?_
   walk_at "gg"
   refine .inr (.inr ⟨_,_,rfl,rfl,by omega,?_⟩)
   walk_at "gg"
   refine za1 (j:=1) hi2 rfl (fun v1 i1=>?_)
   walk_at "gg"
   refine zhV i1 (by omega) (fun x hx=>(ok.x x hx).mono (by decide)) (fun H3 S3=>?_)
   walk_at "gg"
   refine .inr (.inr ⟨_,_,rfl,rfl,by rw [zac]; omega,?_⟩)
   walk_at "gg"
   refine .inr (.inr ⟨_,_,rfl,rfl,by rw [zac,zac]; omega,?_⟩)
   walk_at "gg"
   refine .inr (.inr ⟨_,_,rfl,rfl,by rw [zac,zac,zac]; omega,?_⟩)
   exact q _ (S1.trans (S2.trans S3))
def zct (K : PySem.W.Frag) : Sp:=fun vs H Q _=>∃ x0,vs = [x0] /\ ∃ (n : Nat) (rs : List Rw),Is K H x0 (zd4 rs) /\ (∀ r ∈ rs,r.Ok n) /\ n <= 8 /\ rs.length <= 5 /\ ∀ H',zah H H' -> Q (.str (zfJ rs)) H'
theorem ze1 {K : PySem.W.Frag} {H : Hp} {Q : VK} {E : XK} {n : Nat} {rs : List Rw} {v : V} (h : Is K H v (zd4 rs)) (ok : ∀ r ∈ rs,r.Ok n) (h8 : n <= 8) (h5 : rs.length <= 5) (q : ∀ H',zah H H' -> Q (.str (zfJ rs)) H') : zct K [v] H Q E:=⟨_,rfl,n,rs,h,ok,h8,h5,q⟩
set_option maxHeartbeats 4000000 in
theorem zex (T : Txt K mg a) : zaP P w K mg base CX0 4 a.law_paper_text a.fd_law_paper_text zbc (zct K):=by
 refine T.d_law_paper_text.F.ok zey ?_ ?_
 walk_at "b1"
 refine ⟨_,(zag (zak (zb0 PySem.F.plainAttrs_str PySem.F.slot_str_join PySem.F.type_str_join (show MtM _ "str.join" (zdM K) from zcY) zaw (zaa (zaR rfl (zaI.by (N':=["_law_row"]) (src:=[none]) rfl (show zaB _ (zae zba).names zbd ["_law_row"] [none] = true from by decide +kernel)) (zb8 (pv 0)) (fun _ _ _ _ _=>(zaz (i:=0) (show (["_law_row"] : List Str).Nodup from by decide) rfl (Or.inl rfl))) (fun _ _ _ _ _=>zaL) (fun _ _ _ _ _=>(pcl (zfG (K:=K) (mg:=mg) (a:=a) T) hr T.d_law_row_text (zaa (pv 0) zab)))) zab)))),?_⟩
 walk_at "cl"
 rw [show start zbd [x0] = [some x0] from rfl]
 obtain ⟨n,rs,hi,ok,h8,h5,q⟩:=h
 obtain ⟨a1,vs,rfl,hs,tv⟩:=zaU.mp hi
 have lv:=tv.length
 rw [List.length_map] at lv
 walk_at "gg"
 refine zbz ?_
 walk_at "gg"
 refine zb7 hs (o0:=none) (tl:=[]) rfl (fun j y _=>∃ r,rs[j]? = some r /\ y = .str r.s) ?_ ?_
 . intro D j x ys o H1 hx inv
   obtain ⟨r,hr,ir⟩:=zkr tv hx
   have hj:=(List.getElem?_eq_some_iff.mp hr).1
   walk_at "gg"
   refine zfO (ir.by inv.2.2.1) (ok r (List.mem_of_getElem? hr)) h8 (fun H2 S2=>?_)
   walk_at "gg"
   exact zaG inv (by omega) (fun _ _ _ _ _ h=>h) ⟨_,rfl⟩ S2 ⟨r,hr,rfl⟩
 . intro D ys H1 n1 S1 e1 l1 r1
   have ey : ys = (rs.map Rw.s).map V.str:=by
     refine List.ext_getElem (by rw [l1]; simp; omega) fun i h1 h2=>?_
     obtain ⟨r,hr,e⟩:=r1 i ys[i] (List.getElem?_eq_getElem h1)
     rw [e]
     rw [List.length_map,List.length_map] at h2
     rw [List.getElem?_eq_getElem h2] at hr
     cases hr
     simp
   rw [ey] at e1
   walk_at "gg"
   refine zcV (B:=6000) (.of e1) (fun y hy=>?_) ?_ (q _ S1)
   . obtain ⟨r,hr,rfl⟩:=List.mem_map.mp hy
     exact Rw.len (ok r hr) h8
   . rw [List.length_map,zhC]
     show rs.length * 6000 + rs.length * 2 <= _
     omega
def zhn (K : PySem.W.Frag) : Sp:=fun vs H Q _=>∃ x0,vs = [x0] /\ ∃ (a : Addr) (ns : List Int),x0 = .ref a /\ SqF K H a (ns.map V.int) /\ ns.length <= 63 /\ ∀ H',Q (.bl true) H'
set_option maxHeartbeats 4000000 in
theorem zoN (T : Txt K mg a) : zaP P w K mg base CX0 7 a.law a.fd_law zjt (zhn K):=by
 refine T.d_law.F.ok zfp ?_ ?_
 walk_at "b1"
 have hgd:=hr.gd
 refine ⟨_,(zad (ziE PassesOwn.never rfl (zc2 rfl T.z_range (zaa zaf zab)) (zaz (i:=1) zfp.nd rfl (Or.inl rfl)) (zad (pst 2 zfp.nd (pcl (zhD T) hr T.d_law_paper (zaa (pcl (zi7 T) hr T.d_law_pen (zaa (pv 0) (zaa (pv 1) zab))) zab)))
     (zad (pst 3 zfp.nd (pcl (zex T) hr T.d_law_paper_text (zaa (pv 2) zab)))
     (zad (pst 4 zfp.nd (zao (show zaj _ (.type "list") (zhu K) from zi8) rfl T.z_list zjN (zaa (pv 2) zab)))
     (zad (za5 (PW.pt (zcU (zaC (show OpR _ (compareOp .NotEq) (zeA K) from zc9 hu) (pcl (zgE T) hr T.d_show_paper (zaa (pv 4) zab)) (pv 3) (zaA _)) (zcI (zaC (show OpR _ (compareOp .NotEq) (zeA K) from zc9 hu) (pv 4) (pv 2) (zaA _))))) (zag (zak zcn)) zat)
     (zad (pst 5 zfp.nd (pcx (zd5 T) hr T.d_read_paper zlV (zaa (pv 3) zab)))
     (zad (za5 (zaC (show OpR _ (compareOp .NotEq) rNe from znj) (zai (show zaj _ (.builtin "repr") (zfj K) from zdf hgd hu) rfl T.z_repr zfS (zaa (pv 5) zab)) (zai (show zaj _ (.builtin "repr") (zfj K) from zdf hgd hu) rfl T.z_repr zfS (zaa (pv 2) zab)) (zaA _)) (zag (zak zcn)) zat)
     (zad (zhG (zb0 PySem.F.plainAttrs_list PySem.F.slot_list_append PySem.F.type_list_append zdR (pv 5) (zaa zaf zab)))
     (zag (za5 (zaC (show OpR _ (compareOp .NotEq) rNe from znj) (zai (show zaj _ (.builtin "repr") (zfj K) from zdf hgd hu) rfl T.z_repr zfS (zaa (pcx (zd5 T) hr T.d_read_paper zlV (zaa (pv 3) zab)) zab)) (zai (show zaj _ (.builtin "repr") (zfj K) from zdf hgd hu) rfl T.z_repr zfS (zaa (pv 2) zab)) (zaA _)) (zag (zak zcn)) zat))))))))))
     (zag (zak zcn))),?_⟩
 walk_at "cl"
 rw [show start znz [x0] = [some x0,none,none,none,none,none] from rfl]
 obtain ⟨a',ns0,rfl,hs,hl,q⟩:=h
 walk_at "gg"
 refine zdS (n:=3) (by decide) (by decide) (fun i σ H'=>(∃ o1 o2 o3 o4 o5,σ = [some (.ref a'),o1,o2,o3,o4,o5]) /\ zaK H H') ⟨⟨_,_,_,_,_,rfl⟩,zaK.refl _⟩ ?_ ?_
 . rintro i σ H1 hi ⟨⟨o1,o2,o3,o4,o5,rfl⟩,K1⟩
   walk_at "gg"
   refine ziO (K1.sqF hs) hl (by omega) (by simp at hi; omega) (fun p H2 hp2 S2 P2=>?_)
   walk_at "gg"
   refine zhK P2 (fun l H3 us n rs n3 E3 K3 P3 e3 t3 hp h1 h8 h5=>?_)
   have K03:=K1.trans (S2.keep.trans K3)
   obtain ⟨ps,lr,er,ok,hg,hl2⟩:=id hp
   clear K1 S2 K3 E3 P2 P3 hp2 n3
   have i3 : Is K H3 (.ref l) (zd4 rs):=zaU.mpr ⟨l,us,rfl,.of e3,t3⟩
   walk_at "gg"
   refine ze1 i3 ok h8 h5 (fun H4 S4=>?_)
   walk_at "gg"
   have i4:=i3.by S4
   have e4:=S4 _ _ e3
   have t4 : IsAll K H4 us (rs.map Rw.d):=IsAll.same S4 _ _ t3
   refine zj1 i4 (fun lh H5 hus n5 S5 e5 t5=>?_)
   have i5 : Is K H5 (.ref lh) (zd4 rs):=zaU.mpr ⟨lh,hus,rfl,.of e5,t5⟩
   walk_at "gg"
   refine zgz i5 ok h8 h5 (fun H6 S6=>?_)
   walk_at "gg"
   refine zh1 (zjB ok) (zjB ok) ?_
   rw [beq_self_eq_true]
   have U6:=S4.trans (S5.trans S6)
   have i36:=i3.by U6
   have sh:=zn4 h8 ok
   have rf:=znT rs
   have rp:=zou h8 h5 ok
   have zz : 110000 <= sizeLine:=by decide
   walk_at "gg"
   refine zmB (i5.by S6) i36 sh (by decide) rf ?_
   walk_at "gg"
   refine zd8 hp h1 h8 h5 (fun l7 H7 us7 S7 n7 e7 t7=>?_)
   have i7 : Is K H7 (.ref l7) (zd4 rs):=zaU.mpr ⟨l7,us7,rfl,.of e7,t7⟩
   walk_at "gg"
   refine zez i7 rfl rp (by decide) (by omega) ?_
   walk_at "gg"
   refine zez (i36.by S7) rfl rp (by decide) (by omega) ?_
   walk_at "gg"
   refine ziH (SqL.of e7) ?_
   have l7l:=t7.length
   rw [List.length_map] at l7l
   walk_at "gg"
   refine zfh e7 (by omega) (fun H8 E8 e8=>?_)
   have e36:=U6 _ _ e3
   have nl : l ≠ l7:=fun e=>by rw [e,n7] at e36; cases e36
   have K78:=E8.keep e7
   have K38:=U6.keep.trans (S7.keep.trans K78)
   have i8 : Is K H8 (.ref l) (zd4 rs):=zaU.mpr ⟨l,us,rfl,.of (E8.at nl (S7 _ _ e36)),IsAll.keep K38 _ _ (zbn rs) t3⟩
   walk_at "gg"
   refine zd8 hp h1 h8 h5 (fun l9 H9 us9 S9 n9 e9 t9=>?_)
   have i9 : Is K H9 (.ref l9) (zd4 rs):=zaU.mpr ⟨l9,us9,rfl,.of e9,t9⟩
   walk_at "gg"
   refine zez i9 rfl rp (by decide) (by omega) ?_
   walk_at "gg"
   refine zez (i8.by S9) rfl rp (by decide) (by omega) ?_
   walk_at "gg"
   exact ⟨⟨_,_,_,_,_,rfl⟩,K03.trans (K38.trans S9.keep)⟩
 . rintro σ H1 ⟨⟨o1,o2,o3,o4,o5,rfl⟩,K1⟩
   walk_at "gg"
   exact q _
end
end G
namespace G
open PySem PySem.Spec PyProof.Rows L2 GM
theorem znd {us : List Value} (h : us.length = 1) : ∃ a,us = [a]:=by
 cases us with
 | nil=>cases h
 | cons a t=>exact ⟨a,by rw [List.length_eq_zero_iff.mp (Nat.succ.inj h)]⟩
theorem zno {us : List Value} (h : us.length = 2) : ∃ a0 a1,us = [a0,a1]:=by
 cases us with
 | nil=>cases h
 | cons a0 t =>
   obtain ⟨a1,e⟩:=znd (Nat.succ.inj h)
   exact ⟨a0,a1,by rw [e]⟩
theorem zpm {us : List Value} (h : us.length = 3) : ∃ a0 a1 a2,us = [a0,a1,a2]:=by
 cases us with
 | nil=>cases h
 | cons a0 t =>
   obtain ⟨a1,a2,e⟩:=zno (Nat.succ.inj h)
   exact ⟨a0,a1,a2,by rw [e]⟩
inductive FnK (K : PySem.W.Frag) (n : Str) (st : Stmt) (f : Addr) : Prop
 | mk {od an : Option Addr} {sl : Array (Option Value)} {oc kV dc pm cd ct : Value} (a : PySem.W.nsIn K mainGlobals n = some (some (.ref f))) (l : K.lookup f = some ⟨oc,od,.func (PySem.W.fnOf n n (zdT st) (zco st) (zae st) .none kV dc pm an cd ct),sl⟩) (c : PySem.W.codeIn K cd n = true) (k : PySem.W.keepIn K (.ref f) = true) : FnK K n st f
theorem FnK.dn {K : PySem.W.Frag} {h : Heap} {mg : Str -> Option Value} {n : Str} {st : Stmt} {f : Addr} {ps : List Str} (A : FnK K n st f) (X : K.In h) (G : h.Ns mainGlobals mg)
   (b : ∀ (kV doc pm : Value) (an : Option Addr) (cdv ct : Value) (us : List Value),us.length = ps.length -> bindArgs (PySem.W.fnOf n n (zdT st) (zco st) (zae st) .none kV doc pm an cdv ct) ⟨us,[]⟩ = pure (ps.zip us)) : ∃ fd,Dn K mg n st ps f fd:=by
 obtain ⟨a,l,c,k⟩:=A
 have F:=zll (st:=st) l c k
 exact ⟨_,F,PySem.W.mg_of X G a,F.binds b⟩
set_option hygiene false in
local macro_rules | `(tactic| walk_at "bd")=>`(tactic| (intro _ _ _ _ _ _ us hl; first | (obtain ⟨_,rfl⟩:=znd hl; rfl) | (obtain ⟨_,_,rfl⟩:=zno hl; rfl) | (obtain ⟨_,_,_,rfl⟩:=zpm hl; rfl)))
set_option maxHeartbeats 8000000 in
theorem all_mk {l : PySem.W.OpenLaw} {w : World} {K : PySem.W.Frag} {h : Heap} {mg : Str -> Option Value} {fa : Addr} (X : K.In h) (G : h.Ns mainGlobals mg) (hfa : mg "law" = some (.ref fa))
   {f0 f1 f2 f3 f4 f5 f6 f7 f8 f9 f10 f11 f12 f13 f14 f15 f16 f17 f18 f19 f20 f21 f22 f23 f24 f25 f26 f27 f28 f29 f30 : Addr}
   {e0 : Addr}
   {tk0 : Tok}
   {tk1 : Tok}
   {tk2 : Tok}
   {g3 : Addr} {gn3 : Nat} {gd3 : Option Addr} {gs3 : Array (Option Value)} {tk3_0 tk3_1 tk3_2 : Tok}
   {tk4 : Tok}
   {tk5 : Tok}
   (a0 : FnK K "is_whole" zeg f0)
   (a1 : FnK K "is_whole_from" zbX f1)
   (a2 : FnK K "greatest_divisor" zbk f2)
   (a3 : FnK K "is_number" zdy f3)
   (a4 : FnK K "has_stand" zcy f4)
   (a5 : FnK K "is_row" zgp f5)
   (a6 : FnK K "is_last_row" zcL f6)
   (a7 : FnK K "is_paper" zc8 f7)
   (a8 : FnK K "show_number" zcM f8)
   (a9 : FnK K "show_numbers" zbu f9)
   (a10 : FnK K "show_wholes" zbK f10)
   (a11 : FnK K "show_row" zes f11)
   (a12 : FnK K "show_paper" zb2 f12)
   (a13 : FnK K "is_whole_text" zbi f13)
   (a14 : FnK K "number_in" zdI f14)
   (a15 : FnK K "is_number_text" zbe f15)
   (a16 : FnK K "wholes_in" zbT f16)
   (a17 : FnK K "numbers_in" zbB f17)
   (a18 : FnK K "parts_of" zek f18)
   (a19 : FnK K "row_in" zgu f19)
   (a20 : FnK K "read_paper" zca f20)
   (a21 : FnK K "_law_pen" zfa f21)
   (a22 : FnK K "_law_draw" zep f22)
   (a23 : FnK K "_law_low" zfg f23)
   (a24 : FnK K "_law_shown" zdH f24)
   (a25 : FnK K "_law_words" zcC f25)
   (a26 : FnK K "_law_any_number" zbG f26)
   (a27 : FnK K "_law_paper" zbS f27)
   (a28 : FnK K "_law_row_text" zby f28)
   (a29 : FnK K "_law_paper_text" zba f29)
   (a30 : FnK K "law" zjM f30)
   (n_NoText : PySem.W.nsIn K mainGlobals "NoText" = some (some (.ref e0)))
   (z_abs : PySem.W.nsIn K mainGlobals "abs" = some none)
   (z_all : PySem.W.nsIn K mainGlobals "all" = some none)
   (z_bool : PySem.W.nsIn K mainGlobals "bool" = some none)
   (z_int : PySem.W.nsIn K mainGlobals "int" = some none)
   (z_isinstance : PySem.W.nsIn K mainGlobals "isinstance" = some none)
   (z_len : PySem.W.nsIn K mainGlobals "len" = some none)
   (z_list : PySem.W.nsIn K mainGlobals "list" = some none)
   (z_range : PySem.W.nsIn K mainGlobals "range" = some none)
   (z_repr : PySem.W.nsIn K mainGlobals "repr" = some none)
   (z_str : PySem.W.nsIn K mainGlobals "str" = some none)
   (z_tuple : PySem.W.nsIn K mainGlobals "tuple" = some none)
   (h_x_NoText : PySem.W.excIn K e0 zkq "ValueError.__new__" = true)
   (q0 : PySem.W.nsIn K mainGlobals "MOST_WORMS" = some (some (.int 8 tk0)))
   (q1 : PySem.W.nsIn K mainGlobals "MOST_FREE" = some (some (.int 30 tk1)))
   (q2 : PySem.W.nsIn K mainGlobals "MOST_GLOWS" = some (some (.int 40 tk2)))
   (q3 : PySem.W.nsIn K mainGlobals "WORDS" = some (some (.ref g3)))
   (r3 : K.lookup g3 = some ⟨.type "tuple",gd3,.seq #[.str "one" tk3_0,.str "rests" tk3_1,.str "drawn" tk3_2] gn3,gs3⟩)
   (q4 : PySem.W.nsIn K mainGlobals "FIGURES" = some (some (.str "0123456789" tk4)))
   (q5 : PySem.W.nsIn K mainGlobals "WHOLE_FIGURES" = some (some (.int 2 tk5)))
   : ∃ fd : FuncData,(∀ (s : Shared) (v : Value),BindsTo s fd ⟨[v],[]⟩ [("_law_script",v)]) /\ ∀ base : Heap,K.In base -> base.Ns mainGlobals mg -> zaP l.prog w K mg base CX0 7 fa fd ["_law_script"] (zhn K):=by
 obtain ⟨aL,lL,cL,kL⟩:=a30
 cases hfa.symm.trans (PySem.W.mg_of X G aL)
 have FL:=zll (st:=zjM) lL cL kL
 have D30 : Dn K mg _ _ zjt _ _:=⟨FL,PySem.W.mg_of X G aL,FL.binds (by walk_at "bd")⟩
 have ⟨_,D0⟩:=a0.dn (ps:=zdh) X G (by walk_at "bd")
 have ⟨_,D1⟩:=a1.dn (ps:=zbh) X G (by walk_at "bd")
 have ⟨_,D2⟩:=a2.dn (ps:=zaX) X G (by walk_at "bd")
 have ⟨_,D3⟩:=a3.dn (ps:=zcE) X G (by walk_at "bd")
 have ⟨_,D4⟩:=a4.dn (ps:=zcm) X G (by walk_at "bd")
 have ⟨_,D5⟩:=a5.dn (ps:=ze5) X G (by walk_at "bd")
 have ⟨_,D6⟩:=a6.dn (ps:=zbI) X G (by walk_at "bd")
 have ⟨_,D7⟩:=a7.dn (ps:=zdb) X G (by walk_at "bd")
 have ⟨_,D8⟩:=a8.dn (ps:=zbN) X G (by walk_at "bd")
 have ⟨_,D9⟩:=a9.dn (ps:=zbw) X G (by walk_at "bd")
 have ⟨_,D10⟩:=a10.dn (ps:=zbJ) X G (by walk_at "bd")
 have ⟨_,D11⟩:=a11.dn (ps:=zdm) X G (by walk_at "bd")
 have ⟨_,D12⟩:=a12.dn (ps:=zb5) X G (by walk_at "bd")
 have ⟨_,D13⟩:=a13.dn (ps:=zbj) X G (by walk_at "bd")
 have ⟨_,D14⟩:=a14.dn (ps:=zcv) X G (by walk_at "bd")
 have ⟨_,D15⟩:=a15.dn (ps:=za9) X G (by walk_at "bd")
 have ⟨_,D16⟩:=a16.dn (ps:=zcB) X G (by walk_at "bd")
 have ⟨_,D17⟩:=a17.dn (ps:=zb1) X G (by walk_at "bd")
 have ⟨_,D18⟩:=a18.dn (ps:=zdn) X G (by walk_at "bd")
 have ⟨_,D19⟩:=a19.dn (ps:=ze8) X G (by walk_at "bd")
 have ⟨_,D20⟩:=a20.dn (ps:=zb6) X G (by walk_at "bd")
 have ⟨_,D21⟩:=a21.dn (ps:=zdY) X G (by walk_at "bd")
 have ⟨_,D22⟩:=a22.dn (ps:=zc7) X G (by walk_at "bd")
 have ⟨_,D23⟩:=a23.dn (ps:=zdP) X G (by walk_at "bd")
 have ⟨_,D24⟩:=a24.dn (ps:=zcu) X G (by walk_at "bd")
 have ⟨_,D25⟩:=a25.dn (ps:=zcs) X G (by walk_at "bd")
 have ⟨_,D26⟩:=a26.dn (ps:=za8) X G (by walk_at "bd")
 have ⟨_,D27⟩:=a27.dn (ps:=zcp) X G (by walk_at "bd")
 have ⟨_,D28⟩:=a28.dn (ps:=zbo) X G (by walk_at "bd")
 have ⟨_,D29⟩:=a29.dn (ps:=zbc) X G (by walk_at "bd")
 have T : Txt K mg ⟨f0,_,f1,_,f2,_,f3,_,f4,_,f5,_,f6,_,f7,_,f8,_,f9,_,f10,_,f11,_,f12,_,f13,_,f14,_,f15,_,f16,_,f17,_,f18,_,f19,_,f20,_,f21,_,f22,_,f23,_,f24,_,f25,_,f26,_,f27,_,f28,_,f29,_,_,_,e0,g3⟩:=⟨D0,
   D1,
   D2,
   D3,
   D4,
   D5,
   D6,
   D7,
   D8,
   D9,
   D10,
   D11,
   D12,
   D13,
   D14,
   D15,
   D16,
   D17,
   D18,
   D19,
   D20,
   D21,
   D22,
   D23,
   D24,
   D25,
   D26,
   D27,
   D28,
   D29,
   D30,
   PySem.W.mg_none_of X G z_abs,
   PySem.W.mg_none_of X G z_all,
   PySem.W.mg_none_of X G z_bool,
   PySem.W.mg_none_of X G z_int,
   PySem.W.mg_none_of X G z_isinstance,
   PySem.W.mg_none_of X G z_len,
   PySem.W.mg_none_of X G z_list,
   PySem.W.mg_none_of X G z_range,
   PySem.W.mg_none_of X G z_repr,
   PySem.W.mg_none_of X G z_str,
   PySem.W.mg_none_of X G z_tuple,
   PySem.W.mg_of X G n_NoText,
   h_x_NoText,
   ⟨_,PySem.W.mg_of X G q0⟩,
   ⟨_,PySem.W.mg_of X G q1⟩,
   ⟨_,PySem.W.mg_of X G q2⟩,
   PySem.W.mg_of X G q3,
   fun H=>.inr ⟨_,_,_,r3,rfl,rfl,by simp; decide,(.cons ⟨_,rfl⟩ (.cons ⟨_,rfl⟩ (.cons ⟨_,rfl⟩ .nil)))⟩,
   ⟨_,PySem.W.mg_of X G q4⟩,
   ⟨_,PySem.W.mg_of X G q5⟩⟩
 exact ⟨_,fun s v=>.of_eq rfl,fun base _ _=>zoN T⟩
theorem walk {l : PySem.W.OpenLaw} {q : Program} {loose : List Str} {XP : (Str -> Option Value) -> Heap -> Prop} {YP : World -> Heap -> Prop} {d : DefRec} {K : Params -> PySem.W.Frag} (hn : l.most = some 63) (hdf : d.params.defaults = [])
   (hY : ∀ (w : World) (h : Heap),YP w h -> (K w.params).In h)
   (F : ∀ (w : World) (mg : Str -> Option Value) (fa : Addr) (h : Heap),(K w.params).In h -> h.Ns mainGlobals mg -> mg d.name = some (.ref fa) ->
     ∃ fd : FuncData,(∀ (s : Shared) (u : Value),BindsTo s fd ⟨[u],[]⟩ [("_law_script",u)]) /\ ∀ base : Heap,(K w.params).In base -> base.Ns mainGlobals mg -> zaP l.prog w (K w.params) mg base CX0 7 fa fd ["_law_script"] (zhn (K w.params))) :
   PySem.W.WalkO q loose XP YP l.row.toRowW d [] (fun f vs=>PySem.call f vs) :=
 L2.walk_of (n:=63) (k:=7) (x:="_law_script") (CX:=fun _=>CX0) (sp:=fun w=>zhn (K w.params)) hn (by decide) hdf ⟨rfl,by decide,by decide,rfl⟩ hY F (fun _ H a ns hl hO hS=>⟨.ref a,rfl,a,ns,rfl,zoz hO hS,hl,fun _=>rfl⟩) fun _ _ _ _ _ z=>z
end G
local macro_rules | `(tactic| walk_at "fk")=>`(tactic| (refine' G.FnK.mk ?a ?l ?c ?k; (case a=>k_is); (case l=>k_is); (case c=>k_is); (case k=>k_is)))
open PySem PySem.W PyProof.Rows
set_option maxRecDepth 100000 in
set_option maxHeartbeats 0 in
theorem PySem.Challenge.cw_glowflock_k57_papers_written_and_read_holds : PySem.Challenge.rw_glowflock_k57_papers_written_and_read.Holds := by
 w_on; refine GH.head ?_
 k_fill
 refine G.walk (l:=PySem.Challenge.rw_glowflock_k57_papers_written_and_read) rfl rfl (fun w h Y=>PySem.W.kIn_of Y) ?F
 case F =>
   intro w mg fa h KX GG hmg
   refine' G.all_mk KX GG hmg ?a0 ?a1 ?a2 ?a3 ?a4 ?a5 ?a6 ?a7 ?a8 ?a9 ?a10 ?a11 ?a12 ?a13 ?a14 ?a15 ?a16 ?a17 ?a18 ?a19 ?a20 ?a21 ?a22 ?a23 ?a24 ?a25 ?a26 ?a27 ?a28 ?a29 ?a30 ?n_NoText ?z_abs ?z_all ?z_bool ?z_int ?z_isinstance ?z_len ?z_list ?z_range ?z_repr ?z_str ?z_tuple ?h_x_NoText ?q0 ?q1 ?q2 ?q3 ?r3 ?q4 ?q5
   (case a0=>walk_at "fk")
   (case a1=>walk_at "fk")
   (case a2=>walk_at "fk")
   (case a3=>walk_at "fk")
   (case a4=>walk_at "fk")
   (case a5=>walk_at "fk")
   (case a6=>walk_at "fk")
   (case a7=>walk_at "fk")
   (case a8=>walk_at "fk")
   (case a9=>walk_at "fk")
   (case a10=>walk_at "fk")
   (case a11=>walk_at "fk")
   (case a12=>walk_at "fk")
   (case a13=>walk_at "fk")
   (case a14=>walk_at "fk")
   (case a15=>walk_at "fk")
   (case a16=>walk_at "fk")
   (case a17=>walk_at "fk")
   (case a18=>walk_at "fk")
   (case a19=>walk_at "fk")
   (case a20=>walk_at "fk")
   (case a21=>walk_at "fk")
   (case a22=>walk_at "fk")
   (case a23=>walk_at "fk")
   (case a24=>walk_at "fk")
   (case a25=>walk_at "fk")
   (case a26=>walk_at "fk")
   (case a27=>walk_at "fk")
   (case a28=>walk_at "fk")
   (case a29=>walk_at "fk")
   (case a30=>walk_at "fk")
   (case n_NoText=>k_is)
   (case z_abs=>k_is)
   (case z_all=>k_is)
   (case z_bool=>k_is)
   (case z_int=>k_is)
   (case z_isinstance=>k_is)
   (case z_len=>k_is)
   (case z_list=>k_is)
   (case z_range=>k_is)
   (case z_repr=>k_is)
   (case z_str=>k_is)
   (case z_tuple=>k_is)
   (case h_x_NoText=>k_exc)
   (case q0=>k_is)
   (case q1=>k_is)
   (case q2=>k_is)
   (case q3=>k_is)
   (case r3=>k_is)
   (case q4=>k_is)
   (case q5=>k_is)
#print axioms PySem.Challenge.cw_glowflock_k57_papers_written_and_read_holds
