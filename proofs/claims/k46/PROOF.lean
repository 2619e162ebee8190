import PyProof.Rows.All
import Wide.All
import OpenK.AllK
import Wide.FinOn
import Lean
import PyProof.EqAt
import PyProof.EqKinds
import PyProof.TupleCall
import PyProof.P3In
import PyProof.ReprRoads
import PyProof.MaxThree
import PyProof.Rows.SetFrom
import PyProof.SetRoads
import PyProof.Rows.TupDisplay
import PyProof.AttrMissHeap
import KE.KDictOf
import PyProof.Walks
import PySem.SetTable
import PyProof.TupleKey
import PyProof.SetKind
import PyProof.IsRules
import KE.KSortTup
import PyProof.FactsAll.set_1
import KE.KDictList
import PyProof.ListMulRoad
import PyProof.FactsAll.tuple
import PyProof.Rows.CallKwBuiltin
import PySem.Challenge.RW_glowflock_k46_whole_webs_side_by_side
set_option compiler.extract_closed false
set_option Elab.async false
set_option linter.all false
set_option maxRecDepth 100000
namespace GH
open PySem PySem.W PyProof.Rows
noncomputable def zr2 (p : Program) (w : World) (m : Nat) (an : Option Value) (N : Nat) (s0 : Shared) : Option Shared :=
 Option.bind (Fast.tw14082659384304107361 Fast.tw14364793385576792824 p w m an N s0 (topStub p)) fun s1=>match staticsOk (Fast.tw5923862056798008813 p.main.body) s0.heap s1.heap && namesBound p s1.heap && gensDone s1 && laidKept s0.heap s1.heap with | true=>some s1 | false=>none
noncomputable def zrW (w : World) (os : OsState) : Shared:=⟨boot_heap w.params,#[],boot_drawn,boot_toks,os⟩
theorem left_once {p q : Program} {loose : List Str} {Xt : Shared -> Bool} {A : Type} {Yf : Shared -> A} {Ya : World -> A} {N : Nat} (e : opening p = plainProg p.main.scope.names) (hN : Nat.ble 600 N = true) (f : ∀ s,fenceModules? p s = some s) {m : Nat} {an : Option Value}
   (size : ∀ w : World,((boot_heap w.params).isNs mainGlobals,(boot_heap w.params).objs.size,(boot_heap w.params).nsMap mainGlobals "__annotations__") = (true,m,an))
   (h : ∀ w : World,(fun os=>(zr2 p w m an N (zrW w os)).map (fun s=>(Fast.tw4187177175401517315 q loose (Fast.tw5923862056798008813 p.main.body) Xt true s,Yf s))) = fun _=>some (openGood q loose,Ya w)) : LeftO p q loose Xt Yf Ya N:=fun w=>by
 obtain ⟨⟨h',gs,d,k,os⟩,e',e2⟩:=Option.map_eq_some_iff.mp (boot_open e hN f (w:=w))
 obtain ⟨rfl,rfl,rfl,rfl⟩ : h' = boot_heap w.params /\ gs = #[] /\ d = boot_drawn /\ k = boot_toks:=by simpa using e2
 obtain ⟨z1,z2,z3⟩ : _ /\ _ /\ _:=by simpa only [Prod.mk.injEq] using size w
 have r:=congrFun (h w) os
 unfold openEnds
 rw [e']
 show Option.map _ (topFrom treeTable p w N _) = _
 rw [<- r]
 unfold topFrom zr2 zrW
 rw [<- Fast.te14082659384304107361,<- Fast.te14364793385576792824,<- Fast.te5923862056798008813,<- Fast.te4187177175401517315]
 dsimp only
 rw [z1,z2,z3]
 rfl
def qv : Program:=view PySem.Challenge.pw_glowflock_k46_whole_webs_side_by_side [1,2,3,5,6,8,9,10,11,12,13,14,15,16,17,18,19,20,21,22,24,25,26,27,28,29,30,31,32,34,35,36,37,38,39,40,41,42]
theorem said : PySem.Challenge.rw_glowflock_k46_whole_webs_side_by_side.wellSaid = true:=by kernel_rfl
theorem size (w : World) : ((boot_heap w.params).isNs mainGlobals,(boot_heap w.params).objs.size,(boot_heap w.params).nsMap mainGlobals "__annotations__") = (true,11,some (.ref 6)):=by kernel_rfl
local macro_rules | `(tactic| o_head $H)=>`(tactic| (refine holds_open (q:=GH.qv) (loose:=[]) (Xt:=fun s=>xlAt GH.qv [] s && recOk (RowW.records (OpenRow.toRowW (OpenLaw.row PySem.Challenge.rw_glowflock_k46_whole_webs_side_by_side))) s) (XP:=XL GH.qv []) (Yf:=Hook.obs $H) (Ya:=Hook.val $H) (YP:=Hook.says $H) (N:=3224) ?hl (Hook.of $H) (Hook.keeps $H) (fun s e=>xl_of s (Bool.and_eq_true_iff.mp e).1) XL.keeps (by rfl) (by rfl) (by rfl) (fun s e=>recFacts_of (Bool.and_eq_true_iff.mp e).2) (by rfl) (by first | assumption | decide +kernel) (by decide +kernel) ⟨rfl,rfl,rfl,rfl,rfl,by decide +kernel⟩ ?hw ?hc; (case hl=>refine GH.left_once (by kernel_rfl) rfl (fun s=>by kernel_rfl) GH.size ?_; intro w; kernel_rfl)))
local macro_rules | `(tactic| o_law)=>`(tactic| refine holds_law GH.said fun said=>?_)
set_option maxHeartbeats 0
open_top head for PySem.Challenge.rw_glowflock_k46_whole_webs_side_by_side
end GH
set_option maxHeartbeats 200000
set_option Elab.async false
set_option linter.all false
set_option maxRecDepth 100000
namespace L2
open PySem PySem.Spec PyProof.Rows
abbrev Key:=Sum Int Str
def zho : Key -> Value -> Bool
 | .inl k,v=>Value.isInt k v
 | .inr x,v=>Value.isStrOf x v
def zsG (w : World) : Key -> Int
 | .inl k=>hashInt k
 | .inr x=>hashStr w x
theorem zbg : ∀ {k : Key} {v : Value},zho k v = true -> (∃ i t,k = Sum.inl i /\ v = Value.int i t) \/ (∃ x t,k = Sum.inr x /\ v = Value.str x t)
 | .inl i,v,h=>by
   obtain ⟨t,e⟩:=Value.isInt_shape (k:=i) (v:=v) h
   exact .inl ⟨i,t,rfl,e⟩
 | .inr x,v,h=>by
   obtain ⟨t,e⟩:=Value.isStrOf_shape (x:=x) (v:=v) h
   exact .inr ⟨x,t,rfl,e⟩
theorem zme (i : Int) (t : Tok) : zho (.inl i) (.int i t) = true:=by simp [zho,Value.isInt]
theorem zl3 (x : Str) (t : Tok) : zho (.inr x) (.str x t) = true:=by simp [zho,Value.isStrOf]
theorem zru (a b : Int) : decide ((Sum.inl a : Key) = Sum.inl b) = (a == b):=by
 by_cases e : a = b
 . subst e; simp
 . have h : ¬ (Sum.inl a : Key) = Sum.inl b:=fun q=>e (Sum.inl.inj q)
   rw [decide_eq_false h]
   exact (beq_eq_false_iff_ne.mpr e).symm
theorem zq8 (a b : Str) : decide ((Sum.inr a : Key) = Sum.inr b) = decide (a = b):=by
 by_cases e : a = b
 . subst e; simp
 . have h : ¬ (Sum.inr a : Key) = Sum.inr b:=fun q=>e (Sum.inr.inj q)
   rw [decide_eq_false h,decide_eq_false e]
theorem zqZ (a : Int) (b : Str) : decide ((Sum.inl a : Key) = Sum.inr b) = false:=decide_eq_false (fun q=>nomatch q)
theorem zqP (a : Str) (b : Int) : decide ((Sum.inr a : Key) = Sum.inl b) = false:=decide_eq_false (fun q=>nomatch q)
def mixKind (prog : Program) (w : World) : PySem.KeyKind prog w Key where
 is:=zho
 hash:=zsG w
 inj:=fun v a b ha hb=>by
   rcases zbg ha with ⟨i,t,rfl,rfl⟩ | ⟨x,t,rfl,rfl⟩
   . rcases zbg hb with ⟨j,u,rfl,e⟩ | ⟨y,u,rfl,e⟩
     . injection e with e1 _; rw [e1]
     . exact nomatch e
   . rcases zbg hb with ⟨j,u,rfl,e⟩ | ⟨y,u,rfl,e⟩
     . exact nomatch e
     . injection e with e1 _; rw [e1]
 byValue:=fun k v h=>by
   rcases zbg h with ⟨i,t,rfl,rfl⟩ | ⟨x,t,rfl,rfl⟩ <;> rfl
 pyHash:=fun hv h=>by
   rcases zbg hv with ⟨i,t,rfl,rfl⟩ | ⟨x,t,rfl,rfl⟩
   . exact wpAny_pyHash_int h
   . exact wpAny_pyHash_str h
 eqBool:=fun hu hv h=>by
   rcases zbg hu with ⟨i,t,rfl,rfl⟩ | ⟨x,t,rfl,rfl⟩
   . rcases zbg hv with ⟨j,u,rfl,rfl⟩ | ⟨y,u,rfl,rfl⟩
     . rw [zru] at h; exact wpAny_eqBool_int h
     . rw [zqZ] at h; exact SeqAt.EqAt.int_str i t y u _ _ _ _ h
   . rcases zbg hv with ⟨j,u,rfl,rfl⟩ | ⟨y,u,rfl,rfl⟩
     . rw [zqP] at h; exact SeqAt.EqAt.str_int x t j u _ _ _ _ h
     . rw [zq8] at h; exact wpAny_eqBool_str h
 «strs»:=fun k x t v h=>by
   rcases zbg h with ⟨i,u,rfl,e⟩ | ⟨y,u,rfl,e⟩
   . exact nomatch e
   . injection e with e1 _
     subst e1
     cases v <;> rfl
theorem zjX (prog : Program) (w : World) (i : Int) (t : Tok) : (mixKind prog w).is (.inl i) (.int i t) = true:=zme i t
theorem zji (prog : Program) (w : World) (x : Str) (t : Tok) : (mixKind prog w).is (.inr x) (.str x t) = true:=zl3 x t
end L2
namespace L2
open PySem PySem.Spec PyProof.Rows
inductive V where
 | non | bl (b : Bool) | int (i : Int) | str (x : Str) | byt (b : Array UInt8) | flt (b : UInt64) | ref (a : Addr) | ty (n : String)
 deriving DecidableEq
def zaJ : V -> Value -> Prop
 | .non,u=>u = Value.none
 | .bl b,u=>u = Value.bool b
 | .int i,u=>∃ t,u = Value.int i t
 | .str x,u=>∃ t,u = Value.str x t
 | .byt b,u=>∃ t,u = Value.bytes b t
 | .flt b,u=>∃ t,u = Value.float b t
 | .ref a,u=>u = Value.ref a
 | .ty n,u=>u = Value.type n
abbrev zay : List V -> List Value -> Prop:=Paired zaJ
theorem zay.length {xs : List V} {us : List Value} (r : zay xs us) : xs.length = us.length:=Paired.length r
theorem zay.get : ∀ {xs : List V} {us : List Value} {i : Nat} {x : V},zay xs us -> xs[i]? = some x -> ∃ u,us[i]? = some u /\ zaJ x u
 | _,_,_,_,.nil,e=>by simp at e
 | _,_,0,_,.cons r _,e=>by simp at e; subst e; exact ⟨_,rfl,r⟩
 | _,_,i + 1,x,.cons _ t,e=>by
   obtain ⟨u,h1,h2⟩:=zay.get (i:=i) (x:=x) t (by simpa using e)
   exact ⟨u,by simpa using h1,h2⟩
theorem zay.set {x : V} {u : Value} (r : zaJ x u) : ∀ {xs : List V} {us : List Value} (i : Nat),zay xs us -> zay (xs.set i x) (us.set i u)
 | _,_,_,.nil=>.nil
 | _,_,0,.cons _ t=>.cons r t
 | _,_,i + 1,.cons q t=>.cons q (zay.set r i t)
theorem zay.append : ∀ {xs ys : List V} {us ws : List Value},zay xs us -> zay ys ws -> zay (xs ++ ys) (us ++ ws)
 | _,_,_,_,.nil,s=>s
 | _,_,_,_,.cons r t,s=>.cons r (zay.append t s)
theorem zay.take : ∀ {xs : List V} {us : List Value} (n : Nat),zay xs us -> zay (xs.take n) (us.take n)
 | _,_,0,_=>.nil
 | _,_,_ + 1,.nil=>.nil
 | _,_,n + 1,.cons r t=>.cons r (zay.take n t)
theorem zay.drop : ∀ {xs : List V} {us : List Value} (n : Nat),zay xs us -> zay (xs.drop n) (us.drop n)
 | _,_,0,r=>r
 | _,_,_ + 1,.nil=>.nil
 | _,_,n + 1,.cons _ t=>zay.drop n t
def zi9 : Option V -> Option Value -> Prop
 | some v,some u=>zaJ v u
 | none,none=>True
 | _,_=>False
def KV {κ : Type} : List (κ × V) -> List (κ × Value) -> Prop:=Paired fun (p : κ × V) (q : κ × Value)=>p.1 = q.1 /\ zaJ p.2 q.2
def kV : Key -> V
 | .inl i=>.int i
 | .inr x=>.str x
inductive HO where
 /-- a list -/
 | lst (xs : List V)
 /-- a tuple (never changes) -/
 | tup (xs : List V)
 /-- a dict whose keys are ints and texts; one whose keys are tuples of ints and texts (the empty one is both) -/
 | dK (kvs : List (Key × V)) | dT (kvs : List (List Key × V))
 /-- a set of ints: its members,its size -/
 | set (S : Int -> Bool) (n : Nat)
 /-- an instance of the class at C,its dict at dx,its attributes -/
 | ins (C dx : Addr) (fs : List (Str × V))
 /-- the dict of the instance at x -/
 | own (x : Addr)
 /-- the dict of an exception -/
 | xd (fs : List (Str × V))
 /-- a bound method,f of x -/
 | met (f x : Addr)
 /-- a range object lo,lo + 1,.. below hi -/
 | rng (lo hi : Int)
 /-- a thing that is known to the object (the script; a dict while a loop walks it): read,never written while it is so -/
 | frz (o : Obj) (u : HO)
 /-- a code object's table -/
 | tbl (ps : Array Value)
 /-- any other thing,by what is true of its one object (a def of one's own: SetO a S n:=HO.ext fun h=>..) -/
 | ext (φ : Heap -> Prop)
abbrev Hp:=Addr -> Option HO
def upd (H : Hp) (a : Addr) (o : HO) : Hp:=fun b=>if b = a then some o else H b
theorem zar {H : Hp} {a : Addr} {o : HO} : upd H a o a = some o:=by unfold upd; rw [if_pos rfl]
theorem zbj {H : Hp} {a b : Addr} {o : HO} (h : b ≠ a) : upd H a o b = H b:=by unfold upd; rw [if_neg h]
theorem zpZ {H : Hp} {a b : Addr} {o u : HO} (h : H a = some o) (h' : H b = some u) (d : o ≠ u) : a ≠ b:=by
 intro e; subst e; rw [h] at h'; exact d (Option.some.inj h')
theorem zaz {H : Hp} {a b : Addr} {o : HO} (h : H a = some o) (h' : H b = none) : a ≠ b:=by
 intro e; subst e; rw [h] at h'; cases h'
section
variable (P : Program) (w : World)
def za9 (H : Hp) (h : Heap) (a : Addr) : HO -> Prop
 | .lst xs=>xs.length <= sizeLine /\ ∃ (its : List Value) (n : Nat),zay xs its /\ h.get? a = some { cls:=.type "list",data:=.seq its.toArray n }
 | .tup xs=>xs.length <= sizeLine /\ ∃ its : List Value,zay xs its /\ IsTup h a its.toArray
 | .dK kvs=>kvs.length <= sizeLine /\ (a == sysModules) = false /\ ∃ vs,KV kvs vs /\ h.DictOf (mixKind P w) a vs
 | .dT kvs=>kvs.length <= sizeLine /\ (a == sysModules) = false /\ ∃ xs : List (List Key × Addr × Value),
     Paired (fun (p : List Key × V) (q : List Key × Addr × Value)=>p.1 = q.1 /\ H q.2.1 = some (.tup (p.1.map kV)) /\ zaJ p.2 q.2.2) kvs xs /\
     ∃ o es ep,h.get? a = some o /\ o.ExactDict /\ o.data = .dict es ep /\ es.toList = xs.map (entryOfKey (tupleKind (mixKind P w))) /\ (xs.map (·.1)).Nodup
 | .set S n=>h.SetOf (intKind P w) a S n
 | .ins C dx fs=>H dx = some (.own a) /\ fs.length <= 1000 /\ dx ≠ a /\ h.get? a = some (PySem.W.instObj C dx) /\
     ∃ mA,h.Ns1 dx mA /\ (∀ f,zi9 (fs.lookup f) (mA f)) /\ PySem.Within mA (fs.map (·.1))
 | .own _=>∃ o,h.get? a = some o
 | .xd fs=>∃ mA,h.Ns1 a mA /\ ∀ f,zi9 (fs.lookup f) (mA f)
 | .rng lo hi=>∃ t u v,h.get? a = some { cls:=.type "range",data:=.fields #[.int lo t,.int hi u,.int 1 v] }
 | .frz o u=>h.get? a = some o /\ za9 H h a u
 | .tbl ps=>h.get? a = some { cls:=.none,data:=.fields ps }
 | .met f x=>h.get? a = some (PySem.W.methodObj (.ref f) (.ref x))
 | .ext φ=>φ h /\ (∃ o,h.get? a = some o) /\ ∀ h1 h2 : Heap,φ h1 -> (∀ o,h1.get? a = some o -> h2.get? a = some o) -> φ h2
def HOk (H : Hp) (h : Heap) : Prop:=∀ a o,H a = some o -> za9 P w H h a o
end
section
variable {P : Program} {w : World} {H H' : Hp} {h h' : Heap} {a : Addr} {o : HO}
theorem za9.lt (x : za9 P w H h a o) : a < h.objs.size:=by
 cases o with
 | lst xs=>obtain ⟨_,_,_,_,e⟩:=x; exact Heap.lt_size e
 | tup xs=>obtain ⟨_,_,_,p⟩:=x; exact p.lt
 | dK kvs=>obtain ⟨_,_,_,_,o,_,_,e,_⟩:=x; exact Heap.lt_size e
 | dT kvs=>obtain ⟨_,_,_,_,o,_,_,e,_⟩:=x; exact Heap.lt_size e
 | set S n=>obtain ⟨o,_,_,_,e,_⟩:=x; exact Heap.lt_size e
 | ins C dx fs=>obtain ⟨_,_,_,e,_⟩:=x; exact Heap.lt_size e
 | own y=>obtain ⟨_,e⟩:=x; exact Heap.lt_size e
 | xd fs=>obtain ⟨_,⟨_,_,_,e,_⟩,_⟩:=x; exact Heap.lt_size e
 | rng lo hi=>obtain ⟨_,_,_,e⟩:=x; exact Heap.lt_size e
 | frz ob u=>obtain ⟨e,_⟩:=x; exact Heap.lt_size e
 | tbl ps=>exact Heap.lt_size (show h.get? a = some _ from x)
 | met f y=>exact Heap.lt_size (show h.get? a = some _ from x)
 | ext φ=>obtain ⟨_,⟨_,e⟩,_⟩:=x; exact Heap.lt_size e
theorem Paired.mapP {α β : Type} {F G : α -> β -> Prop} : ∀ {l₁ : List α} {l₂ : List β},Paired F l₁ l₂ -> (∀ a b,F a b -> G a b) -> Paired G l₁ l₂
 | _,_,.nil,_=>.nil
 | _,_,.cons r t,f=>.cons (f _ _ r) (Paired.mapP t f)
theorem za9.stay (x : za9 P w H h a o) (k : ∀ b u,(b = a \/ H b = some (.own a)) -> h.get? b = some u -> h'.get? b = some u)
   (ho : ∀ b,H b = some (.own a) -> H' b = some (.own a)) (ht : ∀ b xs,H b = some (.tup xs) -> H' b = some (.tup xs)) : za9 P w H' h' a o:=by
 induction o with
 | lst xs=>obtain ⟨z,its,n,r,e⟩:=x; exact ⟨z,its,n,r,k _ _ (.inl rfl) e⟩
 | tup xs=>obtain ⟨z,its,r,ob,e,c⟩:=x; exact ⟨z,its,r,ob,k _ _ (.inl rfl) e,c⟩
 | dK kvs=>obtain ⟨z,y,vs,r,ob,es,ep,e,c⟩:=x; exact ⟨z,y,vs,r,ob,es,ep,k _ _ (.inl rfl) e,c⟩
 | dT kvs =>
   obtain ⟨z,y,xs,r,ob,es,ep,e,c⟩:=x
   exact ⟨z,y,xs,Paired.mapP r fun p q z=>⟨z.1,ht _ _ z.2.1,z.2.2⟩,ob,es,ep,k _ _ (.inl rfl) e,c⟩
 | set S n=>obtain ⟨ob,es,ep,t,e,c⟩:=x; exact ⟨ob,es,ep,t,k _ _ (.inl rfl) e,c⟩
 | ins C dx fs =>
   obtain ⟨d,z,ne,e,mA,⟨od,es,ep,e2,c⟩,r⟩:=x
   exact ⟨ho _ d,z,ne,k _ _ (.inl rfl) e,mA,⟨od,es,ep,k _ _ (.inr d) e2,c⟩,r⟩
 | own y=>obtain ⟨ob,e⟩:=x; exact ⟨ob,k _ _ (.inl rfl) e⟩
 | xd fs=>obtain ⟨mA,⟨od,es,ep,e,c⟩,r⟩:=x; exact ⟨mA,⟨od,es,ep,k _ _ (.inl rfl) e,c⟩,r⟩
 | rng lo hi=>obtain ⟨t,u,v,e⟩:=x; exact ⟨t,u,v,k _ _ (.inl rfl) e⟩
 | frz ob u ih=>obtain ⟨e,q⟩:=x; exact ⟨k _ _ (.inl rfl) e,ih q⟩
 | tbl ps =>
   have e : h.get? a = some { cls:=.none,data:=.fields ps }:=x
   show h'.get? a = some { cls:=.none,data:=.fields ps }
   exact k a _ (.inl rfl) e
 | met f y =>
   have e : h.get? a = some (PySem.W.methodObj (.ref f) (.ref y)):=x
   show h'.get? a = some (PySem.W.methodObj (.ref f) (.ref y))
   exact k a _ (.inl rfl) e
 | ext φ=>obtain ⟨p,⟨o,e⟩,st⟩:=x; exact ⟨st _ _ p fun o q=>k _ _ (.inl rfl) q,⟨o,k _ _ (.inl rfl) e⟩,st⟩
theorem HOk.lt (x : HOk P w H h) (e : H a = some o) : a < h.objs.size:=(x a o e).lt
theorem HOk.fresh (x : HOk P w H h) (e : h.objs.size <= a) : H a = none:=by
 cases q : H a with
 | none=>rfl
 | some u=>exact absurd (Nat.lt_of_lt_of_le (x.lt q) e) (Nat.lt_irrefl _)
theorem HOk.kept (x : HOk P w H h) (k : ∀ b u,h.get? b = some u -> h'.get? b = some u) : HOk P w H h':=fun a o e =>
 (x a o e).stay (fun b u _ q=>k b u q) (fun _ q=>q) fun _ _ q=>q
theorem HOk.laid (x : HOk P w H h) (k : ∀ b u,h.get? b = some u -> h'.get? b = some u) (hp : h.objs.size <= a) (new : za9 P w (upd H a o) h' a o) : HOk P w (upd H a o) h':=fun b u e=>by
 have hn:=x.fresh hp
 by_cases hb : b = a
 . subst hb; rw [zar] at e; cases e; exact new
 . rw [zbj hb] at e
   exact (x b u e).stay (fun c v _ q=>k c v q) (fun c q=>by rw [zbj (zaz q hn)]; exact q) fun c xs q=>by rw [zbj (zaz q hn)]; exact q
end
def Rd (H : Hp) (a : Addr) (u : HO) : Prop:=H a = some u \/ ∃ o,H a = some (.frz o u)
theorem Rd.ok {P : Program} {w : World} {H : Hp} {h : Heap} {a : Addr} {u : HO} (r : Rd H a u) (x : HOk P w H h) : za9 P w H h a u:=by
 rcases r with r | ⟨o,r⟩
 . exact x a u r
 . obtain ⟨_,q⟩:=x a _ r
   exact q
def Mut : Option HO -> Prop
 | some (.lst _)=>True
 | some (.dK _)=>True
 | some (.dT _)=>True
 | some (.set _ _)=>True
 | some (.ins _ _ _)=>True
 | some (.ext _)=>True
 | _=>False
section
variable {P : Program} {w : World} {H : Hp} {h h' : Heap} {x e : Addr} {o' : HO}
theorem HOk.write (ok : HOk P w H h) (mu : Mut (H x)) (he : e = x \/ H e = some (.own x)) (k : ∀ b u,b ≠ e -> h.get? b = some u -> h'.get? b = some u) (heo : ∃ u,h'.get? e = some u)
   (new : za9 P w (upd H x o') h' x o') : HOk P w (upd H x o') h':=fun b u q=>by
 have nown : ∀ c y,H c = some (.own y) -> c ≠ x:=fun c y r z=>by subst z; rw [r] at mu; exact mu
 have ntup : ∀ c xs,H c = some (.tup xs) -> c ≠ x:=fun c xs r z=>by subst z; rw [r] at mu; exact mu
 by_cases hb : b = x
 . subst hb; rw [zar] at q; cases q; exact new
 . rw [zbj hb] at q
   by_cases hbe : b = e
   . have q' : H b = some (.own x):=by
       rcases he with z | z
       . exact absurd (hbe.trans z) hb
       . rw [hbe]; exact z
     rw [q] at q'; cases q'
     obtain ⟨v,hv⟩:=heo
     exact ⟨v,by rw [hbe]; exact hv⟩
   . refine (ok b u q).stay (fun c v hc r=>k c v ?_ r) (fun c r=>by rw [zbj (nown c b r)]; exact r) fun c xs r=>by rw [zbj (ntup c xs r)]; exact r
     rcases hc with rfl | hc
     . exact hbe
     . rintro rfl
       rcases he with z | z
       . exact nown c b hc z
       . rw [hc] at z; cases z; exact hb rfl
end
structure Un (fs ex : List Addr) (H H' : Hp) (h h' : Heap) : Prop where
 keep : ∀ b o,h.get? b = some o -> H b = none -> b ∉ fs -> b ∉ ex -> h'.get? b = some o
 slot : ∀ b o,h.get? b = some o -> H b = none -> b ∈ fs -> b ∉ ex -> ∃ sl,h'.get? b = some { o with slots:=sl }
 free : ∀ b o,h.get? b = some o -> H b = none -> b ∉ ex -> H' b = none
 there : ∀ b o,h.get? b = some o -> b ∉ ex -> ∃ o',h'.get? b = some o'
 tups : ∀ b xs,H b = some (.tup xs) -> H' b = some (.tup xs)
 frzs : ∀ b o u,H b = some (.frz o u) -> H' b = some (.frz o u)
 tbls : ∀ b ps,H b = some (.tbl ps) -> ∃ more,H' b = some (.tbl (ps ++ more))
section
variable {fs fs' ex ex' : List Addr} {H H1 H2 : Hp} {h h1 h2 h' : Heap} {a x e : Addr} {o : HO}
theorem Un.any (u : Un fs ex H H1 h h1) {b : Addr} {ob : Obj} (q : h.get? b = some ob) (n : H b = none) (hx : b ∉ ex) : ∃ sl,h1.get? b = some { ob with slots:=sl }:=by
 by_cases hb : b ∈ fs
 . exact u.slot b ob q n hb hx
 . exact ⟨ob.slots,u.keep b ob q n hb hx⟩
theorem Un.kept (k : ∀ b u,h.get? b = some u -> h'.get? b = some u) : Un fs ex H H h h' :=
 ⟨fun b ob q _ _ _=>k b ob q,fun b ob q _ _ _=>⟨ob.slots,k b ob q⟩,fun _ _ _ n _=>n,fun b ob q _=>⟨ob,k b ob q⟩,fun _ _ q=>q,fun _ _ _ q=>q,fun _ ps q=>⟨#[],by rw [q]; simp⟩⟩
theorem Un.refl : Un fs ex H H h h:=Un.kept fun _ _ q=>q
theorem Un.laid (k : ∀ b u,h.get? b = some u -> h'.get? b = some u) (hp : h.objs.size <= a) (hn : H a = none) : Un fs ex H (upd H a o) h h' where
 keep:=fun b u q _ _ _=>k b u q
 slot:=fun b u q _ _ _=>⟨u.slots,k b u q⟩
 free:=fun b u q n _=>by rw [zbj (Nat.ne_of_lt (Nat.lt_of_lt_of_le (Heap.lt_size q) hp))]; exact n
 there:=fun b u q _=>⟨u,k b u q⟩
 tups:=fun b xs q=>by rw [zbj (zaz q hn)]; exact q
 frzs:=fun b u xs q=>by rw [zbj (zaz q hn)]; exact q
 tbls:=fun b ps q=>⟨#[],by rw [zbj (zaz q hn),q]; simp⟩
theorem Un.write (mu : Mut (H x)) (he : e = x \/ H e = some (.own x)) (k : ∀ b u,b ≠ e -> h.get? b = some u -> h'.get? b = some u) (heo : ∃ u,h'.get? e = some u) : Un fs ex H (upd H x o) h h':=by
 have hx : ∀ b,H b = none -> b ≠ x:=fun b n z=>by subst z; rw [n] at mu; exact mu
 have hb : ∀ b,H b = none -> b ≠ e:=fun b n z=>by
   subst z
   rcases he with r | r
   . exact hx b n r
   . rw [n] at r; cases r
 have hm : ∀ b u,H b = some u -> ¬ Mut (some u) -> b ≠ x:=fun b u q nm z=>by subst z; rw [q] at mu; exact nm mu
 refine ⟨fun b u q n _ _=>k b u (hb b n) q,fun b u q n _ _=>⟨u.slots,k b u (hb b n) q⟩,fun b u q n _=>by rw [zbj (hx b n)]; exact n,fun b u q _=>?_,
   fun b xs q=>by rw [zbj (hm b _ q fun z=>z)]; exact q,fun b u xs q=>by rw [zbj (hm b _ q fun z=>z)]; exact q,fun b ps q=>⟨#[],by rw [zbj (hm b _ q fun z=>z),q]; simp⟩⟩
 by_cases hbe : b = e
 . subst hbe; exact heo
 . exact ⟨u,k b u hbe q⟩
end
def trk (h : Heap) (H : Hp) : List Addr:=(List.range h.objs.size).filter fun a=>(H a).isSome
def ziu (h : Heap) (H : Hp) : Heap:=PySem.W.hideAll h (trk h H)
theorem zmE (h : Heap) (H : Hp) : (ziu h H).objs.size = h.objs.size:=PySem.W.hideAll_size _ _
theorem znG {h : Heap} {H : Hp} {b : Addr} {o : Obj} (e : h.get? b = some o) (n : H b = none) : (ziu h H).get? b = some o :=
 PySem.W.hideAll_get _ e fun hm=>by
   have q : (H b).isSome = true:=(List.mem_filter.mp hm).2
   rw [n] at q; simp at q
theorem zpj {h : Heap} {H : Hp} {b : Addr} {o : Obj} (e : (ziu h H).get? b = some o) : h.get? b = some o /\ H b = none:=by
 have e' : h.get? b = some o:=PySem.W.of_hideAll (trk h H) e
 refine ⟨e',?_⟩
 cases q : H b with
 | none=>rfl
 | some x =>
   have hm : b ∈ trk h H:=List.mem_filter.mpr ⟨List.mem_range.mpr (Heap.lt_size e'),by simp [q]⟩
   have z : (ziu h H).get? b = none:=PySem.W.hideAll_none (trk h H) hm
   rw [z] at e; cases e
def zpv (g h : Heap) (L : Addr) : List (Addr × Obj):=(List.range h.objs.size).filterMap fun a=>if a = L \/ (g.get? a).isSome = true then none else (h.get? a).map fun o=>(a,o)
def rest (g h : Heap) (L d : Addr) : List (Addr × Obj):=(zpv g h L).filter fun p=>decide (p.1 ≠ d)
end L2
namespace L2
open PySem PySem.Spec PyProof.Rows
structure Mod (K : PySem.W.Frag) (mg : Str -> Option Value) (base : Heap) : Prop where
 kin : K.In base
 glob : base.Ns mainGlobals mg
 blt : ∃ mb,base.Ns builtinsNs mb /\ ∀ x : Str,x ≠ "__name__" -> mb x = bootBuiltins x
 nolimit : base.NoLimit
structure Cx where
 prog : Program
 w : World
 K : PySem.W.Frag
 mg : Str -> Option Value
 base : Heap
 A : Around
 N : List Str
 s₀ : Shared
 H₀ : Hp
 env : Env
 outer : List Env
 stack : List Env
 ex : List Addr
 fn : Str -> Bool
 calm : Bool
 pn : List (Addr × Obj)
 xe : Value -> Shared -> Prop
def frs (l : List Env) : List Addr:=l.filterMap (·.frame)
abbrev Cx.fs (X : Cx) : List Addr:=frs X.outer
def Vis (sc : Scope) (x : Str) : Prop:=sc.names.lookup x = some .local \/ sc.names.lookup x = some .cell \/ sc.names.lookup x = some .free
def Loc (sc : Scope) (x : Str) : Prop:=sc.names.lookup x = some .local \/ sc.names.lookup x = some .cell
def zsM (env : Env) (h : Heap) (m : Str -> Option Value) (x : Str) (u : Value) : Prop :=
 (env.kindOf x = some .local /\ m x = some u) \/ ((env.kindOf x = some .cell \/ env.kindOf x = some .free) /\ ∃ c,env.cells.lookup x = some c /\ h.IsCell c (some u))
structure Cx.Ok (X : Cx) : Prop where
 mod : Mod X.K X.mg X.base
 kind : X.env.scope.kind = .function
 glob : X.env.globals = mainGlobals
 blt : X.env.builtins = builtinsNs
 above : X.s₀.heap.objs.size <= X.env.locals
 inj : ∀ x y c,X.env.cells.lookup x = some c -> X.env.cells.lookup y = some c -> x = y
 has : ∀ x,(X.env.kindOf x = some .cell \/ X.env.kindOf x = some .free) -> ∃ c,X.env.cells.lookup x = some c
 cab : ∀ x c,X.fn x = true -> X.env.cells.lookup x = some c -> X.s₀.heap.objs.size <= c
 hd : X.calm = true -> X.A.handled = none
 frames : X.A.frames = some X.stack
 stk : X.stack = X.outer \/ (X.stack = X.env :: X.outer /\ X.env.frame = some X.env.locals)
 exf : ∀ b ∈ X.ex,b ≠ X.env.locals /\ ∀ x c,X.env.cells.lookup x = some c -> c ≠ b
 bs : ∀ b o,X.base.get? b = some o -> X.s₀.heap.get? b = some o /\ X.H₀ b = none
 bsz : X.base.objs.size <= X.s₀.heap.objs.size
 noex : ∀ b o,X.base.get? b = some o -> b ∉ X.ex
 exfs : ∀ b ∈ X.ex,b ∉ X.fs
 funs : X.s₀.heap.FunFrames X.base X.outer
 frf : ∀ b ∈ X.fs,X.H₀ b = none
structure Inv (X : Cx) (pins : List (Addr × Obj)) (σ : List (Option V)) (H : Hp) (s : Shared) : Prop where
 ok : X.Ok
 os : s.os = X.s₀.os
 bare : AllBare s.gens
 base : Un X.fs X.ex X.H₀ H X.s₀.heap s.heap
 loc : ∃ m,s.heap.Ns X.env.locals m /\ ∀ (i : Nat) (x : Str) (v : V),X.N[i]? = some x -> σ[i]? = some (some v) -> Vis X.env.scope x -> ∃ u,zaJ v u /\ zsM X.env s.heap m x u
 cell : ∀ x c,X.env.cells.lookup x = some c -> ∃ v,s.heap.IsCell c v
 free : H X.env.locals = none
 freeC : ∀ x c,X.env.cells.lookup x = some c -> H c = none
 pin : ∀ p ∈ X.pn ++ pins,s.heap.get? p.1 = some p.2 /\ H p.1 = none /\ p.1 ≠ X.env.locals /\ p.1 ∉ X.fs /\ ∀ v,p.2.data ≠ .cell v
 hok : HOk X.prog X.w H s.heap
 len : σ.length = X.N.length
section
variable {X : Cx} {pins : List (Addr × Obj)} {σ : List (Option V)} {H H' : Hp} {s : Shared} {h' : Heap}
theorem Cx.Ok.nofr (ok : X.Ok) {b : Addr} {o : Obj} (e : X.base.get? b = some o) : b ∉ X.fs:=fun hb=>by
 have:=(ok.funs.mem hb).1
 rw [e] at this; cases this
theorem Inv.bs (I : Inv X pins σ H s) : ∀ b o,X.base.get? b = some o -> s.heap.get? b = some o /\ H b = none:=fun b o e =>
 ⟨I.base.keep b o (I.ok.bs b o e).1 (I.ok.bs b o e).2 (I.ok.nofr e) (I.ok.noex b o e),I.base.free b o (I.ok.bs b o e).1 (I.ok.bs b o e).2 (I.ok.noex b o e)⟩
theorem Inv.bk (I : Inv X pins σ H s) : ∀ b o,X.base.get? b = some o -> s.heap.get? b = some o:=fun b o e=>(I.bs b o e).1
theorem Inv.mod (I : Inv X pins σ H s) : Mod X.K X.mg X.base:=I.ok.mod
theorem Inv.kIn (I : Inv X pins σ H s) : X.K.In s.heap:=I.ok.mod.kin.keeps I.bk
theorem Inv.lt (I : Inv X pins σ H s) : X.env.locals < s.heap.objs.size:=let ⟨_,hn,_⟩:=I.loc; hn.lt
theorem Inv.sz (I : Inv X pins σ H s) : X.s₀.heap.objs.size <= s.heap.objs.size:=Nat.le_trans I.ok.above (Nat.le_of_lt I.lt)
theorem Inv.nofs (I : Inv X pins σ H s) {a : Addr} (h : s.heap.objs.size <= a) : a ∉ X.fs:=fun hb=>by
 obtain ⟨_,o,ho,_⟩:=I.ok.funs.mem hb
 exact absurd (Nat.lt_of_lt_of_le (Heap.lt_size ho) (Nat.le_trans I.sz h)) (Nat.lt_irrefl _)
theorem Inv.cne (I : Inv X pins σ H s) : ∀ x c,X.env.cells.lookup x = some c -> c ≠ X.env.locals:=fun x c e z=>by
 obtain ⟨v,o,ho,hd⟩:=I.cell x c e
 obtain ⟨m,⟨o',es,ep,ho',hd',_⟩,_⟩:=I.loc
 rw [z,ho'] at ho; cases ho; rw [hd'] at hd; cases hd
theorem Inv.funs (I : Inv X pins σ H s) : s.heap.FunFrames X.base X.outer:=by
 have all : ∀ (l : List Env),(∀ b ∈ frs l,b ∈ X.fs) -> X.s₀.heap.FunFrames X.base l -> s.heap.FunFrames X.base l:=by
   intro l
   induction l with
   | nil=>intro _ _; trivial
   | cons env r ih =>
     intro hs hl
     obtain ⟨hk,⟨L,o,hf,hn,ho,hd⟩,hr⟩:=hl
     have hL : L ∈ X.fs:=hs L (by unfold frs; rw [List.filterMap_cons,hf]; exact List.mem_cons_self)
     obtain ⟨sl,e⟩:=I.base.slot L o ho (I.ok.frf L hL) hL fun z=>I.ok.exfs L z hL
     exact ⟨hk,⟨L,_,hf,hn,e,hd⟩,ih (fun b hb=>hs b (by unfold frs; rw [List.filterMap_cons,hf]; exact List.mem_cons_of_mem _ hb)) hr⟩
 exact all X.outer (fun _ hb=>hb) I.ok.funs
theorem Inv.stack (I : Inv X pins σ H s) : s.heap.FunFrames X.base X.stack:=by
 rcases I.ok.stk with e | ⟨e,hf⟩
 . rw [e]; exact I.funs
 . rw [e]
   obtain ⟨m,hn,_⟩:=I.loc
   refine .cons (by rw [I.ok.kind]; decide) hf hn ?_ I.funs
   exact Heap.get?_none_of_le (Nat.le_trans I.ok.bsz I.ok.above)
theorem Inv.stkSub (I : Inv X pins σ H s) : ∀ b ∈ frs X.stack,b ∈ X.env.locals :: X.fs:=fun b hb=>by
 rcases I.ok.stk with e | ⟨e,hf⟩
 . rw [e] at hb; exact List.mem_cons_of_mem _ hb
 . rw [e] at hb
   unfold frs at hb
   rw [List.filterMap_cons,hf] at hb
   exact hb
theorem Inv.stkFree (I : Inv X pins σ H s) : ∀ b ∈ frs X.stack,H b = none:=fun b hb=>by
 rcases List.mem_cons.mp (I.stkSub b hb) with e | hb
 . rw [e]; exact I.free
 . obtain ⟨_,o,ho,_⟩:=I.ok.funs.mem hb
   exact I.base.free b o ho (I.ok.frf b hb) fun z=>I.ok.exfs b z hb
theorem Inv.step {g' : Array GenState} {t' : Nat} {d' : Drawn} {ch : List Addr} (I : Inv X pins σ H s)
   (hch : ∀ b ∈ ch,(b ∈ X.ex \/ X.s₀.heap.objs.size <= b) /\ b ≠ X.env.locals /\ (∀ x c,X.env.cells.lookup x = some c -> c ≠ b) /\ ∀ p ∈ X.pn ++ pins,p.1 ≠ b)
   (keep : ∀ b o,b ≠ X.env.locals -> b ∉ X.fs -> b ∉ ch -> s.heap.get? b = some o -> H b = none -> h'.get? b = some o)
   (slot : ∀ b o,b ≠ X.env.locals -> b ∈ X.fs -> b ∉ ch -> s.heap.get? b = some o -> H b = none -> ∃ sl,h'.get? b = some { o with slots:=sl }) (free : ∀ b o,b ∉ ch -> s.heap.get? b = some o -> H b = none -> H' b = none)
   (there : ∀ b o,b ∉ ch -> s.heap.get? b = some o -> ∃ o',h'.get? b = some o')
   (tups : ∀ b xs,H b = some (.tup xs) -> H' b = some (.tup xs)) (frzs : ∀ b o u,H b = some (.frz o u) -> H' b = some (.frz o u)) (tbls : ∀ b ps,H b = some (.tbl ps) -> ∃ more,H' b = some (.tbl (ps ++ more)))
   (ns : ∀ m,s.heap.Ns X.env.locals m -> h'.Ns X.env.locals m) (hok : HOk X.prog X.w H' h') (hg : AllBare g') :
   Inv X pins σ H' { s with heap:=h',gens:=g',drawn:=d',toks:=t' }:=by
 have neL : ∀ b o,X.s₀.heap.get? b = some o -> b ≠ X.env.locals:=fun b o e=>Nat.ne_of_lt (Nat.lt_of_lt_of_le (Heap.lt_size e) I.ok.above)
 have neC : ∀ b o,X.s₀.heap.get? b = some o -> b ∉ X.ex -> b ∉ ch:=fun b o e hx hb=>by
   rcases (hch b hb).1 with z | z
   . exact hx z
   . exact absurd (Nat.lt_of_lt_of_le (Heap.lt_size e) z) (Nat.lt_irrefl _)
 have cellK : ∀ x c,X.env.cells.lookup x = some c -> ∀ v,s.heap.IsCell c v -> h'.IsCell c v:=fun x c e v ⟨o,ho,hd⟩=>by
   have nch : c ∉ ch:=fun z=>(hch c z).2.2.1 x c e rfl
   by_cases hc : c ∈ X.fs
   . obtain ⟨sl,q⟩:=slot c o (I.cne x c e) hc nch ho (I.freeC x c e)
     exact ⟨_,q,hd⟩
   . exact ⟨o,keep c o (I.cne x c e) hc nch ho (I.freeC x c e),hd⟩
 refine ⟨I.ok,I.os,hg,⟨fun b o e n hb hx=>?_,fun b o e n hb hx=>?_,fun b o e n hx=>?_,fun b o e hx=>?_,fun b xs e=>tups b xs (I.base.tups b xs e),fun b o xs e=>frzs b o xs (I.base.frzs b o xs e),fun b ps e=>?_⟩,?_,fun x c e=>?_,?_,fun x c e=>?_,fun p hp=>?_,hok,I.len⟩
 . exact keep b o (neL b o e) hb (neC b o e hx) (I.base.keep b o e n hb hx) (I.base.free b o e n hx)
 . obtain ⟨sl,e1⟩:=I.base.slot b o e n hb hx
   obtain ⟨sl',e2⟩:=slot b _ (neL b o e) hb (neC b o e hx) e1 (I.base.free b o e n hx)
   exact ⟨sl',e2⟩
 . obtain ⟨o',e1⟩:=I.base.there b o e hx
   exact free b o' (neC b o e hx) e1 (I.base.free b o e n hx)
 . obtain ⟨o',e1⟩:=I.base.there b o e hx
   exact there b o' (neC b o e hx) e1
 . obtain ⟨m1,e1⟩:=I.base.tbls b ps e
   obtain ⟨m2,e2⟩:=tbls b _ e1
   exact ⟨m1 ++ m2,by rw [e2,Array.append_assoc]⟩
 . obtain ⟨m,hn,hl⟩:=I.loc
   refine ⟨m,ns m hn,fun i x v e1 e2 e3=>?_⟩
   obtain ⟨u,r,l⟩:=hl i x v e1 e2 e3
   refine ⟨u,r,?_⟩
   rcases l with l | ⟨k,c,e,z⟩
   . exact .inl l
   . exact .inr ⟨k,c,e,cellK x c e _ z⟩
 . obtain ⟨v,z⟩:=I.cell x c e
   exact ⟨v,cellK x c e v z⟩
 . obtain ⟨m,⟨o,_,_,ho,_⟩,_⟩:=I.loc
   exact free _ o (fun z=>(hch _ z).2.1 rfl) ho I.free
 . obtain ⟨v,o,ho,hd⟩:=I.cell x c e
   exact free c o (fun z=>(hch c z).2.2.1 x c e rfl) ho (I.freeC x c e)
 . obtain ⟨e,n,ne,nf,d⟩:=I.pin p hp
   have nch : p.1 ∉ ch:=fun z=>(hch p.1 z).2.2.2 p hp rfl
   exact ⟨keep p.1 p.2 ne nf nch e n,free p.1 p.2 nch e n,ne,nf,d⟩
theorem Inv.un {t' : Nat} (I : Inv X pins σ H s) (u : Un X.fs [] H H' s.heap h') (hok : HOk X.prog X.w H' h') : Inv X pins σ H' { s with heap:=h',toks:=t' }:=by
 obtain ⟨m,⟨o,es,ep,ho,r⟩,_⟩:=id I.loc
 obtain ⟨sl,hL⟩:=u.any ho I.free (by simp)
 exact I.step (g':=s.gens) (d':=s.drawn) (ch:=[]) (fun _ z=>nomatch z) (fun b o _ hb _ e n=>u.keep b o e n hb (by simp)) (fun b o _ hb _ e n=>u.slot b o e n hb (by simp)) (fun b o _ e n=>u.free b o e n (by simp)) (fun b o _ e=>u.there b o e (by simp)) u.tups u.frzs u.tbls (fun m' hm=>by
   obtain ⟨o',es',ep',ho',r'⟩:=hm
   rw [ho] at ho'; cases ho'
   exact ⟨_,es',ep',hL,r'⟩) hok I.bare
theorem Inv.call {g' : Array GenState} {t' : Nat} {d' : Drawn} {ch : List Addr} (I : Inv X pins σ H s) (u : Un (frs X.stack) ch H H' s.heap h') (hok : HOk X.prog X.w H' h') (hg : AllBare g')
   (hch : ∀ b ∈ ch,(b ∈ X.ex \/ X.s₀.heap.objs.size <= b) /\ b ≠ X.env.locals /\ (∀ x c,X.env.cells.lookup x = some c -> c ≠ b) /\ ∀ p ∈ X.pn ++ pins,p.1 ≠ b) :
   Inv X pins σ H' { s with heap:=h',gens:=g',drawn:=d',toks:=t' }:=by
 obtain ⟨m,⟨o,es,ep,ho,r⟩,_⟩:=id I.loc
 obtain ⟨sl,hL⟩:=u.any ho I.free fun z=>(hch _ z).2.1 rfl
 exact I.step (ch:=ch) hch (fun b o hL hb hc e n=>u.keep b o e n (fun z=>(List.mem_cons.mp (I.stkSub b z)).elim hL hb) hc) (fun b o _ _ hc e n=>u.any e n hc) (fun b o hc e n=>u.free b o e n hc) (fun b o hc e=>u.there b o e hc) u.tups u.frzs u.tbls (fun m' hm=>by
   obtain ⟨o',es',ep',ho',r'⟩:=hm
   rw [ho] at ho'; cases ho'
   exact ⟨_,es',ep',hL,r'⟩) hok hg
theorem Inv.turned {t' : Nat} {it : Addr} (I : Inv X pins σ H s) (k : ∀ b o,b ≠ it -> s.heap.get? b = some o -> h'.get? b = some o) (hn : H it = none) (hL : it ≠ X.env.locals)
   (h1 : it ∈ X.ex \/ X.s₀.heap.objs.size <= it) (h2 : ∀ x c,X.env.cells.lookup x = some c -> c ≠ it) (h3 : ∀ p ∈ X.pn ++ pins,p.1 ≠ it) : Inv X pins σ H { s with heap:=h',toks:=t' }:=by
 have nit : ∀ b u,H b = some u -> b ≠ it:=fun b u e z=>by rw [z,hn] at e; cases e
 refine I.step (g':=s.gens) (d':=s.drawn) (ch:=[it]) (fun b hb=>?_) (fun b o _ _ hc e _=>k b o (fun z=>hc (by simp [z])) e) (fun b o _ _ hc e _=>⟨o.slots,k b o (fun z=>hc (by simp [z])) e⟩) (fun _ _ _ _ n=>n)
   (fun b o hc e=>⟨o,k b o (fun z=>hc (by simp [z])) e⟩) (fun _ _ e=>e) (fun _ _ _ e=>e) (fun b ps e=>⟨#[],by rw [e]; simp⟩) (fun m hm=>?_) (fun b u e=>?_) I.bare
 . have e : b = it:=by simpa using hb
   subst e
   exact ⟨h1,hL,h2,h3⟩
 . obtain ⟨o,es,ep,ho,r⟩:=hm
   exact ⟨o,es,ep,k _ o (Ne.symm hL) ho,r⟩
 . refine (I.hok b u e).stay (fun c v hc q=>k c v ?_ q) (fun _ q=>q) fun _ _ q=>q
   rcases hc with z | z
   . rw [z]; exact nit b u e
   . exact nit c _ z
theorem Inv.tok (I : Inv X pins σ H s) (t : Nat) : Inv X pins σ H { s with toks:=t }:=I.un (h':=s.heap) (t':=t) Un.refl I.hok
theorem Inv.kept {t' : Nat} (I : Inv X pins σ H s) (k : ∀ b u,s.heap.get? b = some u -> h'.get? b = some u) : Inv X pins σ H { s with heap:=h',toks:=t' }:=I.un (Un.kept k) (I.hok.kept k)
theorem Inv.laid {a : Addr} {o : HO} {t' : Nat} (I : Inv X pins σ H s) (k : ∀ b u,s.heap.get? b = some u -> h'.get? b = some u) (hp : s.heap.objs.size <= a) (new : za9 X.prog X.w (upd H a o) h' a o) :
   Inv X pins σ (upd H a o) { s with heap:=h',toks:=t' }:=I.un (Un.laid k hp (I.hok.fresh hp)) (I.hok.laid k hp new)
theorem Inv.write {x e : Addr} {o : HO} {t' : Nat} (I : Inv X pins σ H s) (mu : Mut (H x)) (he : e = x \/ H e = some (.own x)) (k : ∀ b u,b ≠ e -> s.heap.get? b = some u -> h'.get? b = some u) (heo : ∃ u,h'.get? e = some u)
   (new : za9 X.prog X.w (upd H x o) h' x o) : Inv X pins σ (upd H x o) { s with heap:=h',toks:=t' }:=I.un (Un.write mu he k heo) (I.hok.write mu he k heo new)
theorem Inv.pins_of {pins' : List (Addr × Obj)} (I : Inv X pins σ H s) (h : ∀ p ∈ pins',s.heap.get? p.1 = some p.2 /\ H p.1 = none /\ p.1 ≠ X.env.locals /\ p.1 ∉ X.fs /\ ∀ v,p.2.data ≠ .cell v) : Inv X pins' σ H s :=
 ⟨I.ok,I.os,I.bare,I.base,I.loc,I.cell,I.free,I.freeC,fun p hp=>(List.mem_append.mp hp).elim (fun z=>I.pin p (List.mem_append_left _ z)) (h p),I.hok,I.len⟩
theorem zjA {N : List Str} (hN : N.Nodup) {i j : Nat} {x : Str} (a : N[i]? = some x) (b : N[j]? = some x) : i = j:=by
 obtain ⟨h1,e1⟩:=List.getElem?_eq_some_iff.mp a
 obtain ⟨h2,e2⟩:=List.getElem?_eq_some_iff.mp b
 exact (List.getElem_inj hN).mp (e1.trans e2.symm)
theorem zhW {M : Model} {A : Around} {E : Value -> Shared -> Prop} {i : Nat} {x : Str} {v : V} {u : Value} {Q : Unit -> Shared -> Prop} (I : Inv X pins σ H s) (hN : X.N.Nodup) (hi : X.N[i]? = some x) (hx : Loc X.env.scope x) (r : zaJ v u)
   (h : ∀ s',Inv X pins (σ.set i (some v)) H s' -> (∃ a,Heap.SameBut a s.heap s'.heap /\ (a = X.env.locals \/ X.env.cells.lookup x = some a)) -> Q () s') (hf : X.fn x = true \/ X.env.scope.names.lookup x = some .local:=by first | exact .inl rfl | exact .inr rfl | assumption) : wpAny M A (storeName X.env x u) Q E s:=by
 obtain ⟨m,hn,hl⟩:=id I.loc
 have hcls : (X.env.scope.kind == .class || (X.env.scope.kind == .module && X.env.locals != X.env.globals)) = false:=by rw [I.ok.kind]; rfl
 have hiσ : i < σ.length:=by rw [I.len]; exact (List.getElem?_eq_some_iff.mp hi).1
 have cne:=I.cne
 have tracked : ∀ {a : Addr} {h' : Heap},(∃ o,s.heap.get? a = some o /\ H a = none) -> Heap.SameBut a s.heap h' -> HOk X.prog X.w H h':=fun {a h'} ha hs b ob e=>by
   obtain ⟨_,_,hfree⟩:=ha
   refine (I.hok b ob e).stay (fun c w' hc q=>(hs.2 c ?_).trans q) (fun _ q=>q) fun _ _ q=>q
   rintro rfl
   rcases hc with rfl | hc
   . rw [hfree] at e; cases e
   . rw [hfree] at hc; cases hc
 rcases hx with hk | hk
 . refine wpAny_storeName_local hk hn (fun h' hn' hs=>?_) hcls
   obtain ⟨oL,_,_,hoL,_⟩:=id hn
   refine h _ ⟨I.ok,I.os,I.bare,⟨fun b o e n hb hx=>?_,fun b o e n hb hx=>?_,I.base.free,fun b o e hx=>?_,I.base.tups,I.base.frzs,I.base.tbls⟩,⟨_,hn',fun j y v' e1 e2 e3=>?_⟩,fun y c e=>?_,I.free,I.freeC,fun p hp=>?_,tracked ⟨oL,hoL,I.free⟩ hs,by simpa using I.len⟩ ⟨_,hs,.inl rfl⟩
   . exact (hs.2 b (Nat.ne_of_lt (Nat.lt_of_lt_of_le (Heap.lt_size e) I.ok.above))).trans (I.base.keep b o e n hb hx)
   . obtain ⟨sl,e1⟩:=I.base.slot b o e n hb hx
     exact ⟨sl,(hs.2 b (Nat.ne_of_lt (Nat.lt_of_lt_of_le (Heap.lt_size e) I.ok.above))).trans e1⟩
   . obtain ⟨o',e1⟩:=I.base.there b o e hx
     exact ⟨o',(hs.2 b (Nat.ne_of_lt (Nat.lt_of_lt_of_le (Heap.lt_size e) I.ok.above))).trans e1⟩
   . by_cases hj : j = i
     . subst hj
       rw [hi] at e1; cases e1
       rw [List.getElem?_set_self hiσ] at e2
       cases e2
       exact ⟨u,r,.inl ⟨hk,by simp⟩⟩
     . rw [List.getElem?_set_ne (Ne.symm hj)] at e2
       obtain ⟨u',r',q⟩:=hl j y v' e1 e2 e3
       refine ⟨u',r',?_⟩
       rcases q with ⟨k,e⟩ | ⟨k,c,e,z⟩
       . refine .inl ⟨k,?_⟩
         have : y ≠ x:=fun e=>hj (zjA hN e1 (e ▸ hi))
         simp [this,e]
       . exact .inr ⟨k,c,e,z.sameBut hs (cne y c e)⟩
   . obtain ⟨w',z⟩:=I.cell y c e
     exact ⟨w',z.sameBut hs (cne y c e)⟩
   . obtain ⟨e,n,ne,nf,d⟩:=I.pin p hp
     exact ⟨(hs.2 p.1 ne).trans e,n,ne,nf,d⟩
 . have hfn : X.fn x = true:=by
     rcases hf with z | z
     . exact z
     . rw [z] at hk; cases hk
   obtain ⟨c,hc⟩:=I.ok.has x (.inl hk)
   obtain ⟨w',z⟩:=I.cell x c hc
   refine wpAny_storeName_cell I.ok.kind hk hc z (fun h' hc' hs=>?_)
   obtain ⟨oc,hoc,hocd⟩:=id z
   refine h { s with heap:=h' } ⟨I.ok,I.os,I.bare,⟨fun b o e n hb hx=>?_,fun b o e n hb hx=>?_,I.base.free,fun b o e hx=>?_,I.base.tups,I.base.frzs,I.base.tbls⟩,⟨m,hn.sameBut hs (Ne.symm (cne x c hc)),fun j y v' e1 e2 e3=>?_⟩,fun y c' e=>?_,I.free,I.freeC,fun p hp=>?_,tracked ⟨oc,hoc,I.freeC x c hc⟩ hs,by simpa using I.len⟩ ⟨c,hs,.inr hc⟩
   . exact (hs.2 b (Nat.ne_of_lt (Nat.lt_of_lt_of_le (Heap.lt_size e) (I.ok.cab x c hfn hc)))).trans (I.base.keep b o e n hb hx)
   . obtain ⟨sl,e1⟩:=I.base.slot b o e n hb hx
     exact ⟨sl,(hs.2 b (Nat.ne_of_lt (Nat.lt_of_lt_of_le (Heap.lt_size e) (I.ok.cab x c hfn hc)))).trans e1⟩
   . obtain ⟨o',e1⟩:=I.base.there b o e hx
     exact ⟨o',(hs.2 b (Nat.ne_of_lt (Nat.lt_of_lt_of_le (Heap.lt_size e) (I.ok.cab x c hfn hc)))).trans e1⟩
   . by_cases hj : j = i
     . subst hj
       rw [hi] at e1; cases e1
       rw [List.getElem?_set_self hiσ] at e2
       cases e2
       exact ⟨u,r,.inr ⟨.inl hk,c,hc,hc'⟩⟩
     . rw [List.getElem?_set_ne (Ne.symm hj)] at e2
       obtain ⟨u',r',q⟩:=hl j y v' e1 e2 e3
       refine ⟨u',r',?_⟩
       rcases q with q | ⟨k,c',e,z'⟩
       . exact .inl q
       . refine .inr ⟨k,c',e,z'.sameBut hs ?_⟩
         rintro rfl
         exact hj (zjA hN e1 (I.ok.inj _ _ _ e hc ▸ hi))
   . by_cases hcc : c' = c
     . subst hcc; exact ⟨_,hc'⟩
     . obtain ⟨w2,z2⟩:=I.cell y c' e
       exact ⟨w2,z2.sameBut hs hcc⟩
   . obtain ⟨e,n,ne,nf,d⟩:=I.pin p hp
     refine ⟨(hs.2 p.1 ?_).trans e,n,ne,nf,d⟩
     intro q
     rw [q,hoc] at e
     have q' : oc = p.2:=Option.some.inj e
     exact d w' (by rw [<- q']; exact hocd)
theorem zgc {M : Model} {A : Around} {E : Value -> Shared -> Prop} {i : Nat} {x : Str} {v : V} {u : Value} {Q : Unit -> Shared -> Prop} (I : Inv X pins σ H s) (hN : X.N.Nodup) (hi : X.N[i]? = some x) (hx : Loc X.env.scope x) (r : zaJ v u)
   (h : ∀ s',Inv X pins (σ.set i (some v)) H s' -> Q () s') (hf : X.fn x = true \/ X.env.scope.names.lookup x = some .local:=by first | exact .inl rfl | exact .inr rfl | assumption) : wpAny M A (storeName X.env x u) Q E s :=
 zhW I hN hi hx r (fun s' I' _=>h s' I') hf
theorem Inv.call' {s' : Shared} {ch : List Addr} (I : Inv X pins σ H s) (ho : s'.os = s.os) (u : Un (frs X.stack) ch H H' s.heap s'.heap) (hok : HOk X.prog X.w H' s'.heap) (hg : AllBare s'.gens)
   (hch : ∀ b ∈ ch,(b ∈ X.ex \/ X.s₀.heap.objs.size <= b) /\ b ≠ X.env.locals /\ (∀ x c,X.env.cells.lookup x = some c -> c ≠ b) /\ ∀ p ∈ X.pn ++ pins,p.1 ≠ b) : Inv X pins σ H' s':=by
 obtain ⟨h',g',d',t',o'⟩:=s'
 have e : o' = s.os:=ho
 subst e
 exact I.call (g':=g') (t':=t') (d':=d') u hok hg hch
end
abbrev XK:=Value -> Option Addr -> Hp -> Prop
abbrev St:=List (Option V)
abbrev VK:=V -> Hp -> Prop
abbrev TE:=St -> Hp -> VK -> Prop
abbrev TT:=St -> Hp -> (Bool -> Hp -> Prop) -> Prop
abbrev TA:=St -> Hp -> (List V -> Hp -> Prop) -> Prop
structure zbR where
 nx : St -> Hp -> Prop
 rt : VK
 bk : St -> Hp -> Prop:=fun _ _=>False
 ct : St -> Hp -> Prop:=fun _ _=>False
abbrev TS:=zbR -> St -> Hp -> Prop
def EP (X : Cx) (pins : List (Addr × Obj)) (σ : St) (Q : VK) (u : Value) (s' : Shared) : Prop:=∃ v H',Inv X pins σ H' s' /\ zaJ v u /\ Q v H'
def TP (X : Cx) (pins : List (Addr × Obj)) (σ : St) (Q : Bool -> Hp -> Prop) (b : Bool) (s' : Shared) : Prop:=∃ H',Inv X pins σ H' s' /\ Q b H'
def AP (X : Cx) (pins : List (Addr × Obj)) (σ : St) (Q : List V -> Hp -> Prop) (us : List Value) (s' : Shared) : Prop:=∃ vs H',Inv X pins σ H' s' /\ zay vs us /\ Q vs H'
def SP (X : Cx) (pins : List (Addr × Obj)) (D : zbR) (f : Flow) (s' : Shared) : Prop :=
 match f with
 | .next=>∃ σ' H',Inv X pins σ' H' s' /\ D.nx σ' H'
 | .brk=>∃ σ' H',Inv X pins σ' H' s' /\ D.bk σ' H'
 | .cont=>∃ σ' H',Inv X pins σ' H' s' /\ D.ct σ' H'
 | .ret u=>∃ v σ' H',Inv X pins σ' H' s' /\ zaJ v u /\ D.rt v H'
def PE (X : Cx) (e : Expr) (t : TE) : Prop :=
 ∀ (pins : List (Addr × Obj)) (s : Shared) (σ : St) (H : Hp) (Q : VK),Inv X pins σ H s -> t σ H Q -> wpAny (model X.prog X.w) X.A (eval e X.env) (EP X pins σ Q) X.xe s
def PT (X : Cx) (e : Expr) (t : TT) : Prop :=
 ∀ (pins : List (Addr × Obj)) (s : Shared) (σ : St) (H : Hp) (Q : Bool -> Hp -> Prop),Inv X pins σ H s -> t σ H Q -> wpAny (model X.prog X.w) X.A (isTrue e X.env (eval e X.env)) (TP X pins σ Q) X.xe s
def PW (X : Cx) (e : Expr) (t : TT) : Prop :=
 ∀ (whole : Sem Value) (pins : List (Addr × Obj)) (s : Shared) (σ : St) (H : Hp) (Q : Bool -> Hp -> Prop),Inv X pins σ H s -> t σ H Q -> wpAny (model X.prog X.w) X.A (isTrue e X.env whole) (TP X pins σ Q) X.xe s
theorem PW.pt {X : Cx} {e : Expr} {t : TT} (h : PW X e t) : PT X e t:=h _
def PA (X : Cx) (es : List Expr) (t : TA) : Prop :=
 ∀ (pos : Pos) (pins : List (Addr × Obj)) (s : Shared) (σ : St) (H : Hp) (Q : List V -> Hp -> Prop),Inv X pins σ H s -> t σ H Q -> wpAny (model X.prog X.w) X.A (spliced (backTo pos (starEach es X.env))) (AP X pins σ Q) X.xe s
def PS (X : Cx) (st : Stmt) (t : TS) : Prop :=
 ∀ (pins : List (Addr × Obj)) (s : Shared) (σ : St) (H : Hp) (D : zbR),Inv X pins σ H s -> t D σ H -> wpAny (model X.prog X.w) X.A (exec st X.env) (SP X pins D) X.xe s
def PSs (X : Cx) (st : List Stmt) (t : TS) : Prop :=
 ∀ (pins : List (Addr × Obj)) (s : Shared) (σ : St) (H : Hp) (D : zbR),Inv X pins σ H s -> t D σ H -> wpAny (model X.prog X.w) X.A (execs st X.env) (SP X pins D) X.xe s
theorem thn {α : Type} {t : Sem α} {Q Q' : α -> Shared -> Prop} {M : Model} {A : Around} {E : Value -> Shared -> Prop} {s : Shared} (h : wpAny M A t Q E s) (hQ : ∀ a s,Q a s -> Q' a s) : wpAny M A t Q' E s:=wpAny_mono h hQ fun _ _ x=>x
end L2
namespace L2
open PySem PySem.Spec PyProof.Rows
section
variable {X : Cx}
def ziD (i : Nat) : TE:=fun σ H Q=>∃ v,σ[i]? = some (some v) /\ Q v H
def tC (v : V) : TE:=fun _ H Q=>Q v H
theorem zqJ {i : Nat} {x : Str} {pos : Pos} (hN : X.N[i]? = some x) (hv : Vis X.env.scope x) (hd : (x == ("__debug__" : Str)) = false:=by decide) (hcd : (x == ("__classdict__" : Str)) = false:=by decide) : PE X (.Name x pos) (ziD i):=by
 intro pins s σ H Q I h
 obtain ⟨v,e,h⟩:=h
 obtain ⟨m,hn,hl⟩:=I.loc
 obtain ⟨u,r,l⟩:=hl i x v hN e hv
 have fin : EP X pins σ Q u s:=⟨v,H,I,r,h⟩
 rcases l with ⟨hk,hm⟩ | ⟨hk,c,hc,hcell⟩
 . exact wpAny_Name (wpAny_loadName_local I.ok.kind hk hn hm fin) hd
 . rcases hk with hk | hk
   . exact wpAny_Name (wpAny_loadName_cell I.ok.kind hk hc hcell fin) hd
   . exact wpAny_Name (wpAny_loadName_free I.ok.kind hk hc hcell fin hcd) hd
theorem zad {i j pos} : PE X (.Constant (.int i) j pos) (tC (.int i)):=fun _ _ _ H _ I h=>wpAny_Constant_int ⟨.int i,H,I.tok _,⟨_,rfl⟩,h⟩
theorem zeC {b j pos} : PE X (.Constant (.bool b) j pos) (tC (.bl b)):=fun _ _ _ H _ I h=>Constant_bool ⟨.bl b,H,I,rfl,h⟩
theorem ziH {x j pos} : PE X (.Constant (.str x) j pos) (tC (.str x)):=fun _ _ _ H _ I h=>Calls.Constant_str ⟨.str x,H,I.tok _,⟨_,rfl⟩,h⟩
def Gl (X : Cx) (x : Str) : Prop:=X.env.kindOf x = some .globalImplicit
theorem zim {E : Value -> Shared -> Prop} {pins : List (Addr × Obj)} {s : Shared} {σ : St} {H : Hp} {x : Str} {u : Value} {pos : Pos} {Q : Value -> Shared -> Prop} (I : Inv X pins σ H s) (hg : Gl X x) (hm : X.mg x = some u) (h : Q u s)
   (hd : (x == ("__debug__" : Str)) = false:=by decide) : wpAny (model X.prog X.w) X.A (eval (.Name x pos) X.env) Q E s :=
 Calls.Name_function_global I.ok.kind hg (Calls.loadGlobal_global (by rw [I.ok.glob]; exact I.mod.glob.keeps I.bk) hm h) hd
theorem zcW {E : Value -> Shared -> Prop} {pins : List (Addr × Obj)} {s : Shared} {σ : St} {H : Hp} {x : Str} {u : Value} {pos : Pos} {Q : Value -> Shared -> Prop} (I : Inv X pins σ H s) (hg : Gl X x) (hm : X.mg x = none) (hv : bootBuiltins x = some u) (h : Q u s)
   (hn : x ≠ "__name__":=by decide) (hd : (x == ("__debug__" : Str)) = false:=by decide) : wpAny (model X.prog X.w) X.A (eval (.Name x pos) X.env) Q E s:=by
 obtain ⟨mb,h1,h2⟩:=I.mod.blt
 exact Calls.Name_function_global I.ok.kind hg (Calls.loadGlobal_builtin (by rw [I.ok.glob]; exact I.mod.glob.keeps I.bk) hm (by rw [I.ok.blt]; exact h1.keeps I.bk) ((h2 x hn).trans hv) h) hd
theorem zoP {x : Str} {v : V} {u : Value} {pos : Pos} (hg : Gl X x) (hm : X.mg x = some u) (r : zaJ v u) (hd : (x == ("__debug__" : Str)) = false:=by decide) : PE X (.Name x pos) (tC v) :=
 fun _ _ _ H _ I h=>zim I hg hm ⟨v,H,I,r,h⟩ hd
theorem zfW {x : Str} {v : V} {u : Value} {pos : Pos} (hg : Gl X x) (hm : X.mg x = none) (hv : bootBuiltins x = some u) (r : zaJ v u) (hn : x ≠ "__name__":=by decide) (hd : (x == ("__debug__" : Str)) = false:=by decide) : PE X (.Name x pos) (tC v) :=
 fun _ _ _ H _ I h=>zcW I hg hm hv ⟨v,H,I,r,h⟩ hn hd
def t2I (ta tb : TE) (k : Int -> Int -> Hp -> Prop) : St -> Hp -> Prop:=fun σ H=>ta σ H fun x H1=>tb σ H1 fun y H2=>∃ i j,x = .int i /\ y = .int j /\ k i j H2
variable {a b : Expr} {ta tb : TE} {pos : Pos}
def PC (X : Cx) (op : CmpOp) (a b : Expr) (t : TE) : Prop :=
 ∀ (pins : List (Addr × Obj)) (s : Shared) (σ : St) (H : Hp) (Q : VK),Inv X pins σ H s -> t σ H Q ->
   wpAny (model X.prog X.w) X.A (eval a X.env) (fun v s₁=>wpAny (model X.prog X.w) X.A (eval b X.env) (fun u s₂=>wpAny (model X.prog X.w) X.A (compareOp op v u) (EP X pins σ Q) X.xe s₂) X.xe s₁) X.xe s
def zlO (p : Int -> Int -> Bool) (ta tb : TE) : TE:=fun σ H Q=>t2I ta tb (fun i j H2=>Q (.bl (p i j)) H2) σ H
abbrev tLt : TE -> TE -> TE:=zlO fun i j=>decide (i < j)
abbrev tLe : TE -> TE -> TE:=zlO fun i j=>decide (i <= j)
abbrev tGt : TE -> TE -> TE:=zlO fun i j=>decide (j < i)
abbrev tGe : TE -> TE -> TE:=zlO fun i j=>decide (j <= i)
abbrev zs3 : TE -> TE -> TE:=zlO fun i j=>decide (i = j)
abbrev zsY : TE -> TE -> TE:=zlO fun i j=>!decide (i = j)
def tB (t : TE) : TT:=fun σ H Q=>t σ H fun x H1=>∃ c,x = .bl c /\ Q c H1
theorem zcQ {e : Expr} {t : TE} (h : PE X e t) (he : ∀ whole,isTrue e X.env whole = (do let v <- whole; standAt e.pos; holding [v] (truthy v)):=by intro _; rfl) : PT X e (tB t):=by
 intro pins s σ H Q I hw
 refine isTrue_plain (thn (h pins s σ H _ I hw) fun v s1 ⟨x,H1,I1,r1,q1⟩=>?_) (he _)
 obtain ⟨d,rfl,q⟩:=q1
 cases r1
 exact wpAny_truthy_bool ⟨H1,I1,q⟩
variable {tA tB' : TT} {rest : List Expr}
def zrH (t u : TT) : TT:=fun σ H Q=>t σ H fun c H1=>if c = true then u σ H1 Q else Q false H1
def tOr (t u : TT) : TT:=fun σ H Q=>t σ H fun c H1=>if c = true then Q true H1 else u σ H1 Q
def zrT (t : TT) : TT:=fun σ H Q=>t σ H fun c H1=>Q (!c) H1
theorem zk7 (ha : PT X a tA) : PW X (.BoolOp .And [a] pos) tA:=by
 intro wh pins s σ H Q I h
 refine isTrue_and (thn (ha pins s σ H Q I h) fun c s1 e=>?_)
 cases c with
 | true=>exact isTrue_and_nil e
 | false=>exact e
theorem zit (ha : PT X a tA) : PW X (.BoolOp .Or [a] pos) tA:=by
 intro wh pins s σ H Q I h
 refine isTrue_or (thn (ha pins s σ H Q I h) fun c s1 e=>?_)
 cases c with
 | false=>exact isTrue_or_nil e
 | true=>exact e
theorem znl (ha : PT X a tA) (hb : PW X (.BoolOp .And (b :: rest) pos) tB') : PW X (.BoolOp .And (a :: b :: rest) pos) (zrH tA tB'):=by
 intro wh pins s σ H Q I h
 refine isTrue_and (thn (ha pins s σ H _ I h) fun c s1 ⟨H1,I1,q1⟩=>?_)
 cases c with
 | true=>exact hb wh pins s1 σ H1 Q I1 q1
 | false=>exact ⟨H1,I1,q1⟩
theorem zhw (ha : PT X a tA) (hb : PW X (.BoolOp .Or (b :: rest) pos) tB') : PW X (.BoolOp .Or (a :: b :: rest) pos) (tOr tA tB'):=by
 intro wh pins s σ H Q I h
 refine isTrue_or (thn (ha pins s σ H _ I h) fun c s1 ⟨H1,I1,q1⟩=>?_)
 cases c with
 | true=>exact ⟨H1,I1,q1⟩
 | false=>exact hb wh pins s1 σ H1 Q I1 q1
theorem zdg (ha : PT X a tA) : PT X (.UnaryOp .Not a pos) (zrT tA):=by
 intro pins s σ H Q I h
 exact isTrue_not (ha pins s σ H (fun c H1=>Q (!c) H1) I h)
def zp0 (ta tb : TE) : TE:=fun σ H Q=>ta σ H fun x H1=>∃ c,x = .bl c /\ if c = true then tb σ H1 Q else Q (.bl false) H1
def zpR (ta : TE) : TE:=fun σ H Q=>ta σ H fun x H1=>∃ c,x = .bl c /\ Q (.bl (!c)) H1
theorem zez {op} {t : TE} (h : PE X a t) : PE X (.BoolOp op [a] pos) t:=fun pins s σ H Q I hw=>BoolOp_one (h pins s σ H Q I hw)
theorem zew (ha : PE X a ta) (hb : PE X (.BoolOp .And (b :: rest) pos) tb) : PE X (.BoolOp .And (a :: b :: rest) pos) (zp0 ta tb):=by
 intro pins s σ H Q I h
 refine BoolOp_and (thn (ha pins s σ H _ I h) fun v s1 ⟨x,H1,I1,r1,q1⟩=>?_)
 obtain ⟨c,rfl,q1⟩:=q1
 cases r1
 refine wpAny_truthy_bool ?_
 cases c with
 | true=>exact hb pins s1 σ H1 Q I1 q1
 | false=>exact ⟨.bl false,H1,I1,rfl,q1⟩
theorem zqV (ha : PE X a ta) : PE X (.UnaryOp .Not a pos) (zpR ta):=by
 intro pins s σ H Q I h
 refine UnaryOp_ (thn (ha pins s σ H _ I h) fun v s1 ⟨x,H1,I1,r1,q1⟩=>?_)
 obtain ⟨c,rfl,q1⟩:=q1
 cases r1
 exact not_of (wpAny_truthy_bool ⟨.bl (!c),H1,I1,rfl,q1⟩)
def tIf (t : TT) (ta tb : TE) : TE:=fun σ H Q=>t σ H fun c H1=>if c = true then ta σ H1 Q else tb σ H1 Q
theorem znM {c : Expr} (hc : PT X c tA) (ha : PE X a ta) (hb : PE X b tb) : PE X (.IfExp c a b pos) (tIf tA ta tb):=by
 intro pins s σ H Q I h
 refine wpAny_IfExp (thn (hc pins s σ H _ I h) fun d s1 ⟨H1,I1,q1⟩=>?_)
 cases d with
 | true=>exact ha pins s1 σ H1 Q I1 q1
 | false=>exact hb pins s1 σ H1 Q I1 q1
end
end L2
namespace L2
open PySem PySem.Spec PyProof.Rows
def SqL (K : PySem.W.Frag) (H : Hp) (a : Addr) (xs : List V) : Prop :=
 Rd H a (.lst xs) \/
   ∃ (o : Obj) (its : Array Value) (n : Nat),K.lookup a = some o /\ o.cls = .type "list" /\ o.dict = none /\ o.data = .seq its n /\ its.size <= sizeLine /\ zay xs its.toList
def SqT (K : PySem.W.Frag) (H : Hp) (a : Addr) (xs : List V) : Prop :=
 Rd H a (.tup xs) \/
   ∃ (o : Obj) (its : Array Value) (n : Nat),K.lookup a = some o /\ o.cls = .type "tuple" /\ o.data = .seq its n /\ its.size <= sizeLine /\ zay xs its.toList
def zsL : Value -> Option V
 | .none=>some .non
 | .bool b=>some (.bl b)
 | .int i _=>some (.int i)
 | .str x _=>some (.str x)
 | .bytes b _=>some (.byt b)
 | .float b _=>some (.flt b)
 | .ref a=>some (.ref a)
 | .type n=>some (.ty n)
 | _=>none
theorem zaJ.abs {x : V} {u : Value} (r : zaJ x u) : zsL u = some x:=by
 cases x with
 | non=>cases r; rfl
 | bl _=>cases r; rfl
 | int _=>obtain ⟨t,rfl⟩:=r; rfl
 | str _=>obtain ⟨t,rfl⟩:=r; rfl
 | byt _=>obtain ⟨t,rfl⟩:=r; rfl
 | flt _=>obtain ⟨t,rfl⟩:=r; rfl
 | ref _=>cases r; rfl
 | ty _=>cases r; rfl
theorem zaJ.inj {x y : V} {u : Value} (r : zaJ x u) (q : zaJ y u) : x = y:=Option.some.inj (r.abs.symm.trans q.abs)
theorem zay.inj : ∀ {xs ys : List V} {us : List Value},zay xs us -> zay ys us -> xs = ys
 | _,_,_,.nil,.nil=>rfl
 | _,_,_,.cons r t,.cons r' t'=>by rw [r.inj r',zay.inj t t']
section
variable {X : Cx} {pins : List (Addr × Obj)} {σ : St} {H : Hp} {s : Shared} {a : Addr} {xs ys : List V}
theorem SqL.of {K : PySem.W.Frag} (h : H a = some (.lst xs)) : SqL K H a xs:=.inl (.inl h)
theorem SqT.of {K : PySem.W.Frag} (h : H a = some (.tup xs)) : SqT K H a xs:=.inl (.inl h)
theorem Inv.list (I : Inv X pins σ H s) (h : SqL X.K H a xs) : ∃ its : List Value,zay xs its /\ PlainL s.heap a its.toArray /\ xs.length <= sizeLine:=by
 rcases h with h | ⟨o,its,n,hk,hc,hd,hs,hz,r⟩
 . obtain ⟨z,its,n,r,e⟩:=h.ok I.hok
   exact ⟨its,r,⟨_,n,e,rfl,rfl,rfl⟩,z⟩
 . refine ⟨its.toList,r,⟨o,n,I.kIn a o hk,hc,hd,by simpa using hs⟩,?_⟩
   have e:=r.length
   simp only [Array.length_toList] at e
   omega
theorem Inv.tuple (I : Inv X pins σ H s) (h : SqT X.K H a xs) : ∃ its : List Value,zay xs its /\ IsTup s.heap a its.toArray /\ xs.length <= sizeLine:=by
 rcases h with h | ⟨o,its,n,hk,hc,hs,hz,r⟩
 . obtain ⟨z,its,r,p⟩:=h.ok I.hok
   exact ⟨its,r,p,z⟩
 . refine ⟨its.toList,r,⟨o,I.kIn a o hk,hc,n,by simpa using hs⟩,?_⟩
   have e:=r.length
   simp only [Array.length_toList] at e
   omega
theorem Inv.list_inj (I : Inv X pins σ H s) (h : SqL X.K H a xs) (h' : SqL X.K H a ys) : xs = ys:=by
 obtain ⟨its,r,⟨o,n,e,_,_,d⟩,_⟩:=I.list h
 obtain ⟨its',r',⟨o',n',e',_,_,d'⟩,_⟩:=I.list h'
 rw [e] at e'; cases e'
 rw [d] at d'
 injection d' with d1 _
 have : its = its':=by simpa using congrArg Array.toList d1
 subst this
 exact r.inj r'
theorem Inv.tuple_inj (I : Inv X pins σ H s) (h : SqT X.K H a xs) (h' : SqT X.K H a ys) : xs = ys:=by
 obtain ⟨its,r,⟨o,e,_,n,d⟩,_⟩:=I.tuple h
 obtain ⟨its',r',⟨o',e',_,n',d'⟩,_⟩:=I.tuple h'
 rw [e] at e'; cases e'
 rw [d] at d'
 injection d' with d1 _
 have : its = its':=by simpa using congrArg Array.toList d1
 subst this
 exact r.inj r'
end
abbrev Cx.wish (X : Cx) (E : Value -> Shared -> Prop) : Cx:={ X with xe:=E }
abbrev Cx.nox (X : Cx) : Cx:=X.wish fun _ _=>False
theorem Cx.Ok.wish {X : Cx} (ok : X.Ok) (E : Value -> Shared -> Prop) : (X.wish E).Ok :=
 ⟨ok.mod,ok.kind,ok.glob,ok.blt,ok.above,ok.inj,ok.has,ok.cab,ok.hd,ok.frames,ok.stk,ok.exf,ok.bs,ok.bsz,ok.noex,ok.exfs,ok.funs,ok.frf⟩
theorem Cx.Ok.unwish {X : Cx} {E : Value -> Shared -> Prop} (ok : (X.wish E).Ok) : X.Ok :=
 ⟨ok.mod,ok.kind,ok.glob,ok.blt,ok.above,ok.inj,ok.has,ok.cab,ok.hd,ok.frames,ok.stk,ok.exf,ok.bs,ok.bsz,ok.noex,ok.exfs,ok.funs,ok.frf⟩
section
variable {X : Cx} {pins : List (Addr × Obj)} {σ : St} {H : Hp} {s : Shared} {E : Value -> Shared -> Prop}
theorem Inv.wish (I : Inv X pins σ H s) (E : Value -> Shared -> Prop) : Inv (X.wish E) pins σ H s:=⟨I.ok.wish E,I.os,I.bare,I.base,I.loc,I.cell,I.free,I.freeC,I.pin,I.hok,I.len⟩
theorem Inv.unwish (I : Inv (X.wish E) pins σ H s) : Inv X pins σ H s:=⟨I.ok.unwish,I.os,I.bare,I.base,I.loc,I.cell,I.free,I.freeC,I.pin,I.hok,I.len⟩
theorem SP.unwish {D : zbR} {f : Flow} {s' : Shared} (h : SP (X.wish E) pins D f s') : SP X pins D f s':=by
 cases f with
 | next=>obtain ⟨σ',H',I,q⟩:=h; exact ⟨σ',H',I.unwish,q⟩
 | brk=>obtain ⟨σ',H',I,q⟩:=h; exact ⟨σ',H',I.unwish,q⟩
 | cont=>obtain ⟨σ',H',I,q⟩:=h; exact ⟨σ',H',I.unwish,q⟩
 | ret u=>obtain ⟨v,σ',H',I,r,q⟩:=h; exact ⟨v,σ',H',I.unwish,r,q⟩
theorem PSs.nox {st : List Stmt} {t : TS} (h : PSs X.nox st t) : PSs X st t:=fun pins s σ H D I hw =>
 wpAny_mono (h pins s σ H D (I.wish _) hw) (fun _ _ q=>q.unwish) fun _ _ z=>False.elim z
end
section
variable {X : Cx} {st : Stmt} {rest : List Stmt} {t u : TS} {e : Expr} {te : TE} {pos : Pos}
def zpP : TS:=fun D σ H=>D.nx σ H
def zrU (t u : TS) : TS:=fun D σ H=>t { D with nx:=u D } σ H
theorem zbu : PSs X [] zpP:=fun _ _ σ H _ I h=>wpAny_execs_nil ⟨σ,H,I,h⟩
theorem zae (h1 : PS X st t) (h2 : PSs X rest u) : PSs X (st :: rest) (zrU t u):=by
 intro pins s σ H D I h
 refine wpAny_execs_cons (thn (h1 pins s σ H { D with nx:=u D } I h) fun f s1 q=>?_)
 cases f with
 | next =>
   obtain ⟨σ',H',I',q⟩:=q
   exact h2 pins s1 σ' H' D I' q
 | ret v=>exact q
 | brk=>exact q
 | cont=>exact q
theorem zai (h1 : PS X st t) : PSs X [st] t:=by
 intro pins s σ H D I h
 refine wpAny_execs_cons (thn (h1 pins s σ H D I h) fun f s1 q=>?_)
 cases f with
 | next=>exact wpAny_execs_nil q
 | ret v=>exact q
 | brk=>exact q
 | cont=>exact q
theorem Inv.quiet {pins : List (Addr × Obj)} {σ : St} {H : Hp} {s : Shared} (I : Inv X pins σ H s) : interactive X.env = false:=by simp [interactive,I.ok.kind]
def zpX (te : TE) : TS:=fun D σ H=>te σ H fun _ H1=>D.nx σ H1
theorem zc7 (he : PE X e te) (hs : swapsWith e none pos.line X.env = pure false:=by rfl) : PS X (.Expr e pos) (zpX te):=by
 intro pins s σ H D I h
 exact wpAny_Expr_any (thn (he pins s σ H _ I h) fun v s1 ⟨x,H1,I1,r1,q1⟩=>⟨σ,H1,I1,q1⟩) I.quiet hs
def zsl (te : TE) : TS:=fun D σ H=>te σ H D.rt
theorem zaB (he : PE X e te) : PS X (.Return (some e) pos) (zsl te):=by
 intro pins s σ H D I h
 exact wpAny_Return_some (thn (he pins s σ H _ I h) fun v s1 ⟨x,H1,I1,r1,q1⟩=>⟨x,σ,H1,I1,r1,q1⟩)
def zrI (c : TT) (t u : TS) : TS:=fun D σ H=>c σ H fun b H1=>if b = true then t D σ H1 else u D σ H1
theorem zcU {c : Expr} {a b : List Stmt} {tc : TT} (hc : PT X c tc) (ha : PSs X a t) (hb : PSs X b u) : PS X (.If c a b pos) (zrI tc t u):=by
 intro pins s σ H D I h
 refine wpAny_If (thn (hc pins s σ H _ I h) fun d s1 ⟨H1,I1,q1⟩=>?_)
 cases d with
 | true=>exact ha pins s1 σ H1 D I1 q1
 | false=>exact hb pins s1 σ H1 D I1 q1
end
abbrev TG:=V -> St -> Hp -> (St -> Hp -> Prop) -> Prop
abbrev TGs:=List V -> St -> Hp -> (St -> Hp -> Prop) -> Prop
def PG (X : Cx) (target : Expr) (t : TG) : Prop :=
 ∀ (pins : List (Addr × Obj)) (s : Shared) (σ : St) (H : Hp) (v : V) (u : Value) (Q : St -> Hp -> Prop),Inv X pins σ H s -> zaJ v u -> t v σ H Q ->
   wpAny (model X.prog X.w) X.A (assign target X.env u) (fun _ s'=>∃ σ' H',Inv X pins σ' H' s' /\ Q σ' H') X.xe s
def PGs (X : Cx) (ts : List Expr) (t : TGs) : Prop :=
 ∀ (pins : List (Addr × Obj)) (s : Shared) (σ : St) (H : Hp) (vs : List V) (us : List Value) (Q : St -> Hp -> Prop),Inv X pins σ H s -> zay vs us -> t vs σ H Q ->
   wpAny (model X.prog X.w) X.A (assignInOrder ((assignEach ts X.env).map (·.2)) us) (fun _ s'=>∃ σ' H',Inv X pins σ' H' s' /\ Q σ' H') X.xe s
abbrev zoY:=V -> V -> V -> Hp -> (Hp -> Prop) -> Prop
def zsp (X : Cx) (t : zoY) : Prop :=
 ∀ (pins : List (Addr × Obj)) (s : Shared) (σ : St) (H : Hp) (o i v : V) (ov iv u : Value) (Q : Hp -> Prop),Inv X pins σ H s -> zaJ o ov -> zaJ i iv -> zaJ v u -> t o i v H Q ->
   wpAny (model X.prog X.w) X.A (setItem ov iv u) (fun _ s'=>∃ H',Inv X pins σ H' s' /\ Q H') X.xe s
abbrev TIp:=V -> V -> Hp -> VK -> Prop
def PIp (X : Cx) (op : Operator) (t : TIp) : Prop :=
 ∀ (pins : List (Addr × Obj)) (s : Shared) (σ : St) (H : Hp) (x y : V) (v u : Value) (Q : VK),Inv X pins σ H s -> zaJ x v -> zaJ y u -> t x y H Q ->
   wpAny (model X.prog X.w) X.A (inplaceOp op v u) (EP X pins σ Q) X.xe s
section
variable {X : Cx} {pos : Pos}
def zeE (i : Nat) : TG:=fun v σ H Q=>Q (σ.set i (some v)) H
theorem zak {i : Nat} {x : Str} (hN : X.N.Nodup) (hi : X.N[i]? = some x) (hx : Loc X.env.scope x) (hf : X.fn x = true \/ X.env.scope.names.lookup x = some .local:=by first | exact .inl rfl | exact .inr rfl | assumption) : PG X (.Name x pos) (zeE i):=by
 intro pins s σ H v u Q I r h
 exact wpAny_assign_Name (zgc I hN hi hx r (fun s' I'=>⟨_,H,I',h⟩) hf)
def zrS : TGs:=fun vs σ H Q=>vs = [] /\ Q σ H
def zqe (t : TG) (u : TGs) : TGs:=fun vs σ H Q=>∃ v r,vs = v :: r /\ t v σ H fun σ' H'=>u r σ' H' Q
theorem zcZ : PGs X [] zrS:=by
 intro pins s σ H vs us Q I r h
 obtain ⟨e,h⟩:=h
 subst e
 cases r
 exact assignInOrder_nil ⟨σ,H,I,h⟩
theorem zaZ {e : Expr} {es : List Expr} {t : TG} {u : TGs} (h1 : PG X e t) (h2 : PGs X es u)
   (hs : (assignEach (e :: es) X.env).map (·.2) = assign e X.env :: (assignEach es X.env).map (·.2):=by rfl) : PGs X (e :: es) (zqe t u):=by
 intro pins s σ H vs us Q I r h
 obtain ⟨v,vr,e1,h⟩:=h
 subst e1
 cases r with
 | cons r rr =>
   rw [hs]
   refine assignInOrder_cons (thn (h1 pins s σ H _ _ _ I r h) fun _ s1 ⟨σ1,H1,I1,q1⟩=>?_)
   exact h2 pins s1 σ1 H1 _ _ Q I1 rr q1
def ziI (K : PySem.W.Frag) (n : Nat) (t : TGs) : TG:=fun v σ H Q=>∃ a xs,v = .ref a /\ SqT K H a xs /\ xs.length = n /\ t xs σ H Q
theorem zdM {es : List Expr} {k : Nat} {t : TGs} {n : Nat} (hc : X.calm = true) (h : PGs X es t)
   (hn : (assignEach es X.env).length = n:=by rfl) (hst : (assignEach es X.env).findIdx? (·.1) = none:=by rfl) : PG X (.Tuple es k pos) (ziI X.K n t):=by
 intro pins s σ H v u Q I r hw
 obtain ⟨a,xs,e1,hq,hl,hw⟩:=hw
 subst e1
 cases r
 obtain ⟨its,rv,ht,hz⟩:=I.tuple hq
 refine assign_Tuple_tuple (I.ok.hd hc) ht (by simp [hn,<- hl,rv.length]) hst fun h' hx=>?_
 have I1 : Inv X pins σ H { s with heap:=h' }:=I.kept (t':=s.toks) fun b o e=>hx b o (Nat.ne_of_lt (Heap.lt_size e)) e
 exact h pins _ σ H xs _ Q I1 (by simpa using rv) hw
def zrN (to ti : TE) (t : zoY) : TG:=fun v σ H Q=>to σ H fun o H1=>ti σ H1 fun i H2=>t o i v H2 fun H3=>Q σ H3
theorem zkx {o i : Expr} {to ti : TE} {t : zoY} (ho : PE X o to) (hi : PE X i ti) (hs : zsp X t)
   (ha : ∀ v,assign (.Subscript o i pos) X.env v = (do
     let ov <- holding [v] (eval o X.env)
     let iv <- holding [v,ov] (eval i X.env)
     standAt pos
     holding [v,ov,iv] (setItem ov iv v)
     release [v,ov,iv] []):=by intro _; rfl) : PG X (.Subscript o i pos) (zrN to ti t):=by
 intro pins s σ H v u Q I r h
 rw [ha]
 refine wpAny_bind (wpAny_holding (thn (ho pins s σ H _ I h) fun ov s1 ⟨x,H1,I1,r1,q1⟩=>?_))
 refine wpAny_bind (wpAny_holding (thn (hi pins s1 σ H1 _ I1 q1) fun iv s2 ⟨y,H2,I2,r2,q2⟩=>?_))
 refine wpAny_bind (wpAny_standAt (wpAny_bind (wpAny_holding (thn (hs pins s2 σ H2 x y v ov iv u _ I2 r1 r2 r q2) fun _ s3 ⟨H3,I3,q3⟩=>?_))))
 exact wpAny_release ⟨σ,H3,I3,q3⟩
def zpc (te : TE) (g : TG) : TS:=fun D σ H=>te σ H fun x H1=>g x σ H1 D.nx
theorem zkW {tg e : Expr} {te : TE} {g : TG} (he : PE X e te) (hg : PG X tg g) (hs : swapsWithSole [tg] e pos.line X.env = pure false:=by rfl) (hw : swappedStores [tg] e X.env = pure none:=by rfl)
   (h1 : (assignEach [tg] X.env).map (·.2) = [assign tg X.env]:=by rfl) : PS X (.Assign [tg] e pos) (zpc te g):=by
 intro pins s σ H D I h
 refine wpAny_Assign_stores (thn (he pins s σ H _ I h) fun v s1 ⟨x,H1,I1,r1,q1⟩=>?_) hs hw
 rw [h1]
 exact thn (hg pins s1 σ H1 x v _ I1 r1 q1) fun _ s2 q=>q
theorem zap {i : Nat} {x : Str} {e : Expr} {te : TE} {pos' : Pos} (hN : X.N.Nodup) (hi : X.N[i]? = some x) (hx : Loc X.env.scope x) (he : PE X e te) (hs : swapsWith e (some (.Name x pos')) pos.line X.env = pure false:=by rfl) (hf : X.fn x = true \/ X.env.scope.names.lookup x = some .local:=by first | exact .inl rfl | exact .inr rfl | assumption) :
   PS X (.Assign [.Name x pos'] e pos) (zpc te (zeE i)):=by
 intro pins s σ H D I h
 refine wpAny_Assign_Name (thn (he pins s σ H _ I h) fun v s1 ⟨y,H1,I1,r1,q1⟩=>?_) hs
 exact zgc I1 hN hi hx r1 (fun s2 I2=>⟨_,H1,I2,q1⟩) hf
def zsN (i j : Nat) (ta : TA) : TS:=fun D σ H=>ta σ H fun vs H1=>∃ v w,vs = [v,w] /\ D.nx ((σ.set i (some v)).set j (some w)) H1
def zrK (i : Nat) (te : TE) (ti : TIp) : TS:=fun D σ H=>∃ x,σ[i]? = some (some x) /\ te σ H fun y H1=>ti x y H1 fun z H2=>D.nx (σ.set i (some z)) H2
theorem zrm {i : Nat} {x : Str} {e : Expr} {te : TE} {op : Operator} {ti : TIp} {pos' : Pos} (hN : X.N.Nodup) (hi : X.N[i]? = some x) (hx : Loc X.env.scope x) (he : PE X e te) (ho : PIp X op ti) (hf : X.fn x = true \/ X.env.scope.names.lookup x = some .local:=by first | exact .inl rfl | exact .inr rfl | assumption) :
   PS X (.AugAssign (.Name x pos') op e pos) (zrK i te ti):=by
 intro pins s σ H D I h
 obtain ⟨v,e1,h⟩:=h
 obtain ⟨m,hn,hl⟩:=I.loc
 have vis : Vis X.env.scope x:=by rcases hx with k | k; exact .inl k; exact .inr (.inl k)
 obtain ⟨u,r,l⟩:=hl i x v hi e1 vis
 refine wpAny_AugAssign_Name ?_
 have go : wpAny (model X.prog X.w) X.A (eval e X.env) (fun w s₂=>wpAny (model X.prog X.w) X.A (inplaceOp op u w) (fun r s₃=>wpAny (model X.prog X.w) X.A (storeName X.env x r) (fun _=>SP X pins D .next) X.xe s₃) X.xe s₂) X.xe s:=by
   refine thn (he pins s σ H _ I h) fun w s1 ⟨y,H1,I1,r1,q1⟩=>?_
   refine thn (ho pins s1 σ H1 v y u w _ I1 r r1 q1) fun z s2 ⟨zv,H2,I2,r2,q2⟩=>?_
   exact zgc I2 hN hi hx r2 (fun s3 I3=>⟨_,H2,I3,q2⟩) hf
 rcases l with ⟨hk,hm⟩ | ⟨hk,c,hc,hcell⟩
 . exact wpAny_loadName_local I.ok.kind hk hn hm go
 . rcases hk with hk | hk
   . exact wpAny_loadName_cell I.ok.kind hk hc hcell go
   . rcases hx with k | k
     . have : X.env.scope.names.lookup x = some .free:=hk
       rw [k] at this; cases this
     . have : X.env.scope.names.lookup x = some .free:=hk
       rw [k] at this; cases this
def ipI (f : Int -> Int -> Int) : TIp:=fun x y H Q=>∃ i j,x = .int i /\ y = .int j /\ Q (.int (f i j)) H
theorem zrB : PIp X .Add (ipI fun i j=>i + j):=by
 intro pins s σ H x y v u Q I r1 r2 h
 obtain ⟨i,j,e1,e2,q⟩:=h
 subst e1; subst e2
 obtain ⟨t,rfl⟩:=r1
 obtain ⟨t',rfl⟩:=r2
 exact iadd_int ⟨.int _,H,I.tok _,⟨_,rfl⟩,q⟩
end
section
variable {X : Cx} {pos : Pos}
def znx (c : TT) (tb : TS) : TS:=fun D σ H=>∃ W : Nat -> St -> Hp -> Prop,(∃ m,W m σ H) /\ ∀ m σ H,W m σ H ->
 c σ H fun b H1=>if b = true then ∃ N : St -> Hp -> Prop,(∀ σ' H',N σ' H' -> ∃ m',m' < m /\ W m' σ' H') /\ tb { D with nx:=N,ct:=N,bk:=D.nx } σ H1 else D.nx σ H1
theorem zne {c : Expr} {body : List Stmt} {tc : TT} {tb : TS} (hp : PassesOwn (model X.prog X.w) X.A X.env X.xe) (hc : PT X c tc) (hb : PSs X body tb) : PS X (.While c body [] pos) (znx tc tb):=by
 intro pins s σ H D I h
 obtain ⟨W,⟨m0,w0⟩,turn⟩:=h
 refine wpAny_While (codeAny_whileLoop (fun n s'=>∃ σ' H',Inv X pins σ' H' s' /\ W n σ' H') ?_ m0 ⟨σ,H,I,w0⟩)
 rintro n s1 ⟨σ1,H1,I1,w1⟩
 refine wpAny_passesOwn hp (thn (hc pins s1 σ1 H1 _ I1 (turn n σ1 H1 w1)) fun b s2 ⟨H2,I2,q2⟩=>?_)
 cases b with
 | true =>
   obtain ⟨N,hN,q2⟩:=q2
   rw [if_pos rfl]
   refine wpAny_passesOwn hp (thn (hb pins s2 σ1 H2 _ I2 q2) fun f s3 q3=>?_)
   cases f with
   | next =>
     obtain ⟨σ3,H3,I3,n3⟩:=q3
     obtain ⟨m',hm,w3⟩:=hN σ3 H3 n3
     exact ⟨m',hm,σ3,H3,I3,w3⟩
   | cont =>
     obtain ⟨σ3,H3,I3,n3⟩:=q3
     obtain ⟨m',hm,w3⟩:=hN σ3 H3 n3
     exact ⟨m',hm,σ3,H3,I3,w3⟩
   | brk=>exact q3
   | ret v=>exact q3
 | false =>
   rw [if_neg Bool.false_ne_true]
   exact wpAny_execs_nil ⟨σ1,H2,I2,q2⟩
end
structure It where
 go : Nat -> Hp -> Prop
 yld : Nat -> Hp -> V -> Hp -> Prop
 stop : Nat -> Hp -> Prop
def zdD (X : Cx) (pins : List (Addr × Obj)) (H : Hp) (b : Addr) : Prop :=
 H b = none /\ b ≠ X.env.locals /\ b ∉ X.fs /\ (b ∈ X.ex \/ X.s₀.heap.objs.size <= b) /\ (∀ x c,X.env.cells.lookup x = some c -> c ≠ b) /\ ∀ p ∈ X.pn ++ pins,p.1 ≠ b
theorem Inv.fpOk {X : Cx} {pins : List (Addr × Obj)} {σ : St} {H H' : Hp} {s : Shared} {b : Addr} (I : Inv X pins σ H s) (hb : s.heap.objs.size <= b) (hn : H' b = none) : zdD X pins H' b:=by
 refine ⟨hn,Nat.ne_of_gt (Nat.lt_of_lt_of_le I.lt hb),I.nofs hb,.inr (Nat.le_trans I.sz hb),fun x c e z=>?_,fun p hp z=>?_⟩
 . obtain ⟨v,q⟩:=I.cell x c e
   exact absurd (Nat.lt_of_lt_of_le q.lt (by rw [z]; exact hb)) (Nat.lt_irrefl _)
 . exact absurd (Nat.lt_of_lt_of_le (Heap.lt_size (I.pin p hp).1) (by rw [z]; exact hb)) (Nat.lt_irrefl _)
structure zhi (P : Program) (w : World) (K : PySem.W.Frag) (tg : Expr) (J : It) (fp : List Addr) (it : Addr) (tn : Nat -> Heap -> Prop) : Prop where
 mem : it ∈ fp
 obj : ∀ i h,tn i h -> ∀ b ∈ fp,∃ o,h.get? b = some o /\ ∀ v,o.data ≠ .cell v
 keep : ∀ i h h',tn i h -> (∀ b ∈ fp,∀ o,h.get? b = some o -> h'.get? b = some o) -> tn i h'
 item : ∀ (X : Cx),X.prog = P -> X.w = w -> X.K = K -> X.calm = true -> ∀ (i : Nat) (pins : List (Addr × Obj)) (s : Shared) (σ : St) (H : Hp) (E : Value -> Shared -> Prop),Inv X pins σ H s -> (∀ b ∈ fp,zdD X pins H b) -> tn i s.heap -> J.go i H ->
   wpAny (model P w) X.A (pyNext (.ref it)) (fun r s1=>∃ u,r = some u /\
     wpAny (model P w) X.A (letOwnedTupleGo tg (.ref it) u) (fun _ s2=>∃ x H',Inv X pins σ H' s2 /\ zaJ x u /\ J.yld i H x H' /\ tn (i + 1) s2.heap /\ ∀ b ∈ fp,H' b = none) E s1) E s
 done : ∀ (X : Cx),X.prog = P -> X.w = w -> X.K = K -> X.calm = true -> ∀ (i : Nat) (pins : List (Addr × Obj)) (s : Shared) (σ : St) (H : Hp) (E : Value -> Shared -> Prop),Inv X pins σ H s -> (∀ b ∈ fp,zdD X pins H b) -> tn i s.heap -> J.stop i H ->
   wpAny (model P w) X.A (pyNext (.ref it)) (fun r s1=>r = none /\ Inv X pins σ H s1) E s
 self : ∀ (A : Around) (i : Nat) (s : Shared) (Q : Value -> Shared -> Prop) (E : Value -> Shared -> Prop),tn i s.heap -> Q (.ref it) s -> wpAny (model P w) A (pyIter (.ref it)) Q E s
abbrev TI:=St -> Hp -> (It -> Hp -> Prop) -> Prop
def PIE (X : Cx) (pins : List (Addr × Obj)) (σ : St) (tg : Expr) (R : It -> Hp -> Prop) (itv : Value) (s2 : Shared) : Prop :=
 ∃ (it : Addr) (fp : List Addr) (tn : Nat -> Heap -> Prop) (J : It) (H' : Hp),itv = .ref it /\ Inv X pins σ H' s2 /\ zhi X.prog X.w X.K tg J fp it tn /\ tn 0 s2.heap /\ (∀ b ∈ fp,zdD X pins H' b) /\ R J H'
def PI (X : Cx) (tg iter : Expr) (wi : TI) : Prop :=
 ∀ (pins : List (Addr × Obj)) (s : Shared) (σ : St) (H : Hp) (R : It -> Hp -> Prop),Inv X pins σ H s -> wi σ H R ->
   wpAny (model X.prog X.w) X.A (eval iter X.env) (fun v s1=>wpAny (model X.prog X.w) X.A (pyIter v) (PIE X pins σ tg R) X.xe s1) X.xe s
theorem znd {M : Model} {A : Around} {E : Value -> Shared -> Prop} {s : Shared} {tg : Expr} {it : Addr} {u : Value} {o : Obj} {n : String} {vs : Array Value} {Q : Unit -> Shared -> Prop} (ho : s.heap.get? it = some o) (hc : o.cls = .type n) (hd : o.data = .fields vs)
   (hn : ["enumerate","zip","dict_itemiterator","dict_reverseitemiterator","odict_iterator","itertools.zip_longest","itertools.pairwise"].contains n = false) (hQ : Q () s) : wpAny M A (letOwnedTupleGo tg (.ref it) u) Q E s:=by
 unfold letOwnedTupleGo
 cases tg <;> first
   | exact wpAny_pure hQ
   | (cases u <;> first
       | exact wpAny_pure hQ
       | (refine wpAny_bind (wpAny_load ho ?_)
          rw [hc,hd]
          show wpAny M A (if (["enumerate","zip","dict_itemiterator","dict_reverseitemiterator","odict_iterator","itertools.zip_longest","itertools.pairwise"].contains n && vs[0]? == some (rawInt _)) = true then _ else _) Q E s
          rw [if_neg (by intro h; rw [hn,Bool.false_and] at h; cases h)]
          exact wpAny_pure hQ))
def Itl (K : PySem.W.Frag) (a : Addr) : It :=
 ⟨fun i H=>∃ xs x,SqL K H a xs /\ xs[i]? = some x,fun i H x H'=>H' = H /\ ∀ xs,SqL K H a xs -> xs[i]? = some x,fun i H=>∃ xs,SqL K H a xs /\ xs.length <= i⟩
def Itt (K : PySem.W.Frag) (a : Addr) : It :=
 ⟨fun i H=>∃ xs x,SqT K H a xs /\ xs[i]? = some x,fun i H x H'=>H' = H /\ ∀ xs,SqT K H a xs -> xs[i]? = some x,fun i H=>∃ xs,SqT K H a xs /\ xs.length <= i⟩
def Itr (lo : Int) (n : Nat) : It:=⟨fun i _=>i < n,fun i H x H'=>H' = H /\ x = .int (lo + i),fun i _=>n <= i⟩
theorem zhI {P : Program} {w : World} {K : PySem.W.Frag} {tg : Expr} (a it : Addr) : zhi P w K tg (Itl K a) [it] it (fun i h=>h.IsListIter it a i) where
 mem:=by simp
 obj:=fun i h st b hb=>by
   have e : b = it:=by simpa using hb
   subst e
   obtain ⟨o,e,c,d⟩:=st
   exact ⟨o,e,fun v z=>by rw [d] at z; cases z⟩
 keep:=fun i h h' st k=>st.at fun o e=>k it (by simp) o e
 item:=by
   intro X hP hw hK hc i pins s σ H E I hf st hg
   subst hP hw hK
   obtain ⟨xs,x,hq,hx⟩:=hg
   obtain ⟨its,rv,p,hz⟩:=I.list hq
   obtain ⟨u,hu,ru⟩:=rv.get hx
   obtain ⟨f0,f1,f2,f3,f4,f5⟩:=hf it (by simp)
   refine wpAny_pyNext_list_item st p.isList (x:=u) (by simpa using hu) fun h' st' sb=>?_
   have I1 : Inv X pins σ H { s with heap:=h' }:=I.turned (t':=s.toks) (fun b o hb e=>(sb.2 b hb).trans e) f0 f1 f3 f4 f5
   obtain ⟨o,e,c,d⟩:=id st'
   exact ⟨u,rfl,znd (s:={ s with heap:=h' }) e c d (by decide) ⟨x,H,I1,ru,⟨rfl,fun ys hy=>by rw [I.list_inj hy hq]; exact hx⟩,st',fun b hb=>(hf b hb).1⟩⟩
 done:=by
   intro X hP hw hK hc i pins s σ H E I hf st hg
   subst hP hw hK
   obtain ⟨xs,hq,hx⟩:=hg
   obtain ⟨its,rv,p,hz⟩:=I.list hq
   obtain ⟨f0,f1,f2,f3,f4,f5⟩:=hf it (by simp)
   have hl:=rv.length
   exact wpAny_pyNext_list_end (I.ok.hd hc) st p.isList (by simp; omega) fun h' eb=>⟨rfl,I.turned (t':=s.toks) (fun b o hb e=>eb b o hb e) f0 f1 f3 f4 f5⟩
 self:=fun _ _ _ _ _ st h=>wpAny_pyIter_listiter st h
theorem zgQ {P : Program} {w : World} {K : PySem.W.Frag} {tg : Expr} (a it : Addr) : zhi P w K tg (Itt K a) [it] it (fun i h=>h.IsTupleIter it a i) where
 mem:=by simp
 obj:=fun i h st b hb=>by
   have e : b = it:=by simpa using hb
   subst e
   obtain ⟨o,e,c,d⟩:=st
   exact ⟨o,e,fun v z=>by rw [d] at z; cases z⟩
 keep:=fun i h h' st k=>st.at fun o e=>k it (by simp) o e
 item:=by
   intro X hP hw hK hc i pins s σ H E I hf st hg
   subst hP hw hK
   obtain ⟨xs,x,hq,hx⟩:=hg
   obtain ⟨its,rv,p,hz⟩:=I.tuple hq
   obtain ⟨u,hu,ru⟩:=rv.get hx
   obtain ⟨f0,f1,f2,f3,f4,f5⟩:=hf it (by simp)
   refine wpAny_pyNext_tuple_item st (show s.heap.IsTuple a its.toArray from p) (x:=u) (by simpa using hu) fun h' st' sb=>?_
   have I1 : Inv X pins σ H { s with heap:=h' }:=I.turned (t':=s.toks) (fun b o hb e=>(sb.2 b hb).trans e) f0 f1 f3 f4 f5
   obtain ⟨o,e,c,d⟩:=id st'
   exact ⟨u,rfl,znd (s:={ s with heap:=h' }) e c d (by decide) ⟨x,H,I1,ru,⟨rfl,fun ys hy=>by rw [I.tuple_inj hy hq]; exact hx⟩,st',fun b hb=>(hf b hb).1⟩⟩
 done:=by
   intro X hP hw hK hc i pins s σ H E I hf st hg
   subst hP hw hK
   obtain ⟨xs,hq,hx⟩:=hg
   obtain ⟨its,rv,p,hz⟩:=I.tuple hq
   obtain ⟨f0,f1,f2,f3,f4,f5⟩:=hf it (by simp)
   have hl:=rv.length
   exact wpAny_pyNext_tuple_end (I.ok.hd hc) st (show s.heap.IsTuple a its.toArray from p) (by simp; omega) fun h' eb=>⟨rfl,I.turned (t':=s.toks) (fun b o hb e=>eb b o hb e) f0 f1 f3 f4 f5⟩
 self:=fun _ _ _ _ _ st h=>wpAny_pyIter_tupleiter st h
theorem zkf {P : Program} {w : World} {K : PySem.W.Frag} {tg : Expr} (it : Addr) (lo : Int) (n : Nat) : zhi P w K tg (Itr lo n) [it] it (fun i h=>IsRangeIter h it (lo + (i : Nat) * 1) ((n : Int) - (i : Nat)) 1) where
 mem:=by simp
 obj:=fun i h st b hb=>by
   have e : b = it:=by simpa using hb
   subst e
   exact ⟨_,st,fun v z=>by
     have z' : Data.fields _ = Data.cell v:=z
     cases z'⟩
 keep:=fun i h h' st k=>k it (by simp) _ st
 item:=by
   intro X hP hw hK hc i pins s σ H E I hf st hg
   subst hP hw hK
   obtain ⟨f0,f1,f2,f3,f4,f5⟩:=hf it (by simp)
   have W:=Walks.range (prog:=X.prog) (w:=X.w) (I.ok.hd hc) it lo 1 n
   refine W.item i s _ _ hg st fun v h' tk hv st' kk=>?_
   obtain ⟨t,rfl⟩:=hv
   have I1 : Inv X pins σ H { s with heap:=h',toks:=tk }:=I.turned (fun b o hb e=>kk b o (by simpa using hb) e) f0 f1 f3 f4 f5
   refine ⟨_,rfl,znd (s:={ s with heap:=h',toks:=tk }) (n:="range_iterator") st' rfl rfl (by decide) ⟨.int (lo + i),H,I1,⟨t,?_⟩,⟨rfl,rfl⟩,st',fun b hb=>(hf b hb).1⟩⟩
   rw [Int.mul_one]
 done:=by
   intro X hP hw hK hc i pins s σ H E I hf st hg
   subst hP hw hK
   obtain ⟨f0,f1,f2,f3,f4,f5⟩:=hf it (by simp)
   exact wpAny_pyNext_range_end (I.ok.hd hc) st (by have : n <= i:=hg; omega) fun h' eb=>⟨rfl,I.turned (t':=s.toks) (fun b o hb e=>eb b o hb e) f0 f1 f3 f4 f5⟩
 self:=fun _ _ _ _ _ st h=>wpAny_pyIter_rangeiter st h
end L2
namespace L2
open PySem PySem.Spec PyProof.Rows
section
variable {X : Cx} {tg : Expr}
def znz (K : PySem.W.Frag) (tl : TE) : TI:=fun σ H R=>tl σ H fun x H1=>∃ a,x = .ref a /\ (∃ xs,SqL K H1 a xs) /\ R (Itl K a) H1
def zq7 (K : PySem.W.Frag) (tl : TE) : TI:=fun σ H R=>tl σ H fun x H1=>∃ a,x = .ref a /\ (∃ xs,SqT K H1 a xs) /\ R (Itt K a) H1
theorem zcq {l : Expr} {tl : TE} (hl : PE X l tl) : PI X tg l (znz X.K tl):=by
 intro pins s σ H R I h
 refine thn (hl pins s σ H _ I h) fun v s1 ⟨x,H1,I1,r1,q1⟩=>?_
 obtain ⟨a,e,⟨xs,hq⟩,q⟩:=q1
 subst e
 cases r1
 obtain ⟨its,rv,p,hz⟩:=I1.list hq
 refine wpAny_pyIter_list p.isList ?_
 refine ⟨s1.heap.objs.size,[s1.heap.objs.size],_,_,H1,rfl,I1.kept (t':=s1.toks) fun b o e=>Heap.get?_push_of_some _ e,zhI a _,⟨_,Heap.get?_push_size _ rfl,rfl,rfl⟩,fun b hb=>?_,q⟩
 have e : b = s1.heap.objs.size:=by simpa using hb
 subst e
 exact I1.fpOk (Nat.le_refl _) (I1.hok.fresh (Nat.le_refl _))
theorem zgs {l : Expr} {tl : TE} (hl : PE X l tl) : PI X tg l (zq7 X.K tl):=by
 intro pins s σ H R I h
 refine thn (hl pins s σ H _ I h) fun v s1 ⟨x,H1,I1,r1,q1⟩=>?_
 obtain ⟨a,e,⟨xs,hq⟩,q⟩:=q1
 subst e
 cases r1
 obtain ⟨its,rv,p,hz⟩:=I1.tuple hq
 refine wpAny_pyIter_tuple (show s1.heap.IsTuple a its.toArray from p) ?_
 refine ⟨s1.heap.objs.size,[s1.heap.objs.size],_,_,H1,rfl,I1.kept (t':=s1.toks) fun b o e=>Heap.get?_push_of_some _ e,zgQ a _,⟨_,Heap.get?_push_size _ rfl,rfl,rfl⟩,fun b hb=>?_,q⟩
 have e : b = s1.heap.objs.size:=by simpa using hb
 subst e
 exact I1.fpOk (Nat.le_refl _) (I1.hok.fresh (Nat.le_refl _))
theorem zjE {pins : List (Addr × Obj)} {σ : St} {H : Hp} {s : Shared} {R : It -> Hp -> Prop} {E : Value -> Shared -> Prop} {lo hi : Int} {t u v : Tok} {tk : Nat} (I : Inv X pins σ H s) (h1 : -(2 ^ 62) <= lo) (h2 : lo < 2 ^ 62) (h3 : -(2 ^ 62) <= hi) (h4 : hi < 2 ^ 62)
   (q : R (Itr lo (hi - lo).toNat) H) : wpAny (model X.prog X.w) X.A (pyIter (.ref s.heap.objs.size)) (PIE X pins σ tg R) E { s with heap:=s.heap.push { cls:=.type "range",data:=.fields #[.int lo t,.int hi u,.int 1 v] },toks:=tk }:=by
 refine wpAny_pyIter_range (IsRange.new ..) (small_one h1 h2 h3 h4) ?_
 have I1 : Inv X pins σ H { s with heap:=s.heap.push { cls:=.type "range",data:=.fields #[.int lo t,.int hi u,.int 1 v] },toks:=tk }:=I.kept fun b o e=>Heap.get?_push_of_some _ e
 refine ⟨(s.heap.push { cls:=.type "range",data:=.fields #[.int lo t,.int hi u,.int 1 v] }).objs.size,[(s.heap.push { cls:=.type "range",data:=.fields #[.int lo t,.int hi u,.int 1 v] }).objs.size],_,_,H,rfl,
   I1.kept (t':=tk) fun b o e=>Heap.get?_push_of_some _ e,zkf _ lo (hi - lo).toNat,?_,fun b hb=>?_,q⟩
 . have e1 : lo + ((0 : Nat) : Int) * 1 = lo:=by simp
   have e2 : (((hi - lo).toNat : Nat) : Int) - ((0 : Nat) : Int) = Builtin.Range.rangeSize lo hi 1:=by rw [rangeSize_one]; split <;> omega
   show IsRangeIter _ _ (lo + ((0 : Nat) : Int) * 1) ((((hi - lo).toNat : Nat) : Int) - ((0 : Nat) : Int)) 1
   rw [e1,e2]
   exact Heap.get?_push_size _ rfl
 . have e : b = (s.heap.push { cls:=.type "range",data:=.fields #[.int lo t,.int hi u,.int 1 v] }).objs.size:=by simpa using hb
   subst e
   exact I1.fpOk (Nat.le_refl _) (I1.hok.fresh (Nat.le_refl _))
def zoo (ta : TA) : TI:=fun σ H R=>ta σ H fun vs H1=>∃ j : Int,vs = [.int j] /\ -(2 ^ 62) <= j /\ j < 2 ^ 62 /\ R (Itr 0 j.toNat) H1
def zp4 (ta : TA) : TI:=fun σ H R=>ta σ H fun vs H1=>∃ i j : Int,vs = [.int i,.int j] /\ (-(2 ^ 62) <= i /\ i < 2 ^ 62 /\ -(2 ^ 62) <= j /\ j < 2 ^ 62) /\ R (Itr i (j - i).toNat) H1
theorem zbd {a : Expr} {ta : TA} {p pos : Pos} (hg : Gl X "range") (hm : X.mg "range" = none) (ha : PA X [a] ta) (hs : starEach [a] X.env = [(false,eval a X.env)]:=by rfl) : PI X tg (.Call (.Name "range" p) [a] [] pos) (zoo ta):=by
 intro pins s σ H R I h
 refine Call_ (zcW I hg hm boot_range (PyProof.Rows.callWith_type1 (thn (ha pos pins s σ H _ I h) fun us s1 ⟨vs,H1,I1,r1,q1⟩=>?_) hs rfl))
 obtain ⟨j,e,q1,q2,q⟩:=q1
 subst e
 cases r1 with
 | cons r rr =>
   cases rr
   obtain ⟨t,rfl⟩:=r
   exact call_range_1 (zjE I1 (by omega) (by omega) q1 q2 (by simpa using q))
theorem zlZ {a b : Expr} {ta : TA} {p pos : Pos} (hg : Gl X "range") (hm : X.mg "range" = none) (ha : PA X [a,b] ta) (hs : starEach [a,b] X.env = [(false,eval a X.env),(false,eval b X.env)]:=by rfl) (hs2 : starEach [b] X.env = [(false,eval b X.env)]:=by rfl) :
   PI X tg (.Call (.Name "range" p) [a,b] [] pos) (zp4 ta):=by
 intro pins s σ H R I h
 refine Call_ (zcW I hg hm boot_range (PyProof.Rows.callWith_type1 (thn (ha pos pins s σ H _ I h) fun us s1 ⟨vs,H1,I1,r1,q1⟩=>?_) (by rw [hs,hs2]) (by rw [hs2]; rfl)))
 obtain ⟨i,j,e,⟨q1,q2,q3,q4⟩,q⟩:=q1
 subst e
 cases r1 with
 | cons r rr =>
   cases rr with
   | cons r' rr =>
     cases rr
     obtain ⟨t,rfl⟩:=r
     obtain ⟨t',rfl⟩:=r'
     exact call_range_2 (zjE I1 q1 q2 q3 q4 q)
def zjP (wi : TI) (g : TG) (tb : TS) : TS:=fun D σ H=>wi σ H fun J H1=>∃ W : Nat -> Nat -> St -> Hp -> Prop,(∃ m,W 0 m σ H1) /\ ∀ i m σ H,W i m σ H ->
 (J.stop i H /\ D.nx σ H) \/ (J.go i H /\ ∃ N : St -> Hp -> Prop,(∀ σ' H',N σ' H' -> ∃ m',m' < m /\ W (i + 1) m' σ' H') /\ ∀ x H',J.yld i H x H' -> g x σ H' fun σ2 H2=>tb { D with nx:=N,ct:=N,bk:=D.nx } σ2 H2)
def zgV (fp : List Addr) (h : Heap) : List (Addr × Obj):=fp.filterMap fun b=>(h.get? b).map fun o=>(b,o)
theorem zdA {fp : List Addr} {h : Heap} {b : Addr} {o : Obj} (hb : b ∈ fp) (e : h.get? b = some o) : (b,o) ∈ zgV fp h:=List.mem_filterMap.mpr ⟨b,hb,by rw [e]; rfl⟩
theorem zlW {fp : List Addr} {h : Heap} {p : Addr × Obj} (hp : p ∈ zgV fp h) : p.1 ∈ fp /\ h.get? p.1 = some p.2:=by
 obtain ⟨b,hb,e⟩:=List.mem_filterMap.mp hp
 cases q : h.get? b with
 | none=>rw [q] at e; cases e
 | some o =>
   rw [q] at e
   have e' : (b,o) = p:=Option.some.inj e
   subst e'
   exact ⟨hb,q⟩
theorem Inv.pinned {pins : List (Addr × Obj)} {σ : St} {H : Hp} {s : Shared} {fp : List Addr} (I : Inv X pins σ H s) (hf : ∀ b ∈ fp,zdD X pins H b) (ho : ∀ b ∈ fp,∃ o,s.heap.get? b = some o /\ ∀ v,o.data ≠ .cell v) : Inv X (pins ++ zgV fp s.heap) σ H s :=
 I.pins_of fun p hp=>(List.mem_append.mp hp).elim (fun z=>I.pin p (List.mem_append_right _ z)) fun z=>by
   obtain ⟨hb,e⟩:=zlW z
   obtain ⟨f0,f1,f2,_⟩:=hf p.1 hb
   obtain ⟨o,e',d⟩:=ho p.1 hb
   rw [e] at e'; cases e'
   exact ⟨e,f0,f1,f2,d⟩
theorem Inv.unpinned {pins pl : List (Addr × Obj)} {σ : St} {H : Hp} {s : Shared} (I : Inv X (pins ++ pl) σ H s) : Inv X pins σ H s:=I.pins_of fun p hp=>I.pin p (List.mem_append_right _ (List.mem_append_left _ hp))
theorem zcy {iter : Expr} {body : List Stmt} {wi : TI} {g : TG} {tb : TS} {pos : Pos} (hp : PassesOwn (model X.prog X.w) X.A X.env X.xe) (hc : X.calm = true) (hi : PI X tg iter wi) (hg : PG X tg g) (hb : PSs X body tb)
   (hs : ∀ x,foldedSetIterable iter X.env x = pure x:=by intro _; rfl) : PS X (.For tg iter body [] pos) (zjP wi g tb):=by
 intro pins s σ H D I h
 refine wpAny_For (thn (hi pins s σ H _ I h) fun v s1 h1=>thn h1 fun itv s2 h2=>?_) hs
 obtain ⟨it,fp,tn,J,H2,e,I2,T,st2,f2,W,⟨m0,w0⟩,turn⟩:=h2
 subst e
 -- what stays true of the iterator's objects through the loop
 have stat : ∀ {H' : Hp},(∀ b ∈ fp,H' b = none) -> ∀ b ∈ fp,zdD X pins H' b:=fun hn b hb=>⟨hn b hb,(f2 b hb).2⟩
 refine codeAny_forLoop_any (fun n s'=>∃ i σ' H',Inv X pins σ' H' s' /\ tn i s'.heap /\ (∀ b ∈ fp,H' b = none) /\ W i n σ' H') ?_ m0 ⟨0,σ,H2,I2,st2,fun b hb=>(f2 b hb).1,w0⟩
 rintro n s3 ⟨i,σ3,H3,I3,st3,fr3,w3⟩
 rcases turn i n σ3 H3 w3 with ⟨stop,qn⟩ | ⟨go,N,hN,step⟩
 . refine wpAny_passesOwn hp (thn (T.done X rfl rfl rfl hc i pins s3 σ3 H3 X.xe I3 (stat fr3) st3 stop) fun r s4 ⟨hr,I4⟩=>?_)
   subst hr
   exact wpAny_execs_nil ⟨σ3,H3,I4,qn⟩
 . refine wpAny_passesOwn hp (thn (T.item X rfl rfl rfl hc i pins s3 σ3 H3 X.xe I3 (stat fr3) st3 go) fun r s4 ⟨u,hr,h4⟩=>?_)
   subst hr
   refine wpAny_passesOwn hp (thn h4 fun _ s5 ⟨x,H5,I5,r5,y5,st5,fr5⟩=>?_)
   have I5':=I5.pinned (stat fr5) (T.obj _ _ st5)
   refine wpAny_passesOwn hp (thn (hg _ s5 σ3 H5 x u _ I5' r5 (step x H5 y5)) fun _ s6 ⟨σ6,H6,I6,q6⟩=>?_)
   refine wpAny_passesOwn hp (thn (hb _ s6 σ6 H6 _ I6 q6) fun f s7 q7=>?_)
   have again : ∀ {σ7 : St} {H7 : Hp},Inv X (pins ++ zgV fp s5.heap) σ7 H7 s7 -> N σ7 H7 -> ∃ m,m < n /\ ∃ i σ' H',Inv X pins σ' H' s7 /\ tn i s7.heap /\ (∀ b ∈ fp,H' b = none) /\ W i m σ' H':=fun {σ7 H7} I7 n7=>by
     obtain ⟨m',hm,w7⟩:=hN σ7 H7 n7
     refine ⟨m',hm,i + 1,σ7,H7,I7.unpinned,T.keep _ _ _ st5 fun b hb o e=>(I7.pin (b,o) (List.mem_append_right _ (List.mem_append_right _ (zdA hb e)))).1,fun b hb=>?_,w7⟩
     obtain ⟨o,e,d⟩:=T.obj _ _ st5 b hb
     exact (I7.pin (b,o) (List.mem_append_right _ (List.mem_append_right _ (zdA hb e)))).2.1
   cases f with
   | next=>obtain ⟨σ7,H7,I7,n7⟩:=q7; exact again I7 n7
   | cont=>obtain ⟨σ7,H7,I7,n7⟩:=q7; exact again I7 n7
   | brk=>obtain ⟨σ7,H7,I7,q7⟩:=q7; exact ⟨σ7,H7,I7.unpinned,q7⟩
   | ret v=>obtain ⟨x7,σ7,H7,I7,r7,q7⟩:=q7; exact ⟨x7,σ7,H7,I7.unpinned,r7,q7⟩
end
theorem zns {K : PySem.W.Frag} {a : Addr} {xs : List V} {g : TG} {tb : TS} {D : zbR} {σ : St} {H : Hp} (Pv : Nat -> St -> Hp -> Prop) (h0 : Pv 0 σ H) (hl : ∀ i σ H,i <= xs.length -> Pv i σ H -> SqL K H a xs)
   (hs : ∀ i x σ H,xs[i]? = some x -> Pv i σ H -> g x σ H fun σ2 H2=>tb { D with nx:=Pv (i + 1),ct:=Pv (i + 1),bk:=D.nx } σ2 H2) (hd : ∀ σ H,Pv xs.length σ H -> D.nx σ H) :
   ∃ W : Nat -> Nat -> St -> Hp -> Prop,(∃ m,W 0 m σ H) /\ ∀ i m σ H,W i m σ H ->
     ((Itl K a).stop i H /\ D.nx σ H) \/ ((Itl K a).go i H /\ ∃ N : St -> Hp -> Prop,(∀ σ' H',N σ' H' -> ∃ m',m' < m /\ W (i + 1) m' σ' H') /\ ∀ x H',(Itl K a).yld i H x H' -> g x σ H' fun σ2 H2=>tb { D with nx:=N,ct:=N,bk:=D.nx } σ2 H2):=by
 refine ⟨fun i m σ H=>m = xs.length - i /\ i <= xs.length /\ Pv i σ H,⟨xs.length,by simp,Nat.zero_le _,h0⟩,?_⟩
 rintro i m σ H ⟨rfl,hi,p⟩
 have q:=hl i σ H hi p
 by_cases hlt : i < xs.length
 . refine .inr ⟨⟨xs,xs[i],q,by simp [hlt]⟩,Pv (i + 1),fun σ' H' p'=>⟨xs.length - (i + 1),by omega,rfl,hlt,p'⟩,fun x H' y=>?_⟩
   obtain ⟨e,y⟩:=y
   subst e
   exact hs i x σ _ (y xs q) p
 . have e : i = xs.length:=by omega
   subst e
   exact .inl ⟨⟨xs,q,Nat.le_refl _⟩,hd σ H p⟩
theorem zpf {K : PySem.W.Frag} {a : Addr} {xs : List V} {g : TG} {tb : TS} {D : zbR} {σ : St} {H : Hp} (Pv : Nat -> St -> Hp -> Prop) (h0 : Pv 0 σ H) (hl : ∀ i σ H,i <= xs.length -> Pv i σ H -> SqT K H a xs)
   (hs : ∀ i x σ H,xs[i]? = some x -> Pv i σ H -> g x σ H fun σ2 H2=>tb { D with nx:=Pv (i + 1),ct:=Pv (i + 1),bk:=D.nx } σ2 H2) (hd : ∀ σ H,Pv xs.length σ H -> D.nx σ H) :
   ∃ W : Nat -> Nat -> St -> Hp -> Prop,(∃ m,W 0 m σ H) /\ ∀ i m σ H,W i m σ H ->
     ((Itt K a).stop i H /\ D.nx σ H) \/ ((Itt K a).go i H /\ ∃ N : St -> Hp -> Prop,(∀ σ' H',N σ' H' -> ∃ m',m' < m /\ W (i + 1) m' σ' H') /\ ∀ x H',(Itt K a).yld i H x H' -> g x σ H' fun σ2 H2=>tb { D with nx:=N,ct:=N,bk:=D.nx } σ2 H2):=by
 refine ⟨fun i m σ H=>m = xs.length - i /\ i <= xs.length /\ Pv i σ H,⟨xs.length,by simp,Nat.zero_le _,h0⟩,?_⟩
 rintro i m σ H ⟨rfl,hi,p⟩
 have q:=hl i σ H hi p
 by_cases hlt : i < xs.length
 . refine .inr ⟨⟨xs,xs[i],q,by simp [hlt]⟩,Pv (i + 1),fun σ' H' p'=>⟨xs.length - (i + 1),by omega,rfl,hlt,p'⟩,fun x H' y=>?_⟩
   obtain ⟨e,y⟩:=y
   subst e
   exact hs i x σ _ (y xs q) p
 . have e : i = xs.length:=by omega
   subst e
   exact .inl ⟨⟨xs,q,Nat.le_refl _⟩,hd σ H p⟩
theorem zhv {lo : Int} {n : Nat} {g : TG} {tb : TS} {D : zbR} {σ : St} {H : Hp} (Pv : Nat -> St -> Hp -> Prop) (h0 : Pv 0 σ H)
   (hs : ∀ i σ H,i < n -> Pv i σ H -> g (.int (lo + i)) σ H fun σ2 H2=>tb { D with nx:=Pv (i + 1),ct:=Pv (i + 1),bk:=D.nx } σ2 H2) (hd : ∀ σ H,Pv n σ H -> D.nx σ H) :
   ∃ W : Nat -> Nat -> St -> Hp -> Prop,(∃ m,W 0 m σ H) /\ ∀ i m σ H,W i m σ H ->
     ((Itr lo n).stop i H /\ D.nx σ H) \/ ((Itr lo n).go i H /\ ∃ N : St -> Hp -> Prop,(∀ σ' H',N σ' H' -> ∃ m',m' < m /\ W (i + 1) m' σ' H') /\ ∀ x H',(Itr lo n).yld i H x H' -> g x σ H' fun σ2 H2=>tb { D with nx:=N,ct:=N,bk:=D.nx } σ2 H2):=by
 refine ⟨fun i m σ H=>m = n - i /\ i <= n /\ Pv i σ H,⟨n,by simp,Nat.zero_le _,h0⟩,?_⟩
 rintro i m σ H ⟨rfl,hi,p⟩
 by_cases hlt : i < n
 . refine .inr ⟨hlt,Pv (i + 1),fun σ' H' p'=>⟨n - (i + 1),by omega,rfl,hlt,p'⟩,fun x H' y=>?_⟩
   obtain ⟨e,y⟩:=y
   subst e y
   exact hs i σ _ hlt p
 . have e : i = n:=by omega
   subst e
   exact .inl ⟨Nat.le_refl _,hd σ H p⟩
end L2
namespace L2
open PySem PySem.Spec PyProof.Rows
abbrev R2:=V -> V -> Hp -> VK -> Prop
def OpR (X : Cx) (f : Value -> Value -> Sem Value) (r : R2) : Prop :=
 ∀ (pins : List (Addr × Obj)) (s : Shared) (σ : St) (H : Hp) (x y : V) (v u : Value) (Q : VK),Inv X pins σ H s -> zaJ x v -> zaJ y u -> r x y H Q ->
   wpAny (model X.prog X.w) X.A (f v u) (EP X pins σ Q) X.xe s
def zaj (X : Cx) (f : Value) (r : List V -> Hp -> VK -> Prop) : Prop :=
 ∀ (pins : List (Addr × Obj)) (s : Shared) (σ : St) (H : Hp) (xs : List V) (us : List Value) (Q : VK),Inv X pins σ H s -> zay xs us -> r xs H Q ->
   wpAny (model X.prog X.w) X.A (call f us) (EP X pins σ Q) X.xe s
def zsE (X : Cx) (r : V -> Hp -> (Bool -> Hp -> Prop) -> Prop) : Prop :=
 ∀ (pins : List (Addr × Obj)) (s : Shared) (σ : St) (H : Hp) (x : V) (v : Value) (Q : Bool -> Hp -> Prop),Inv X pins σ H s -> zaJ x v -> r x H Q ->
   wpAny (model X.prog X.w) X.A (truthy v) (TP X pins σ Q) X.xe s
def tOp (r : R2) (ta tb : TE) : TE:=fun σ H Q=>ta σ H fun x H1=>tb σ H1 fun y H2=>r x y H2 Q
def rI (C : Int -> Int -> Prop) (g : Int -> Int -> V) : R2:=fun x y H Q=>∃ i j,x = .int i /\ y = .int j /\ C i j /\ Q (g i j) H
def rI0 (g : Int -> Int -> V) : R2:=fun x y H Q=>∃ i j,x = .int i /\ y = .int j /\ Q (g i j) H
section
variable {X : Cx} {a b c : Expr} {ta tb tc : TE} {pos : Pos}
theorem zqN (ha : PE X a ta) (hb : PE X b tb) {pins : List (Addr × Obj)} {s : Shared} {σ : St} {H : Hp} {R : V -> V -> Hp -> Prop} (I : Inv X pins σ H s)
   (h : ta σ H fun x H1=>tb σ H1 fun y H2=>R x y H2) {Q : Value -> Shared -> Prop} {f : Value -> Value -> Sem Value}
   (hf : ∀ v u s2 x y H2,Inv X pins σ H2 s2 -> zaJ x v -> zaJ y u -> R x y H2 -> wpAny (model X.prog X.w) X.A (f v u) Q X.xe s2) :
   wpAny (model X.prog X.w) X.A (eval a X.env) (fun v s₁=>wpAny (model X.prog X.w) X.A (eval b X.env) (fun u s₂=>wpAny (model X.prog X.w) X.A (f v u) Q X.xe s₂) X.xe s₁) X.xe s:=by
 refine thn (ha pins s σ H _ I h) fun v s1 ⟨x,H1,I1,r1,q1⟩=>?_
 refine thn (hb pins s1 σ H1 _ I1 q1) fun u s2 ⟨y,H2,I2,r2,q2⟩=>?_
 exact hf v u s2 x y H2 I2 r1 r2 q2
theorem zaq {op : Operator} {r : R2} (ho : OpR X (binaryOp op) r) (ha : PE X a ta) (hb : PE X b tb) : PE X (.BinOp a op b pos) (tOp r ta tb):=by
 intro pins s σ H Q I h
 exact wpAny_BinOp (zqN ha hb I h fun v u s2 x y H2 I2 rx ry q=>ho pins s2 σ H2 x y v u Q I2 rx ry q)
theorem opI {f : Value -> Value -> Sem Value} {C : Int -> Int -> Prop} {g : Int -> Int -> Int}
   (rule : ∀ (i j : Int) (t u : Tok) (s : Shared) (Q : Value -> Shared -> Prop) (E : Value -> Shared -> Prop),C i j -> Q (.int (g i j) s.toks) { s with toks:=s.toks + 1 } -> wpAny (model X.prog X.w) X.A (f (.int i t) (.int j u)) Q E s) :
   OpR X f (rI C fun i j=>.int (g i j)):=by
 intro pins s σ H x y v u Q I rx ry h
 obtain ⟨i,j,rfl,rfl,hc,q⟩:=h
 obtain ⟨t,rfl⟩:=rx
 obtain ⟨t',rfl⟩:=ry
 exact rule i j t t' s _ _ hc ⟨.int (g i j),H,I.tok _,⟨_,rfl⟩,q⟩
theorem zr6 {f : Value -> Value -> Sem Value} {g : Int -> Int -> Int}
   (rule : ∀ (i j : Int) (t u : Tok) (s : Shared) (Q : Value -> Shared -> Prop) (E : Value -> Shared -> Prop),Q (.int (g i j) s.toks) { s with toks:=s.toks + 1 } -> wpAny (model X.prog X.w) X.A (f (.int i t) (.int j u)) Q E s) :
   OpR X f (rI0 fun i j=>.int (g i j)):=by
 intro pins s σ H x y v u Q I rx ry h
 obtain ⟨i,j,rfl,rfl,q⟩:=h
 obtain ⟨t,rfl⟩:=rx
 obtain ⟨t',rfl⟩:=ry
 exact rule i j t t' s _ _ ⟨.int (g i j),H,I.tok _,⟨_,rfl⟩,q⟩
theorem zpn {f : Value -> Value -> Sem Value} {g : Int -> Int -> Bool}
   (rule : ∀ (i j : Int) (t u : Tok) (s : Shared) (Q : Value -> Shared -> Prop) (E : Value -> Shared -> Prop),Q (.bool (g i j)) s -> wpAny (model X.prog X.w) X.A (f (.int i t) (.int j u)) Q E s) :
   OpR X f (rI0 fun i j=>.bl (g i j)):=by
 intro pins s σ H x y v u Q I rx ry h
 obtain ⟨i,j,rfl,rfl,q⟩:=h
 obtain ⟨t,rfl⟩:=rx
 obtain ⟨t',rfl⟩:=ry
 exact rule i j t t' s _ _ ⟨.bl (g i j),H,I,rfl,q⟩
def zsn (i j : Int) : Prop:=0 <= j /\ j <= 1000000 /\ i.natAbs < 2 ^ 64
theorem zqX : OpR X (binaryOp .Add) (rI0 fun i j=>.int (i + j)):=zr6 fun _ _ _ _ _ _ _ q=>add_int q
theorem zfr : OpR X (binaryOp .Sub) (rI0 fun i j=>.int (i - j)):=zr6 fun _ _ _ _ _ _ _ q=>sub_int q
theorem zdT : OpR X (binaryOp .Mod) (rI (fun _ j=>0 < j) fun i j=>.int (i % j)):=opI fun i j _ _ _ _ _ hc q=>by
 have h1 : (0 : Int) < j:=hc
 exact mod_int' (by omega) (by rw [Int.fmod_eq_emod_of_nonneg i (by omega)]; exact q)
theorem zrD : OpR X (binaryOp .Pow) (rI zsn fun i j=>.int (i ^ j.toNat)):=opI fun _ _ _ _ _ _ _ hc q=>pow_int_small hc.1 hc.2.1 hc.2.2 q
end
section
variable {X : Cx} {a b c : Expr} {ta tb tc : TE} {pos : Pos}
theorem zsh : OpR X (compareOp .Lt) (rI0 fun i j=>.bl (decide (i < j))):=zpn fun _ _ _ _ _ _ _ q=>lt_int q
theorem zlz : OpR X (compareOp .LtE) (rI0 fun i j=>.bl (decide (i <= j))):=zpn fun _ _ _ _ _ _ _ q=>le_int q
theorem zp3 : OpR X (compareOp .Gt) (rI0 fun i j=>.bl (decide (j < i))):=zpn fun _ _ _ _ _ _ _ q=>gt_int q
theorem zm4 : OpR X (compareOp .GtE) (rI0 fun i j=>.bl (decide (j <= i))):=zpn fun _ _ _ _ _ _ _ q=>ge_int q
theorem OpR.or {f : Value -> Value -> Sem Value} {r r' : R2} (h : OpR X f r) (h' : OpR X f r') : OpR X f (fun x y H Q=>r x y H Q \/ r' x y H Q):=by
 intro pins s σ H x y v u Q I rx ry q
 rcases q with q | q
 . exact h pins s σ H x y v u Q I rx ry q
 . exact h' pins s σ H x y v u Q I rx ry q
theorem zbq (b : Expr) {op : CmpOp} (h : op ≠ .In:=by decide) (h2 : op ≠ .NotIn:=by decide) : behindInMarks op b = false:=by
 have e1 : (op == CmpOp.In) = false:=by cases op <;> first | rfl | exact absurd rfl h
 have e2 : (op == CmpOp.NotIn) = false:=by cases op <;> first | rfl | exact absurd rfl h2
 cases b <;> simp [behindInMarks,e1,e2]
theorem ze1 {op : CmpOp} {r : R2} (ho : OpR X (compareOp op) r) (ha : PE X a ta) (hb : PE X b tb) (hm : behindInMarks op b = false) : PE X (.Compare a [op] [b] pos) (tOp r ta tb):=by
 intro pins s σ H Q I h
 exact wpAny_Compare1 (zqN ha hb I h fun v u s2 x y H2 I2 rx ry q=>ho pins s2 σ H2 x y v u Q I2 rx ry q) hm
def zm8 (t : TE) : TT:=fun σ H Q=>t σ H fun x H'=>∃ k,x = .bl k /\ Q k H'
theorem zba {op : CmpOp} {r : R2} (ho : OpR X (compareOp op) r) (ha : PE X a ta) (hb : PE X b tb) (hm : behindInMarks op b = false) : PT X (.Compare a [op] [b] pos) (zm8 (tOp r ta tb)):=by
 intro pins s σ H Q I h
 refine wpAny_isTrue_Compare1 (thn (ha pins s σ H _ I h) fun v s1 ⟨x,H1,I1,r1,q1⟩=>thn (hb pins s1 σ H1 _ I1 q1) fun u s2 ⟨y,H2,I2,r2,q2⟩ =>
   thn (ho pins s2 σ H2 x y v u _ I2 r1 r2 q2) fun c s3 ⟨z,H3,I3,r3,k,e,q3⟩=>?_) hm
 subst e
 cases r3
 exact wpAny_truthy_bool ⟨H3,I3,q3⟩
def znc (r r' : R2) (ta tb tc : TE) : TE:=fun σ H Q=>ta σ H fun x H1=>tb σ H1 fun y H2=>r x y H2 fun z H3=>∃ k,z = .bl k /\
 (if k = true then tc σ H3 fun w' H4=>r' y w' H4 Q else Q (.bl false) H3)
theorem zi0 {op op' : CmpOp} {r r' : R2} (ho : OpR X (compareOp op) r) (ho' : OpR X (compareOp op') r') (ha : PE X a ta) (hb : PE X b tb) (hc : PE X c tc)
   (hm : lastMarks [op,op'] [b,c] = false:=by with_unfolding_all rfl) : PE X (.Compare a [op,op'] [b,c] pos) (znc r r' ta tb tc):=by
 intro pins s σ H Q I h
 refine Compare_chain (thn (ha pins s σ H _ I h) fun v s1 ⟨x,H1,I1,r1,q1⟩=>chain_link (thn (hb pins s1 σ H1 _ I1 q1) fun u s2 ⟨y,H2,I2,r2,q2⟩ =>
   thn (ho pins s2 σ H2 x y v u _ I2 r1 r2 q2) fun d s3 ⟨z,H3,I3,r3,k,e,q3⟩=>?_)) hm
 subst e
 cases r3
 refine wpAny_truthy_bool ?_
 cases k with
 | false=>exact ite_ff ⟨.bl false,H3,I3,rfl,q3⟩
 | true=>exact ite_tt (chain_last (thn (hc pins s3 σ H3 _ I3 q3) fun w' s4 ⟨z',H4,I4,r4,q4⟩=>ho' pins s4 σ H4 y z' u w' Q I4 r2 r4 q4))
def zqS (K : PySem.W.Frag) (x : V) (H : Hp) (k : Bool) : Prop :=
 match x with
 | .non=>k = false
 | .bl b=>k = b
 | .int i=>k = (i != 0)
 | .str y=>y.length <= sizeLine /\ k = ((y.length : Int) != 0)
 | .byt y=>y.size <= sizeLine /\ k = ((y.size : Int) != 0)
 | .ref p=>(∃ xs,SqL K H p xs /\ k = !xs.isEmpty) \/ (∃ xs,SqT K H p xs /\ k = !xs.isEmpty) \/ ∃ kvs,H p = some (.dK kvs) /\ k = !kvs.isEmpty
 | _=>False
theorem zkH {κ : Type} {kvs : List (κ × V)} {vs : List (κ × Value)} (r : KV kvs vs) : (!vs.isEmpty) = !kvs.isEmpty:=by
 cases r <;> rfl
theorem zgq {xs : List V} {its : List Value} (r : zay xs its) : (!its.toArray.isEmpty) = !xs.isEmpty:=by
 cases r <;> simp
theorem zfp : (sizeLine : Nat) < 2 ^ 63:=by rw [sizeLine_eq]; decide
theorem zq0 : zsE X (fun x H Q=>∃ k,zqS X.K x H k /\ Q k H):=by
 intro pins s σ H x v Q I rx h
 obtain ⟨k,e,q⟩:=h
 have hl:=zfp
 have hs : sizeLine = 16777216:=sizeLine_eq
 cases x with
 | non =>
   cases rx
   have e' : k = false:=e
   subst e'
   exact truthy_none ⟨H,I,q⟩
 | bl b =>
   cases rx
   have e' : k = b:=e
   subst e'
   exact wpAny_truthy_bool ⟨H,I,q⟩
 | int i =>
   obtain ⟨t,rfl⟩:=rx
   have e' : k = (i != 0):=e
   subst e'
   exact PySem.P.truthy_int ⟨H,I,q⟩
 | str y =>
   obtain ⟨t,rfl⟩:=rx
   obtain ⟨hy,e'⟩ : y.length <= sizeLine /\ k = ((y.length : Int) != 0):=e
   subst e'
   exact PySem.P.truthy_str (by omega) ⟨H,I.tok _,q⟩
 | byt y =>
   obtain ⟨t,rfl⟩:=rx
   obtain ⟨hy,e'⟩ : y.size <= sizeLine /\ k = ((y.size : Int) != 0):=e
   subst e'
   exact PySem.W.truthy_bytes (by omega) ⟨H,I.tok _,q⟩
 | ref p =>
   cases rx
   have e' : (∃ xs,SqL X.K H p xs /\ k = !xs.isEmpty) \/ (∃ xs,SqT X.K H p xs /\ k = !xs.isEmpty) \/ ∃ kvs,H p = some (.dK kvs) /\ k = !kvs.isEmpty:=e
   rcases e' with ⟨xs,hx,e'⟩ | ⟨xs,hx,e'⟩ | ⟨kvs,hx,e'⟩
   . subst e'
     obtain ⟨its,r,pl,hz⟩:=I.list hx
     have hlen:=r.length
     exact wpAny_truthy_list pl.isList (by simp only [List.size_toArray]; omega) ⟨H,I.tok _,by rw [zgq r]; exact q⟩
   . subst e'
     obtain ⟨its,r,pl,hz⟩:=I.tuple hx
     have hlen:=r.length
     exact truthy_tuple pl (by simp only [List.size_toArray]; omega) ⟨H,I.tok _,by rw [zgq r]; exact q⟩
   . subst e'
     obtain ⟨hz,hS,vs,r,m⟩ : kvs.length <= sizeLine /\ (p == sysModules) = false /\ ∃ vs,KV kvs vs /\ s.heap.DictOf (mixKind X.prog X.w) p vs:=I.hok p _ hx
     have hlen : kvs.length = vs.length:=Paired.length r
     exact wpAny_truthy_dict hS m (by omega) ⟨H,I.tok _,by rw [zkH r]; exact q⟩
 | _=>exact (show False from e).elim
theorem zna (ha : PE X a ta) (he : ∀ whole,isTrue a X.env whole = (do let v <- whole; standAt a.pos; holding [v] (truthy v))) :
   PT X a (fun σ H Q=>ta σ H fun x H'=>∃ k,zqS X.K x H' k /\ Q k H'):=by
 intro pins s σ H Q I h
 exact isTrue_plain (thn (ha pins s σ H _ I h) fun v s1 ⟨x,H1,I1,r1,q1⟩=>zq0 pins s1 σ H1 x v Q I1 r1 q1) (he _)
theorem zkE : OpR X (binaryOp .Add) (fun x y H Q=>∃ i j,x = .str i /\ y = .str j /\ i.length + j.length <= sizeLine /\ Q (.str (i ++ j)) H):=by
 intro pins s σ H x y v u Q I rx ry h
 obtain ⟨i,j,rfl,rfl,hz,q⟩:=h
 obtain ⟨t,rfl⟩:=rx
 obtain ⟨t',rfl⟩:=ry
 exact add_str (fun t' tk=>⟨.str (i ++ j),H,I.tok _,⟨_,rfl⟩,q⟩) hz
theorem zcR {x : V} {us : List Value} (r : zay [x] us) : ∃ u,us = [u] /\ zaJ x u:=by
 cases r with
 | cons r1 r2=>cases r2; exact ⟨_,rfl,r1⟩
theorem zgB {x y : V} {us : List Value} (r : zay [x,y] us) : ∃ u w',us = [u,w'] /\ zaJ x u /\ zaJ y w':=by
 cases r with
 | cons r1 r2 =>
   cases r2 with
   | cons r3 r4=>cases r4; exact ⟨_,_,rfl,r1,r3⟩
theorem zmA (hc : X.calm = true) : zaj X (.builtin "max") (fun xs H Q=>∃ i j,xs = [.int i,.int j] /\ Q (.int (if j > i then j else i)) H):=by
 intro pins s σ H xs us Q I r h
 obtain ⟨i,j,rfl,q⟩:=h
 obtain ⟨u,w',rfl,⟨t,rfl⟩,⟨t',rfl⟩⟩:=zgB r
 refine max_two_ints (I.ok.hd hc) fun h' tk k=>⟨_,H,I.kept k,?_,q⟩
 by_cases hj : j > i
 . rw [if_pos hj,if_pos hj]; exact ⟨_,rfl⟩
 . rw [if_neg hj,if_neg hj]; exact ⟨_,rfl⟩
theorem zmr (hc : X.calm = true) : zaj X (.builtin "min") (fun xs H Q=>∃ i j,xs = [.int i,.int j] /\ Q (.int (if j < i then j else i)) H):=by
 intro pins s σ H xs us Q I r h
 obtain ⟨i,j,rfl,q⟩:=h
 obtain ⟨u,w',rfl,⟨t,rfl⟩,⟨t',rfl⟩⟩:=zgB r
 refine min_two_ints (I.ok.hd hc) fun h' tk k=>⟨_,H,I.kept k,?_,q⟩
 by_cases hj : j < i
 . rw [if_pos hj,if_pos hj]; exact ⟨_,rfl⟩
 . rw [if_neg hj,if_neg hj]; exact ⟨_,rfl⟩
theorem zmn : zaj X (.type "int") (fun xs H Q=>(∃ i,xs = [.int i] /\ Q (.int i) H) \/ ∃ k,xs = [.bl k] /\ Q (.int (if k then 1 else 0)) H):=by
 intro pins s σ H xs us Q I r h
 rcases h with ⟨i,rfl,q⟩ | ⟨k,rfl,q⟩
 . obtain ⟨u,rfl,t,rfl⟩:=zcR r
   exact call_int_int ⟨.int i,H,I,⟨_,rfl⟩,q⟩
 . obtain ⟨u,rfl,r1⟩:=zcR r
   cases r1
   exact call_int_bool ⟨.int (if k then 1 else 0),H,I.tok _,⟨_,rfl⟩,q⟩
end
end L2
namespace L2
open PySem PySem.Spec PyProof.Rows
structure zs4 (h : Heap) (x dx C : Addr) (mA : Str -> Option Value) : Prop where
 obj : h.get? x = some (PySem.W.instObj C dx)
 ns : h.Ns1 dx mA
 ne : dx ≠ x
section
variable {prog : Program} {w : World} {A : Around} {E : Value -> Shared -> Prop} {s : Shared} {K : PySem.W.Frag} {x dx C f : Addr} {mA : Str -> Option Value} {name : Str} {v : Value}
end
section
variable {P : Program} {w : World} {H H' : Hp} {h h' : Heap} {a C dx : Addr} {fs fs' : List (Str × V)}
end
structure Cls (K : PySem.W.Frag) (C : Addr) : Prop where
 pg : PySem.W.plainGet K C Str.empty = true
 hd : PySem.W.hasDictIn K C = true
 po : PySem.W.plainOver K C = true
 sa : PySem.W.findIn K (.ref C) "__setattr__" = some (some (.builtin "object.__setattr__"))
structure Con (K : PySem.W.Frag) (C : Addr) (f : Str) (v : V) (u : Value) : Prop where
 at_ : PySem.W.findIn K (.ref C) f = some (some u)
 rel : zaJ v u
 get : PySem.W.specialIn K u "__get__" = some none
 cp : PySem.W.copiedNames.contains f = false
structure zs2 (K : PySem.W.Frag) (C : Addr) (m : Str) (f : Addr) : Prop where
 at_ : PySem.W.findIn K (.ref C) m = some (some (.ref f))
 fn : PySem.W.isFn K (.ref f) = true
 kp : PySem.W.keepIn K (.ref f) = true
section
variable {X : Cx} {pins : List (Addr × Obj)} {σ : St} {H : Hp} {s : Shared} {a C dx : Addr} {fs : List (Str × V)} {f : Str} {v : V} {A : Around} {E : Value -> Shared -> Prop}
end
section
variable {X : Cx} {o e value : Expr} {f : Str} {pos pos' tpos : Pos} {ta tv : TE}
end
section
variable {X : Cx} {pins : List (Addr × Obj)} {σ : St} {H : Hp} {s : Shared} {A : Around} {E : Value -> Shared -> Prop} {Q : Value -> Shared -> Prop} {c : Value} {b : Bool}
inductive zgN (K : PySem.W.Frag) (H : Hp) : V -> Value -> Prop where
 | non : zgN K H .non (.type "NoneType")
 | bl (x : Bool) : zgN K H (.bl x) (.type "bool")
 | int (i : Int) : zgN K H (.int i) (.type "int")
 | str (x : Str) : zgN K H (.str x) (.type "str")
 | flt (x : UInt64) : zgN K H (.flt x) (.type "float")
 | lst {a : Addr} {xs : List V} (e : H a = some (.lst xs)) : zgN K H (.ref a) (.type "list")
 | frz {a : Addr} {o : Obj} {xs : List V} (e : H a = some (.frz o (.lst xs))) : zgN K H (.ref a) (.type "list")
 | tup {a : Addr} {xs : List V} (e : H a = some (.tup xs)) : zgN K H (.ref a) (.type "tuple")
 | dK {a : Addr} {kvs : List (Key × V)} (e : H a = some (.dK kvs)) : zgN K H (.ref a) (.type "dict")
 | dT {a : Addr} {kvs : List (List Key × V)} (e : H a = some (.dT kvs)) : zgN K H (.ref a) (.type "dict")
 | ins {a C dx : Addr} {fs : List (Str × V)} (e : H a = some (.ins C dx fs)) (cl : Cls K C) (ha : PySem.W.findIn K (.ref C) "__class__" = some (some (.builtin "object.__class__")))
     (hn : PySem.W.specialIn K (.builtin "object.__class__") "__get__" = some (some (.builtin "getset_descriptor.__get__"))) (htk : PySem.W.takesIn K (.builtin "object.__class__") = some true)
     (hm : PySem.W.mroIn K C (.type "object") = some true) : zgN K H (.ref a) (.ref C)
end
end L2
namespace L2
open PySem PySem.Spec PyProof.Rows
structure zdJ (k : Nat) (A : Around) : Prop where
 hd : A.handled = none
 dp : A.depth + 3 * k + 5 < recursionLimit
 un : A.units + 16 * k + 200 < cLine
 gd : A.guards = some []
theorem zdJ.mono {j k : Nat} {A : Around} (r : zdJ k A) (h : j <= k) : zdJ j A:=⟨r.hd,by have:=r.dp; omega,by have:=r.un; omega,by first | exact r.gd | (simp [Around.under,Code.guards,Code.isGuard,guardIds]; exact r.gd)⟩
theorem zdJ.deeper {k : Nat} {A : Around} (r : zdJ (k + 1) A) (env : Env) : zdJ k (A.deeper env) :=
 ⟨r.hd,by have:=r.dp; show A.depth + 1 + 3 * k + 5 < _; omega,by have:=r.un; show A.units + 3 + 16 * k + 200 < _; omega,by first | exact r.gd | (simp [Around.under,Code.guards,Code.isGuard,guardIds]; exact r.gd)⟩
theorem zdJ.depth {k : Nat} {A : Around} (r : zdJ k A) : A.depth < recursionLimit:=by have:=r.dp; omega
theorem zdJ.units {k : Nat} {A : Around} (r : zdJ k A) : A.units + 64 < cLine:=by have:=r.un; omega
def zmL : TA:=fun _ H Q=>Q [] H
def ziT (ta : TE) (tr : TA) : TA:=fun σ H Q=>ta σ H fun x H1=>tr σ H1 fun xs H2=>Q (x :: xs) H2
section
variable {X : Cx} {e : Expr} {es : List Expr} {te : TE} {t : TA} {pos : Pos}
theorem zab : PA X [] zmL:=fun _ _ _ _ H Q I h=>Calls.spliced_nil ⟨[],H,I,.nil,h⟩
theorem zaa (ha : PE X e te) (hr : PA X es t) (hs : starEach (e :: es) X.env = (false,eval e X.env) :: starEach es X.env:=by rfl) : PA X (e :: es) (ziT te t):=by
 intro pos pins s σ H Q I h
 rw [hs]
 show wpAny _ _ (spliced ((false,eval e X.env) :: backTo pos (starEach es X.env))) _ _ s
 refine Calls.spliced_cons (thn (ha pins s σ H _ I h) fun u s1 ⟨x,H1,I1,r1,q1⟩=>?_)
 exact thn (hr pos pins s1 σ H1 _ I1 q1) fun us s2 ⟨xs,H2,I2,r2,q2⟩=>⟨x :: xs,H2,I2,.cons r1 r2,q2⟩
def zsP (t : TA) : TE:=fun σ H Q=>t σ H fun xs H1=>xs.length <= sizeLine /\ ∀ p,H1 p = none -> Q (.ref p) (upd H1 p (.tup xs))
def zsS (t : TA) : TE:=fun σ H Q=>t σ H fun xs H1=>xs.length <= sizeLine /\ ∀ p,H1 p = none -> Q (.ref p) (upd H1 p (.lst xs))
theorem zrg {x1} (h : PA X es t) : PE X (.Tuple es x1 pos) (zsP t):=by
 intro pins s σ H Q I hq
 refine wpAny_Tuple_spliced (thn (h pos pins s σ H _ I hq) fun us s1 ⟨xs,H1,I1,r,z,q⟩=>⟨by rw [<- r.length]; exact z,?_⟩)
 have hf : H1 s1.heap.objs.size = none:=I1.hok.fresh (Nat.le_refl _)
 refine ⟨.ref s1.heap.objs.size,upd H1 s1.heap.objs.size (.tup xs),I1.laid (t':=s1.toks) (fun b u e=>Heap.get?_push_of_some _ e) (Nat.le_refl _) ?_,rfl,q _ hf⟩
 exact ⟨z,us,r,⟨_,Heap.get?_push_size _ rfl,rfl,_,rfl⟩⟩
theorem zq5 (h : PA X es t) : PE X (.List es pos) (zsS t):=by
 intro pins s σ H Q I hq
 refine wpAny_List_spliced (thn (h pos pins s σ H _ I hq) fun us s1 ⟨xs,H1,I1,r,z,q⟩=>⟨by rw [<- r.length]; exact z,?_⟩)
 have hf : H1 s1.heap.objs.size = none:=I1.hok.fresh (Nat.le_refl _)
 refine ⟨.ref s1.heap.objs.size,upd H1 s1.heap.objs.size (.lst xs),I1.laid (t':=s1.toks) (fun b u e=>Heap.get?_push_of_some _ e) (Nat.le_refl _) ?_,rfl,q _ hf⟩
 exact ⟨z,us,0,r,Heap.get?_push_size _ rfl⟩
end
abbrev Sp:=List V -> Hp -> VK -> XK -> Prop
abbrev CXT:=List Env -> Hp -> Shared -> XK -> Value -> Shared -> Prop
structure znO (P : Program) (w : World) (K : PySem.W.Frag) (mg : Str -> Option Value) (base : Heap) (A : Around) (outer : List Env) (s : Shared) (H : Hp) : Prop where
 frames : A.frames = some outer
 mod : Mod K mg base
 bs : ∀ b o,base.get? b = some o -> s.heap.get? b = some o /\ H b = none
 bsz : base.objs.size <= s.heap.objs.size
 funs : s.heap.FunFrames base outer
 frf : ∀ b ∈ frs outer,H b = none
 hok : HOk P w H s.heap
 bare : AllBare s.gens
def CE (outer : List Env) (P : Program) (w : World) (H : Hp) (s : Shared) (Q : VK) (u : Value) (s' : Shared) : Prop :=
 ∃ v H',s'.os = s.os /\ AllBare s'.gens /\ Un (frs outer) [] H H' s.heap s'.heap /\ HOk P w H' s'.heap /\ zaJ v u /\ Q v H'
def CR (CX : CXT) (outer : List Env) (P : Program) (w : World) (H : Hp) (s : Shared) (Q : VK) (E : XK) (r : Result) (s' : Shared) : Prop :=
 match r with
 | .ok (.ret u)=>CE outer P w H s Q u s'
 | .ok _=>False
 | .error e=>CX outer H s E e s'
structure zbr (P : Program) (w : World) (K : PySem.W.Frag) (mg : Str -> Option Value) (base : Heap) (CX : CXT) (k : Nat) (f : Addr) (fd : FuncData) (ps : List Str) (sp : Sp) : Prop where
 len : ∀ vs H Q E,sp vs H Q E -> vs.length = ps.length
 run : ∀ (A : Around) (outer : List Env) (s : Shared) (H : Hp) (args : Args) (us : List Value) (vs : List V) (Q : VK) (E : XK),zdJ k A -> znO P w K mg base A outer s H -> BindsTo s fd args (ps.zip us) -> zay vs us -> sp vs H Q E ->
   codeAny (model P w) A (.call (.ref f) args) (CR CX outer P w H s Q E) s
section
variable {X : Cx} {pins : List (Addr × Obj)} {σ : St} {H : Hp} {s s' : Shared}
theorem Inv.env0 (I : Inv X pins σ H s) : znO X.prog X.w X.K X.mg X.base X.A X.stack s H :=
 ⟨I.ok.frames,I.ok.mod,I.bs,Nat.le_trans I.ok.bsz I.sz,I.stack,I.stkFree,I.hok,I.bare⟩
theorem Inv.after {Q : VK} {u : Value} (I : Inv X pins σ H s) (h : CE X.stack X.prog X.w H s Q u s') : EP X pins σ Q u s':=by
 obtain ⟨v,H',os,bare,un,hok,r,q⟩:=h
 obtain ⟨hh,g,d,t,os'⟩:=s'
 obtain rfl : os' = s.os:=os
 exact ⟨v,H',I.call (h':=hh) (g':=g) (d':=d) (t':=t) (ch:=[]) un hok bare (fun b z=>absurd z (by simp)),r,q⟩
end
def zn5 (sp : Sp) (dvs : List V) (E : XK) (t : TA) : TE:=fun σ H Q=>t σ H fun vs H1=>sp (vs ++ dvs) H1 Q E
def za0 (K : PySem.W.Frag) (fd : FuncData) (ps : List Str) (ds : List Value) : Prop :=
 ∀ (s : Shared) (us : List Value),K.In s.heap -> (us ++ ds).length = ps.length -> BindsTo s fd ⟨us,[]⟩ (ps.zip (us ++ ds))
theorem za0.all {K : PySem.W.Frag} {fd : FuncData} {ps : List Str} (h : ∀ us : List Value,us.length = ps.length -> bindArgs fd ⟨us,[]⟩ = pure (ps.zip us)) : za0 K fd ps []:=fun s us _ hl=>by
 rw [List.append_nil] at hl ⊢
 exact .of_eq (h us hl)
def ziz (CX : CXT) (X : Cx) (E : XK) : Prop:=∀ (pins : List (Addr × Obj)) (σ : St) (H : Hp) (s : Shared) (e : Value) (s' : Shared),Inv X pins σ H s -> CX X.stack H s E e s' -> X.xe e s'
section
variable {X : Cx} {CX : CXT} {k : Nat} {f C : Addr} {fd : FuncData} {ps : List Str} {sp : Sp} {dvs : List V} {ds : List Value} {E : XK} {x m : Str} {p pos apos : Pos} {e o : Expr} {es : List Expr} {ta : TE} {t : TA}
theorem zqR {pins : List (Addr × Obj)} {σ : St} {H : Hp} {s : Shared} {Q : VK} {us : List Value} {vs : List V} (F : zbr X.prog X.w X.K X.mg X.base CX k f fd ps sp) (hr : zdJ k X.A) (hb : za0 X.K fd ps ds) (hd : zay dvs ds) (hx : ziz CX X E)
   (I : Inv X pins σ H s) (r : zay vs us) (h : sp (vs ++ dvs) H Q E) : wpAny (model X.prog X.w) X.A (call (.ref f) us) (EP X pins σ Q) X.xe s:=by
 have r2 : zay (vs ++ dvs) (us ++ ds):=r.append hd
 have hl : (us ++ ds).length = ps.length:=by rw [<- r2.length]; exact F.len _ _ _ _ h
 refine wpAny_call (codeAny_mono (F.run X.A X.stack s H ⟨us,[]⟩ (us ++ ds) (vs ++ dvs) Q E hr I.env0 (hb s us I.kIn hl) r2 h) fun r s' hq=>?_)
 cases r with
 | error e=>exact hx pins σ H s e s' I hq
 | ok fl =>
   cases fl with
   | ret u=>exact I.after hq
   | next=>exact False.elim hq
   | brk=>exact False.elim hq
   | cont=>exact False.elim hq
theorem zag (F : zbr X.prog X.w X.K X.mg X.base CX k f fd ps sp) (hr : zdJ k X.A) (hg : Gl X x) (hm : X.mg x = some (.ref f)) (hk : PySem.W.keepIn X.K (.ref f) = true) (hb : za0 X.K fd ps ds) (hd : zay dvs ds) (hx : ziz CX X E)
   (ha : PA X (e :: es) t) (hdb : (x == ("__debug__" : Str)) = false:=by decide) (he : starEach (e :: es) X.env = (false,eval e X.env) :: starEach es X.env:=by rfl) (hpl : (backTo pos (starEach es X.env)).any (·.1) = false:=by rfl) :
   PE X (.Call (.Name x p) (e :: es) [] pos) (zn5 sp dvs E t):=by
 intro pins s σ H Q I h
 refine wpAny_Call_Name_kw (zim I hg hm ?_ hdb)
 refine PySem.W.callWith_K (h₀:=X.base) I.ok.mod.kin hk (thn (ha pos pins s σ H _ I h) fun us s1 ⟨vs,H1,I1,r,q⟩=>⟨I1.kIn,?_⟩) he hpl
 exact zqR F hr hb hd hx I1 r q
structure Mk (K : PySem.W.Frag) (C f : Addr) : Prop where
 makes : PySem.W.makesIn K C = true
 init : PySem.W.findIn K (.ref C) "__init__" = some (some (.ref f))
 fn : PySem.W.isFn K (.ref f) = true
 kp : PySem.W.keepIn K (.ref C) = true
end
section
variable {X : Cx} {CX : CXT} {k : Nat} {f C : Addr} {fd : FuncData} {ps ks : List Str} {sp : Sp} {E : XK} {x m : Str} {p pos apos kpos : Pos} {e o : Expr} {es : List Expr} {kws : List Keyword} {te ta : TE} {t tk : TA} {nm : Option Str}
structure zsy (K : PySem.W.Frag) (fd : FuncData) (ps ks : List Str) (g : List Value -> List Value -> List Value) (gV : List V -> List V -> List V) : Prop where
 to : ∀ (s : Shared) (us ws : List Value),K.In s.heap -> (g us ws).length = ps.length -> BindsTo s fd ⟨us,ks.zip ws⟩ (ps.zip (g us ws))
 rel : ∀ {vs : List V} {us : List Value} {zs : List V} {ws : List Value},zay vs us -> zay zs ws -> zay (gV vs zs) (g us ws)
variable {g : List Value -> List Value -> List Value} {gV : List V -> List V -> List V}
end
structure zav (N P : List Str) (sc : Scope) : Prop where
 kind : sc.kind = .function
 co : sc.isCoroutine = false
 gen : sc.isGenerator = false
 nd : N.Nodup
 pre : N.take P.length = P
 par : ∀ x ∈ P,sc.names.lookup x = some .local \/ sc.names.lookup x = some .cell
 nofree : ∀ y ∈ sc.names,y.2 ≠ .free
theorem zhD {kindOf : Str -> Option NameKind} {x : Str} : ∀ {binds : List (Str × Value)} {m : Str -> Option Value},(∀ v,(x,v) ∉ binds) -> bindL kindOf binds m x = m x
 | [],_,_=>rfl
 | (n,v) :: r,m,h=>by
   unfold bindL
   rw [zhD fun w hw=>h w (List.mem_cons_of_mem _ hw)]
   split
   . have : x ≠ n:=by rintro rfl; exact h v List.mem_cons_self
     simp [this]
   . rfl
theorem zhO {kindOf : Str -> Option NameKind} {x : Str} : ∀ {binds : List (Str × Value)} {m : Str -> Option Value},(∀ v,(x,v) ∉ binds) -> bindC kindOf binds m x = m x
 | [],_,_=>rfl
 | (n,v) :: r,m,h=>by
   unfold bindC
   rw [zhO fun w hw=>h w (List.mem_cons_of_mem _ hw)]
   split
   . rfl
   . have : x ≠ n:=by rintro rfl; exact h v List.mem_cons_self
     simp [this]
theorem zhr {kindOf : Str -> Option NameKind} {x : Str} {v : Value} : ∀ {P : List Str} {vs : List Value} {i : Nat} {m : Str -> Option Value},P.Nodup -> P[i]? = some x -> vs[i]? = some v -> kindOf x = some .local ->
   bindL kindOf (P.zip vs) m x = some v
 | [],_,_,_,_,h,_,_=>by simp at h
 | _ :: _,[],_,_,_,_,h,_=>by simp at h
 | p :: P,w :: vs,0,m,nd,h1,h2,hk=>by
   simp at h1 h2; subst h1; subst h2
   show bindL kindOf ((p,w) :: P.zip vs) m p = _
   unfold bindL
   rw [zhD fun v hv=>(List.nodup_cons.mp nd).1 (List.of_mem_zip hv).1,if_pos hk]
   simp
 | p :: P,w :: vs,i + 1,m,nd,h1,h2,hk=>by
   show bindL kindOf ((p,w) :: P.zip vs) m x = _
   unfold bindL
   exact zhr (i:=i) (List.nodup_cons.mp nd).2 (by simpa using h1) (by simpa using h2) hk
theorem zhG {kindOf : Str -> Option NameKind} {x : Str} {v : Value} : ∀ {P : List Str} {vs : List Value} {i : Nat} {m : Str -> Option Value},P.Nodup -> P[i]? = some x -> vs[i]? = some v -> kindOf x ≠ some .local ->
   bindC kindOf (P.zip vs) m x = some v
 | [],_,_,_,_,h,_,_=>by simp at h
 | _ :: _,[],_,_,_,_,h,_=>by simp at h
 | p :: P,w :: vs,0,m,nd,h1,h2,hk=>by
   simp at h1 h2; subst h1; subst h2
   show bindC kindOf ((p,w) :: P.zip vs) m p = _
   unfold bindC
   rw [zhO fun v hv=>(List.nodup_cons.mp nd).1 (List.of_mem_zip hv).1,if_neg hk]
   simp
 | p :: P,w :: vs,i + 1,m,nd,h1,h2,hk=>by
   show bindC kindOf ((p,w) :: P.zip vs) m x = _
   unfold bindC
   exact zhG (i:=i) (List.nodup_cons.mp nd).2 (by simpa using h1) (by simpa using h2) hk
def start (N : List Str) (vs : List V) : St:=vs.map some ++ List.replicate (N.length - vs.length) none
def zbp (CX : CXT) (P : Program) (w : World) (K : PySem.W.Frag) (mg : Str -> Option Value) (base : Heap) (N : List Str) (qual : Str) (scope : Scope) (f : Addr) (cd : Value) (A : Around) (outer : List Env) (s : Shared) (H : Hp) (E : XK) : Cx where
 prog:=P
 w:=w
 K:=K
 mg:=mg
 base:=base
 A:=A.deeper (envOfC qual scope s.heap.objs.size f cd)
 N:=N
 s₀:=s
 H₀:=H
 env:=envOfC qual scope s.heap.objs.size f cd
 outer:=outer
 stack:=envOfC qual scope s.heap.objs.size f cd :: outer
 ex:=[]
 calm:=true
 fn:=fun _=>true
 pn:=[]
 xe:=fun e s'=>wpAny (model P w) (A.deeper (envOfC qual scope s.heap.objs.size f cd)) (leaving (envOfC qual scope s.heap.objs.size f cd) e) (fun _ s''=>CX outer H s E e s'') (fun e' s''=>CX outer H s E e' s'') s'
theorem zg7 {sc : Scope} {n : Nat} {x : Str} (h : sc.names.lookup x = some .cell) : ∃ c,(cellsFrom n sc.names []).lookup x = some c:=by
 have q:=PySem.W.cellsFrom_some sc.names n [] (.inl h)
 exact Option.isSome_iff_exists.mp q
theorem zlL {CX : CXT} {P : Program} {w : World} {K : PySem.W.Frag} {mg : Str -> Option Value} {base : Heap} {N ps : List Str} {qual : Str} {scope : Scope} {f : Addr} {cd : Value} {A : Around} {outer : List Env} {s s1 : Shared} {H : Hp} {E : XK} {us : List Value} {vs : List V}
   (S : zav N ps scope) (hd : A.handled = none) (e0 : znO P w K mg base A outer s H) (hl : vs.length = ps.length) (r : zay vs us)
   (x : InCallC s s.heap.objs.size (bindL (envOfC qual scope s.heap.objs.size f cd).kindOf (ps.zip us) fun _=>none) (cellsFrom (s.heap.objs.size + 1) scope.names []) (bindC (envOfC qual scope s.heap.objs.size f cd).kindOf (ps.zip us) fun _=>none) s1) :
   Inv (zbp CX P w K mg base N qual scope f cd A outer s H E) [] (start N vs) H s1:=by
 have hpl : ps.length <= N.length:=by have:=congrArg List.length S.pre; rw [List.length_take] at this; omega
 obtain ⟨h1,tk,rfl,hk⟩:=x.done
 have noA : ∀ b : Addr,b ∉ (zbp CX P w K mg base N qual scope f cd A outer s H E).ex:=fun b z=>absurd (show b ∈ ([] : List Addr) from z) (by simp)
 refine ⟨⟨e0.mod,S.kind,rfl,rfl,Nat.le_refl _,fun y z c h1 h2=>?_,fun y hy=>?_,fun y c _ h=>?_,fun _=>hd,Around.frames_deeper e0.frames,.inr ⟨rfl,rfl⟩,fun b z=>absurd z (noA b),e0.bs,e0.bsz,fun b _ _=>noA b,fun b z=>absurd z (noA b),e0.funs,e0.frf⟩,
   rfl,e0.bare,Un.kept hk,⟨_,x.toInCall.ns,fun i y v h1 h2 h3=>?_⟩,fun y c h=>⟨_,x.cell y c h⟩,e0.hok.fresh (Nat.le_refl _),fun y c h=>?_,fun p hp=>absurd (show p ∈ ([] : List (Addr × Obj)) from hp) (by simp),e0.hok.kept hk,?_⟩
 . exact name_of_addr x.apart (PySem.mem_of_lookup h1) (PySem.mem_of_lookup h2)
 . have hy : scope.names.lookup y = some .cell \/ scope.names.lookup y = some .free:=hy
   rcases hy with hy | hy
   . exact zg7 hy
   . exact absurd rfl (S.nofree _ (PySem.mem_of_lookup hy))
 . exact Nat.le_of_lt (x.above y c (PySem.mem_of_lookup h))
 . have hi : i < vs.length:=by
     unfold start at h2
     by_cases hi : i < vs.length
     . exact hi
     . rw [List.getElem?_append_right (by simpa using hi)] at h2
       rw [List.getElem?_replicate] at h2
       split at h2 <;> cases h2
   have ha : vs[i]? = some v:=by
     unfold start at h2
     rw [List.getElem?_append_left (by simpa using hi),List.getElem?_map] at h2
     cases e : vs[i]? with
     | none=>rw [e] at h2; cases h2
     | some a=>rw [e] at h2; cases h2; rfl
   obtain ⟨u,hu,rv⟩:=r.get ha
   have hp : ps[i]? = some y:=by
     rw [<- S.pre,List.getElem?_take_of_lt (by omega)]; exact h1
   have ndP : ps.Nodup:=by rw [<- S.pre]; exact S.nd.sublist (List.take_sublist _ _)
   refine ⟨u,rv,?_⟩
   rcases S.par y (List.mem_of_getElem? hp) with k | k
   . exact .inl ⟨k,zhr ndP hp hu k⟩
   . obtain ⟨c,e⟩:=zg7 (n:=s.heap.objs.size + 1) k
     refine .inr ⟨.inl k,c,e,?_⟩
     have q:=x.cell y c e
     rw [zhG ndP hp hu (by show scope.names.lookup y ≠ _; rw [k]; decide)] at q
     exact q
 . exact e0.hok.fresh (Nat.le_of_lt (x.above y c (PySem.mem_of_lookup h)))
 . unfold start
   show _ = N.length
   rw [List.length_append,List.length_map,List.length_replicate]
   omega
theorem zpT {CX : CXT} {P : Program} {w : World} {K : PySem.W.Frag} {mg : Str -> Option Value} {base : Heap} {k : Nat} {f : Addr} {name qual : Str} {params : Arguments} {body : List Stmt} {scope : Scope} {dV kV doc pm cdv ct oc : Value} {an od : Option Addr}
   {osl : Array (Option Value)} {N ps : List Str} {sp : Sp} (lk : K.lookup f = some ⟨oc,od,.func (PySem.W.fnOf name qual params body scope dV kV doc pm an cdv ct),osl⟩) (hcd : PySem.W.codeIn K cdv qual = true) (S : zav N ps scope)
   (len : ∀ vs H Q E,sp vs H Q E -> vs.length = ps.length)
   (hbody : ∀ (A : Around) (outer : List Env) (s : Shared) (H : Hp) (vs : List V) (Q : VK) (E : XK),zdJ k (A.deeper (envOfC qual scope s.heap.objs.size f cdv)) -> sp vs H Q E ->
     ∃ t,PSs (zbp CX P w K mg base N qual scope f cdv A outer s H E) body t /\ t { nx:=fun _ H'=>Q .non H',rt:=Q } (start N vs) H) :
   zbr P w K mg base CX (k + 1) f (PySem.W.fnOf name qual params body scope dV kV doc pm an cdv ct) ps sp:=by
 refine ⟨len,fun A outer s H args us vs Q E hr e0 hb r hsp=>?_⟩
 have hl:=len _ _ _ _ hsp
 have KX : K.In s.heap:=e0.mod.kin.keeps fun b o e=>(e0.bs b o e).1
 have lim : s.heap.NoLimit:=e0.mod.nolimit.keeps fun b o e=>(e0.bs b o e).1
 have hkind : ∀ y ∈ ps.zip us,scope.names.lookup y.1 = some .local \/ (scope.names.lookup y.1 = some .cell /\ ((cellsFrom (s.heap.objs.size + 1) scope.names []).lookup y.1).isSome = true):=fun ⟨n,v⟩ hy=>by
   rcases S.par n (List.of_mem_zip hy).1 with q | q
   . exact .inl q
   . exact .inr ⟨q,PySem.W.cellsFrom_some _ _ _ (.inl q)⟩
 refine codeAny_call_function hr.depth (KX _ _ lk) rfl S.co S.gen rfl (PySem.W.codeRec_of KX hcd) (hb _ _ _ _ ?_)
 refine wpAny_newFunctionEnv_cells S.kind hkind fun env he s1 x=>?_
 subst he
 refine ⟨lim.keeps x.toInCall.keep,codeAny_func ?_⟩
 obtain ⟨t,ht,hq⟩:=hbody A outer s H vs Q E (hr.deeper _) hsp
 have I : Inv (zbp CX P w K mg base N qual scope f cdv A outer s H E) [] (start N vs) H s1:=zlL S hr.hd e0 hl r x
 refine wpAny_mono (ht [] s1 (start N vs) H _ I hq) (fun fl s' hs=>?_) fun e s' hs=>hs
 have fin : ∀ {σ' : St} {H' : Hp} {v : V} {u : Value},Inv (zbp CX P w K mg base N qual scope f cdv A outer s H E) [] σ' H' s' -> zaJ v u -> Q v H' -> CE outer P w H s Q u s' :=
   fun {σ' H' v u} J rv q=>⟨v,H',J.os,J.bare,J.base,J.hok,rv,q⟩
 cases fl with
 | ret u =>
   obtain ⟨v,σ',H',J,rv,q⟩:=hs
   exact fin J rv q
 | next =>
   obtain ⟨σ',H',J,q⟩:=hs
   exact fin (v:=V.non) (u:=Value.none) J rfl q
 | brk =>
   obtain ⟨_,_,_,q⟩:=hs
   exact False.elim q
 | cont =>
   obtain ⟨_,_,_,q⟩:=hs
   exact False.elim q
end L2
namespace L2
open PySem PySem.Spec PyProof.Rows
section
variable {X : Cx} {x : Str} {p pos : Pos} {e : Expr} {es : List Expr} {t : TA} {id T : String} {r : List V -> Hp -> VK -> Prop}
def tCB (r : List V -> Hp -> VK -> Prop) (t : TA) : TE:=fun σ H Q=>t σ H fun vs H1=>r vs H1 Q
theorem zam (hc : zaj X (.builtin id) r) (hg : Gl X x) (hm : X.mg x = none) (hv : bootBuiltins x = some (.builtin id)) (ha : PA X (e :: es) t) (hn : x ≠ "__name__":=by decide) (hdb : (x == ("__debug__" : Str)) = false:=by decide)
   (he : starEach (e :: es) X.env = (false,eval e X.env) :: starEach es X.env:=by rfl) (hpl : (backTo pos (starEach es X.env)).any (·.1) = false:=by rfl) : PE X (.Call (.Name x p) (e :: es) [] pos) (tCB r t):=by
 intro pins s σ H Q I h
 refine wpAny_Call_Name_kw (zcW I hg hm hv ?_ hn hdb)
 exact PyProof.Rows.callWith_builtin1 (thn (ha pos pins s σ H _ I h) fun us s1 ⟨vs,H1,I1,r1,q1⟩=>hc pins s1 σ H1 vs us Q I1 r1 q1) he hpl
theorem zan (hc : zaj X (.type T) r) (hg : Gl X x) (hm : X.mg x = none) (hv : bootBuiltins x = some (.type T)) (ha : PA X (e :: es) t) (hn : x ≠ "__name__":=by decide) (hdb : (x == ("__debug__" : Str)) = false:=by decide)
   (he : starEach (e :: es) X.env = (false,eval e X.env) :: starEach es X.env:=by rfl) (hpl : (backTo pos (starEach es X.env)).any (·.1) = false:=by rfl) : PE X (.Call (.Name x p) (e :: es) [] pos) (tCB r t):=by
 intro pins s σ H Q I h
 refine wpAny_Call_Name_kw (zcW I hg hm hv ?_ hn hdb)
 exact PyProof.Rows.callWith_type1 (thn (ha pos pins s σ H _ I h) fun us s1 ⟨vs,H1,I1,r1,q1⟩=>hc pins s1 σ H1 vs us Q I1 r1 q1) he hpl
end
end L2
namespace L2
open PySem PySem.Spec PyProof.Rows
section
variable {κ : Type} [DecidableEq κ]
def zen (kvs : List (κ × V)) (k : κ) : Option V:=(kvs.find? fun kv=>decide (kv.1 = k)).map (·.2)
def zkO (kvs : List (κ × V)) (k : κ) (v : V) : List (κ × V) :=
 if (kvs.any fun kv=>decide (kv.1 = k)) = true then kvs.map (fun kv=>if kv.1 = k then (kv.1,v) else kv) else kvs ++ [(k,v)]
theorem zgw {p : κ × V} {r : List (κ × V)} {k : κ} (e : p.1 = k) : zen (p :: r) k = some p.2:=by simp [zen,List.find?_cons,e]
theorem zg5 {p : κ × V} {r : List (κ × V)} {k : κ} (e : ¬ p.1 = k) : zen (p :: r) k = zen r k:=by simp [zen,List.find?_cons,e]
theorem zjF (k : κ) : ∀ kvs : List (κ × V),(kvs.any fun kv=>decide (kv.1 = k)) = (zen kvs k).isSome
 | []=>rfl
 | p :: r=>by
   rw [List.any_cons]
   by_cases e : p.1 = k
   . simp only [zgw e,decide_eq_true e,Bool.true_or,Option.isSome_some]
   . rw [zg5 e,decide_eq_false e,Bool.false_or]; exact zjF k r
theorem zi9.isSome_eq {o : Option V} {u : Option Value} (r : zi9 o u) : o.isSome = u.isSome:=by
 cases o with
 | none=>cases u with
   | none=>rfl
   | some _=>exact (show False from r).elim
 | some _=>cases u with
   | none=>exact (show False from r).elim
   | some _=>rfl
theorem zi9.getD {o : Option V} {u : Option Value} {d : V} {d' : Value} (r : zi9 o u) (rd : zaJ d d') : zaJ (o.getD d) (u.getD d'):=by
 cases o with
 | none=>cases u with
   | none=>exact rd
   | some _=>exact (show False from r).elim
 | some _=>cases u with
   | none=>exact (show False from r).elim
   | some _=>exact r
theorem KV.val {kvs : List (κ × V)} {vs : List (κ × Value)} (r : KV kvs vs) (k : κ) : zi9 (zen kvs k) (valueAt vs k):=by
 unfold KV at r
 induction r with
 | nil=>exact True.intro
 | @cons p q ps qs h t ih =>
   obtain ⟨h1,h2⟩:=h
   by_cases e : p.1 = k
   . have e' : q.1 = k:=h1.symm.trans e
     have b : valueAt (q :: qs) k = some q.2:=by simp [valueAt,List.find?_cons,e']
     rw [zgw e,b]; exact h2
   . have e' : ¬ q.1 = k:=fun z=>e (h1.trans z)
     have b : valueAt (q :: qs) k = valueAt qs k:=by simp [valueAt,List.find?_cons,e']
     rw [zg5 e,b]; exact ih
theorem KV.any {kvs : List (κ × V)} {vs : List (κ × Value)} (r : KV kvs vs) (k : κ) : (kvs.any fun kv=>decide (kv.1 = k)) = vs.any fun kv=>decide (kv.1 = k):=by
 unfold KV at r
 induction r with
 | nil=>rfl
 | cons h t ih=>rw [List.any_cons,List.any_cons,ih,h.1]
theorem KV.repl {kvs : List (κ × V)} {vs : List (κ × Value)} (r : KV kvs vs) (k : κ) {y : V} {u : Value} (ry : zaJ y u) :
   KV (kvs.map fun kv=>if kv.1 = k then (kv.1,y) else kv) (vs.map fun kv=>if kv.1 = k then (kv.1,u) else kv):=by
 unfold KV at r ⊢
 induction r with
 | nil=>exact .nil
 | @cons p q ps qs h t ih =>
   rw [List.map_cons,List.map_cons]
   refine .cons ?_ ih
   obtain ⟨h1,h2⟩:=h
   by_cases e : p.1 = k
   . rw [if_pos e,if_pos (h1.symm.trans e)]; exact ⟨h1,ry⟩
   . rw [if_neg e,if_neg (fun z=>e (h1.trans z))]; exact ⟨h1,h2⟩
theorem KV.put {kvs : List (κ × V)} {vs : List (κ × Value)} (r : KV kvs vs) (k : κ) {y : V} {u : Value} (ry : zaJ y u) : KV (zkO kvs k y) (stored vs k u):=by
 unfold zkO stored
 rw [r.any k]
 by_cases e : (vs.any fun kv=>decide (kv.1 = k)) = true
 . rw [if_pos e,if_pos e]; exact r.repl k ry
 . rw [if_neg e,if_neg e]; exact Paired.snoc r ⟨rfl,ry⟩
theorem KV.length {kvs : List (κ × V)} {vs : List (κ × Value)} (r : KV kvs vs) : kvs.length = vs.length:=Paired.length r
end
theorem zqk {P : Program} {w : World} {k : Key} {u : Value} (r : zaJ (kV k) u) : (mixKind P w).is k u = true:=by
 cases k with
 | inl i=>obtain ⟨t,e⟩:=(show ∃ t,u = Value.int i t from r); subst e; exact zjX P w i t
 | inr x=>obtain ⟨t,e⟩:=(show ∃ t,u = Value.str x t from r); subst e; exact zji P w x t
theorem zhC {P : Program} {w : World} : ∀ {ks : List Key} {us : List Value},zay (ks.map kV) us -> ItemsAre (mixKind P w) ks us
 | [],_,r=>by rw [List.map_nil] at r; cases r; exact .nil
 | k :: ks,_,r=>by
   rw [List.map_cons] at r
   cases r with
   | cons h t=>exact .cons (zqk h) (zhC t)
abbrev KT (H : Hp) : List (List Key × V) -> List (List Key × Addr × Value) -> Prop:=Paired fun p q=>p.1 = q.1 /\ H q.2.1 = some (.tup (p.1.map kV)) /\ zaJ p.2 q.2.2
theorem KT.val {H : Hp} {kvs : List (List Key × V)} {xs : List (List Key × Addr × Value)} (r : KT H kvs xs) (k : List Key) : zi9 (zen kvs k) ((atKey xs k).map (·.2)):=by
 induction r with
 | nil=>exact True.intro
 | @cons p q ps qs h t ih =>
   obtain ⟨h1,_,h2⟩:=h
   by_cases e : p.1 = k
   . have e' : q.1 = k:=h1.symm.trans e
     have b : atKey (q :: qs) k = some q.2:=by simp [atKey,List.find?_cons,e']
     rw [zgw e,b]; exact h2
   . have e' : ¬ q.1 = k:=fun z=>e (h1.trans z)
     have b : atKey (q :: qs) k = atKey qs k:=by simp [atKey,List.find?_cons,e']
     rw [zg5 e,b]; exact ih
theorem KT.repl {H : Hp} {kvs : List (List Key × V)} {xs : List (List Key × Addr × Value)} (r : KT H kvs xs) (k : List Key) {y : V} {u : Value} (ry : zaJ y u) :
   KT H (kvs.map fun kv=>if kv.1 = k then (kv.1,y) else kv) (xs.map (putAt k u)):=by
 induction r with
 | nil=>exact .nil
 | @cons p q ps qs h t ih =>
   rw [List.map_cons,List.map_cons]
   refine .cons ?_ ih
   obtain ⟨h1,h2,h3⟩:=h
   unfold putAt
   by_cases e : p.1 = k
   . rw [if_pos e,if_pos (h1.symm.trans e)]; exact ⟨h1,h2,ry⟩
   . rw [if_neg e,if_neg (fun z=>e (h1.trans z))]; exact ⟨h1,h2,h3⟩
theorem KT.put {H : Hp} {kvs : List (List Key × V)} {xs : List (List Key × Addr × Value)} (r : KT H kvs xs) (k : List Key) {b : Addr} {y : V} {u : Value} (hb : H b = some (.tup (k.map kV))) (ry : zaJ y u) :
   KT H (zkO kvs k y) (storedH xs k b u):=by
 have e : (kvs.any fun kv=>decide (kv.1 = k)) = (atKey xs k).isSome:=by
   rw [zjF,(r.val k).isSome_eq,Option.isSome_map]
 unfold zkO storedH
 rw [e]
 by_cases q : (atKey xs k).isSome = true
 . rw [if_pos q,if_pos q]; exact r.repl k ry
 . rw [if_neg q,if_neg q]; exact Paired.snoc r ⟨rfl,hb,ry⟩
theorem KT.keeps {H H' : Hp} {kvs : List (List Key × V)} {xs : List (List Key × Addr × Value)} (r : KT H kvs xs) (ht : ∀ b ys,H b = some (.tup ys) -> H' b = some (.tup ys)) : KT H' kvs xs :=
 Paired.mapP r fun _ _ z=>⟨z.1,ht _ _ z.2.1,z.2.2⟩
section
variable {P : Program} {w : World} {H : Hp} {h : Heap} {a : Addr}
theorem zpU {u : HO} (ok : HOk P w H h) (e : Rd H a u) : za9 P w H h a u:=e.ok ok
theorem zn8 {kvs : List (Key × V)} (ok : HOk P w H h) (e : Rd H a (.dK kvs)) : kvs.length <= sizeLine /\ (a == sysModules) = false /\ ∃ vs,KV kvs vs /\ h.DictOf (mixKind P w) a vs :=
 show za9 P w H h a (.dK kvs) from zpU ok e
theorem zsa {kvs : List (Key × V)} (ok : HOk P w H h) (e : H a = some (.dK kvs)) : kvs.length <= sizeLine /\ (a == sysModules) = false /\ ∃ vs,KV kvs vs /\ h.DictOf (mixKind P w) a vs:=zn8 ok (.inl e)
theorem zmV {ks : List Key} (ok : HOk P w H h) (e : H a = some (.tup (ks.map kV))) : (tupleKind (mixKind P w)).is h ks a:=by
 obtain ⟨_,its,r,o,h1,h2,n,h3⟩:=(show za9 P w H h a (.tup (ks.map kV)) from ok a _ e)
 exact ⟨o,its.toArray,n,h1,h2,h3,by simpa using zhC r⟩
theorem zqg {kvs : List (List Key × V)} (ok : HOk P w H h) (e : Rd H a (.dT kvs)) : kvs.length <= sizeLine /\ (a == sysModules) = false /\
   ∃ xs,KT H kvs xs /\ h.DictOfH (tupleKind (mixKind P w)) a xs:=by
 obtain ⟨z,y,xs,r,o,es,ep,h1,h2,h3,h4,h5⟩:=(show za9 P w H h a (.dT kvs) from zpU ok e)
 refine ⟨z,y,xs,r,o,es,ep,h1,h2,h3,h4,fun x hx=>?_,h5⟩
 have all : ∀ {l : List (List Key × V)} {m : List (List Key × Addr × Value)},KT H l m -> ∀ x ∈ m,(tupleKind (mixKind P w)).is h x.1 x.2.1:=by
   intro l m q
   induction q with
   | nil=>intro x hx; exact nomatch hx
   | @cons p q ps qs hq t ih =>
     intro x hx
     rcases List.mem_cons.mp hx with e | hx
     . subst e
       exact zmV ok (by rw [<- hq.1]; exact hq.2.1)
     . exact ih x hx
 exact all r x hx
end
def zhb (H : Hp) (a : Addr) (y : V) (r : Option V) : Prop :=
 (∃ kvs k,Rd H a (.dK kvs) /\ y = kV k /\ r = zen kvs k) \/ ∃ kvs k b,Rd H a (.dT kvs) /\ y = .ref b /\ H b = some (.tup (k.map kV)) /\ r = zen kvs k
def zpq (H : Hp) (a : Addr) (y v : V) (H' : Hp) : Prop :=
 (∃ kvs k,H a = some (.dK kvs) /\ y = kV k /\ kvs.length < sizeLine /\ H' = upd H a (.dK (zkO kvs k v))) \/
 ∃ kvs k b,H a = some (.dT kvs) /\ y = .ref b /\ H b = some (.tup (k.map kV)) /\ kvs.length < sizeLine /\ H' = upd H a (.dT (zkO kvs k v))
theorem zhb.k {H : Hp} {a : Addr} {kvs : List (Key × V)} {k : Key} (e : H a = some (.dK kvs)) : zhb H a (kV k) (zen kvs k):=.inl ⟨kvs,k,.inl e,rfl,rfl⟩
theorem zpq.k {H : Hp} {a : Addr} {kvs : List (Key × V)} {k : Key} {v : V} (e : H a = some (.dK kvs)) (hl : kvs.length < sizeLine) : zpq H a (kV k) v (upd H a (.dK (zkO kvs k v))):=.inl ⟨kvs,k,e,rfl,hl,rfl⟩
section
variable {X : Cx} {pins : List (Addr × Obj)} {σ : St} {H : Hp} {s : Shared} {a : Addr} {y v : V} {u r : Value} {o : Option V} {A : Around} {E : Value -> Shared -> Prop}
theorem Inv.big (I : Inv X pins σ H s) : sysModules < s.heap.objs.size:=by
 have h : mainGlobals < s.heap.objs.size:=(I.mod.glob.keeps I.bk).lt
 exact Nat.lt_trans (by decide) h
theorem zqC {P : Program} {w : World} {H' : Hp} {h' : Heap} {kvs : List (Key × V)} {vs : List (Key × Value)} (z : kvs.length <= sizeLine) (hd : (a == sysModules) = false) (rel : KV kvs vs) (dd : h'.DictOf (mixKind P w) a vs) :
   za9 P w H' h' a (.dK kvs):=⟨z,hd,vs,rel,dd⟩
end
section
variable {X : Cx} {pins : List (Addr × Obj)} {σ : St} {H : Hp} {s : Shared} {a : Addr} {kvs : List (Key × V)} {k : Key} {u : Value} {A : Around} {E : Value -> Shared -> Prop}
end
def zs1 (i : Expr) : Prop:=∀ ov iv,subscripted i false ov iv = operate [ov,iv] (getItem ov iv)
def zsV (td ty : TE) : TE:=fun σ H Q=>td σ H fun x H1=>ty σ H1 fun y H2=>∃ a v,x = .ref a /\ zhb H2 a y (some v) /\ Q v H2
def zsH (ty td : TE) : TE:=fun σ H Q=>ty σ H fun y H1=>td σ H1 fun x H2=>∃ a o,x = .ref a /\ zhb H2 a y o /\ Q (.bl o.isSome) H2
def zsj (td ty tv : TE) : TS:=fun D σ H=>tv σ H fun v H1=>td σ H1 fun x H2=>ty σ H2 fun y H3=>∃ a H4,x = .ref a /\ zpq H3 a y v H4 /\ D.nx σ H4
section
variable {X : Cx} {o i e value : Expr} {pos pos' tpos : Pos} {td ty tv : TE}
end
def zqB : TE:=fun _ H Q=>∀ p,H p = none -> Q (.ref p) (upd H p (.dK []))
section
variable {X : Cx} {pos : Pos}
end
abbrev VV : List (V × V) -> List (Value × Value) -> Prop:=Paired fun p q=>zaJ p.1 q.1 /\ zaJ p.2 q.2
structure M1 (X : Cx) (o : Expr) (m : Str) (apos : Pos) (e : Expr) (cpos : Pos) : Prop where
 base : attributeBase o m X.env (eval o X.env) = eval o X.env
 few : ((backTo cpos (starEach [e] X.env)).all (fun x=>!x.1) && (backToKw cpos (keywordEach [] X.env)).all (fun x=>x.1.isSome)
   && decide (([e] : List Expr).length + ([] : List Keyword).length + (if ([] : List Keyword).isEmpty then 0 else 1) < 30)) = true
 line : (apos.endLine == cpos.line) = true
 trees : backTo cpos (starEach [e] X.env) = [(false,eval e X.env)]
structure M2 (X : Cx) (o : Expr) (m : Str) (apos : Pos) (e f : Expr) (cpos : Pos) : Prop where
 base : attributeBase o m X.env (eval o X.env) = eval o X.env
 few : ((backTo cpos (starEach [e,f] X.env)).all (fun x=>!x.1) && (backToKw cpos (keywordEach [] X.env)).all (fun x=>x.1.isSome)
   && decide (([e,f] : List Expr).length + ([] : List Keyword).length + (if ([] : List Keyword).isEmpty then 0 else 1) < 30)) = true
 line : (apos.endLine == cpos.line) = true
 trees : backTo cpos (starEach [e,f] X.env) = [(false,eval e X.env),(false,eval f X.env)]
def IsD (H : Hp) (a : Addr) : Prop:=(∃ kvs,Rd H a (.dK kvs)) \/ ∃ kvs,Rd H a (.dT kvs)
theorem zqH {X : Cx} {pins : List (Addr × Obj)} {σ : St} {H : Hp} {s : Shared} {a : Addr} (I : Inv X pins σ H s) (d : IsD H a) :
   s.TypeIs (.ref a) "dict" /\ (∀ b,Value.ref a = .ref b -> ∃ ob,s.heap.get? b = some ob /\ ob.dict = none) /\ (a == sysModules) = false:=by
 rcases d with ⟨kvs,e⟩ | ⟨kvs,e⟩
 . obtain ⟨_,hd,vs,_,dd⟩:=zn8 I.hok e
   refine ⟨dd.typeIs,fun b q=>?_,hd⟩
   cases q
   obtain ⟨ob,_,_,h1,h2,_⟩:=dd
   exact ⟨ob,h1,h2.2.1⟩
 . obtain ⟨_,hd,xs,_,dd⟩:=zqg I.hok e
   refine ⟨dd.typeIs,fun b q=>?_,hd⟩
   cases q
   obtain ⟨ob,_,_,h1,h2,_⟩:=dd
   exact ⟨ob,h1,h2.2.1⟩
section
variable {X : Cx} {pins : List (Addr × Obj)} {σ : St} {H : Hp} {s : Shared} {a : Addr} {y d : V} {u r : Value} {o : Option V} {A : Around} {E : Value -> Shared -> Prop}
theorem zqK {Q : Value -> Shared -> Prop} (hu : A.units + 1 < cLine) (I : Inv X pins σ H s) (g : zhb H a y o) (ry : zaJ y u) (rd : zaJ d r) (h : ∀ w' s',Inv X pins σ H s' -> zaJ (o.getD d) w' -> Q w' s') :
   wpAny (model X.prog X.w) A (call (.builtin "dict.get") [.ref a,u,r]) Q E s:=by
 rcases g with ⟨kvs,k,e,ey,l⟩ | ⟨kvs,k,b,e,ey,eb,l⟩
 . subst ey
   obtain ⟨z,hd,vs,rel,dd⟩:=zn8 I.hok e
   refine call_meetsIn PySem.F.slot_dict_get dd.typeIs PySem.F.entry_dict_get (PySem.F.args_dict_get_3 _ _ _) (meets_dict_get_default (mixKind X.prog X.w) a (zqk ry) hd r) ⟨_,dd.mapOf,h _ _ (I.tok _) ?_⟩
   rw [l]
   exact (rel.val k).getD rd
 . subst ey
   cases (show u = Value.ref b from ry)
   obtain ⟨z,hd,xs,rel,dd⟩:=zqg I.hok e
   refine call_meetsIn PySem.F.slot_dict_get dd.typeIs PySem.F.entry_dict_get (PySem.F.args_dict_get_3 _ _ _) (meetsH_dict_get_default (tupleKind (mixKind X.prog X.w)) a b hd r) ⟨tupleKind_room_in1 hu,k,xs,zmV I.hok eb,dd,h _ _ (I.tok _) ?_⟩
   rw [l]
   exact (rel.val k).getD rd
end
def zm3 (td ty tx : TE) : TE:=fun σ H Q=>td σ H fun x H1=>∃ a,x = .ref a /\ IsD H1 a /\ ty σ H1 fun y H2=>tx σ H2 fun z H3=>∃ o,zhb H3 a y o /\ Q (o.getD z) H3
section
variable {X : Cx} {o e f : Expr} {apos cpos : Pos} {td ty tx : TE}
theorem zjW (hu : X.A.units + 1 < cLine) (ho : PE X o td) (he : PE X e ty) (hf : PE X f tx) (m : M2 X o "get" apos e f cpos) : PE X (.Call (.Attribute o "get" apos) [e,f] [] cpos) (zm3 td ty tx):=by
 intro pins s σ H Q I h
 refine wpAny_Call_method m.base m.few m.line PySem.F.plainAttrs_dict PySem.F.slot_dict_get PySem.F.type_dict_get (thn (ho pins s σ H _ I h) fun u s1 ⟨x,H1,I1,rx,a,ex,d,q1⟩=>?_)
 subst ex
 obtain rfl : u = Value.ref a:=rx
 obtain ⟨t1,t2,_⟩:=zqH I1 d
 refine ⟨t1,t2,?_⟩
 rw [m.trees]
 refine Calls.callWith_builtin rfl (Calls.evalArgs_plain (Calls.spliced_cons (thn (he pins s1 σ H1 _ I1 q1) fun iv s2 ⟨y,H2,I2,ry,q2⟩ =>
   Calls.spliced_cons (thn (hf pins s2 σ H2 _ I2 q2) fun fv s3 ⟨z,H3,I3,rz,ov,g,q3⟩=>Calls.spliced_nil ?_))))
 exact zqK hu I3 g ry rz fun w' s4 I4 rw'=>⟨_,H3,I4,rw',q3⟩
end
section
variable {X : Cx} {pins : List (Addr × Obj)} {σ : St} {H : Hp} {s : Shared} {a : Addr} {kvs : List (Key × V)} {A : Around} {E : Value -> Shared -> Prop}
end
section
variable {X : Cx} {pins : List (Addr × Obj)} {σ : St} {H : Hp} {s : Shared} {a : Addr} {y : V} {u : Value} {A : Around} {E : Value -> Shared -> Prop}
end
end L2
namespace HT
open PySem PyProof.Rows
section
open PySem.SeqAt
open PySem.AutoSeq1 (wpAny_loadPart')
open PySem.MeetsSeq PySem.MeetsSeq2 PySem.MeetsSeq3
end
section
variable {prog : Program} {w : World} {A : Around} {E : Value -> Shared -> Prop} {s : Shared}
theorem cat_tup {t b : Addr} {vs ws : List Value} {Q : Value -> Shared -> Prop} (ht : IsTup s.heap t vs.toArray) (hb : IsTup s.heap b ws.toArray) (hv : vs ≠ [])
   (h1 : ws = [] -> Q (.ref t) s) (h2 : ws ≠ [] -> Q (.ref s.heap.objs.size) { s with heap:=s.heap.push { cls:=.type "tuple",data:=.seq (vs ++ ws).toArray } })
   (hsz : vs.length + ws.length <= sizeLine) : wpAny (model prog w) A (binaryOp .Add (.ref t) (.ref b)) Q E s:=by
 obtain ⟨⟨cls,dd,data,sl⟩,ho,hc,n,hd⟩:=id ht
 obtain ⟨⟨cls2,dd2,data2,sl2⟩,ho2,hc2,n2,hd2⟩:=id hb
 simp only at hc hd hc2 hd2
 subst hc hd hc2 hd2
 have e : vs.toArray ++ ws.toArray = (vs ++ ws).toArray:=by simp
 by_cases hw : ws = []
 . exact concat_meets ⟨_,ho,rfl⟩ ⟨_,ho2,rfl⟩ noFill_tuple_add seq_tuple_add PySem.F.slot_tuple_add PySem.F.entry_tuple_add (PySem.F.args_tuple_add_2 _ _)
     (tuple_addW1 t b vs.toArray ws.toArray n n2 dd dd2 sl sl2 (by simpa using hv) (by simp [hw])) ⟨ho,ho2,h1 hw⟩
 . refine concat_meets ⟨_,ho,rfl⟩ ⟨_,ho2,rfl⟩ noFill_tuple_add seq_tuple_add PySem.F.slot_tuple_add PySem.F.entry_tuple_add (PySem.F.args_tuple_add_2 _ _)
     (tuple_addW2 t b vs.toArray ws.toArray n n2 dd dd2 sl sl2 (by simpa using hv) (by simpa using hw) (by rw [List.size_toArray,List.size_toArray]; exact hsz)) ⟨ho,ho2,?_⟩
   rw [e]
   exact h2 hw
def sIx (n d : Nat) : Option Int -> Nat
 | none=>d
 | some v=>if v < 0 then (v + (n : Int)).toNat else min v.toNat n
theorem zri (n d : Nat) (hd : d <= n) (o : Option Int) : sIx n d o <= n:=by
 cases o with
 | none=>exact hd
 | some v =>
   show (if v < 0 then (v + (n : Int)).toNat else min v.toNat n) <= n
   by_cases hv : v < 0
   . rw [if_pos hv]; omega
   . rw [if_neg hv]; exact Nat.min_le_right _ _
theorem zlJ (v : Int) (n d : Nat) : (if v < 0 then max (v + (n : Int)) 0 else min v (n : Int)) = ((sIx n d (some v) : Nat) : Int):=by
 show (if v < 0 then max (v + (n : Int)) 0 else min v (n : Int)) = (((if v < 0 then (v + (n : Int)).toNat else min v.toNat n) : Nat) : Int)
 by_cases hv : v < 0
 . simp only [if_pos hv]; omega
 . simp only [if_neg hv]; omega
theorem zki (lo hi : Option Int) (n : Nat) : Builtin.Slice.sliceAdjust lo hi 1 (n : Int) = (((sIx n 0 lo : Nat) : Int),((sIx n n hi : Nat) : Int)):=by
 have h1 : ¬ ((1 : Int) < 0):=by omega
 unfold Builtin.Slice.sliceAdjust
 simp only [h1,if_false]
 refine Prod.ext ?_ ?_
 . cases lo with
   | none=>rfl
   | some v=>exact zlJ v n 0
 . cases hi with
   | none=>rfl
   | some v=>exact zlJ v n n
theorem zkk (i j : Nat) : Builtin.Slice.slicePlaces (i : Int) (j : Int) 1 = j - i:=by
 unfold Builtin.Slice.slicePlaces
 have h1 : (1 : Int) > 0:=by omega
 simp only [h1,if_true,Int.ediv_one]
 split <;> omega
theorem zg6 {v : Value} {o : Option Int} {Q : Option Int -> Shared -> Prop} (p : IsPart v o) (h : Q o s) : wpAny (model prog w) A (Builtin.Slice.slicePartIndex v) Q E s:=by
 cases p with
 | none=>exact slicePart_none h
 | int i t=>exact slicePart_int h
theorem zfo {sl : Addr} {vl vu : Value} {lo hi : Option Int} {n : Nat} {Q : Int × Int × Nat -> Shared -> Prop} (hs : s.heap.IsSliceOf sl vl vu .none) (pl : IsPart vl lo) (pu : IsPart vu hi)
   (h : Q (((sIx n 0 lo : Nat) : Int),1,sIx n n hi - sIx n 0 lo) s) : wpAny (model prog w) A (Builtin.Slice.sliceApplied (.ref sl) (pure (n : Int))) Q E s:=by
 obtain ⟨os,hos,hcs,hds⟩:=id hs
 unfold Builtin.Slice.sliceApplied Builtin.Slice.sliceFields
 refine wpAny_bind (wpAny_bind (wpAny_field hos hds (x:=vl) rfl (wpAny_bind (wpAny_field hos hds (x:=vu) rfl (wpAny_bind (wpAny_field hos hds (x:=.none) rfl (wpAny_pure ?_)))))))
 refine wpAny_bind (slicePart_none ?_)
 show wpAny _ _ (if ((1 : Int) == 0) = true then _ else _) _ _ s
 rw [if_neg (by decide)]
 refine wpAny_bind (zg6 pl (wpAny_bind (zg6 pu (wpAny_bind (wpAny_pure ?_)))))
 show wpAny _ _ (match Builtin.Slice.sliceAdjust lo hi 1 (n : Int) with | (lo,hi)=>pure (lo,(1 : Int),Builtin.Slice.slicePlaces lo hi 1)) _ _ s
 rw [zki lo hi n]
 show wpAny _ _ (pure (((sIx n 0 lo : Nat) : Int),(1 : Int),Builtin.Slice.slicePlaces ((sIx n 0 lo : Nat) : Int) ((sIx n n hi : Nat) : Int) 1)) _ _ s
 rw [zkk]
 exact wpAny_pure h
theorem zmW (xs : Array Value) (i k : Nat) : ((List.range k).filterMap fun (m : Nat)=>xs[((i : Int) + (m : Int) * 1).toNat]?).toArray = ((xs.toList.drop i).take k).toArray:=by
 have e : (fun (m : Nat)=>xs[((i : Int) + (m : Int) * 1).toNat]?) = fun m=>xs[i + m]?:=by
   funext m
   have : ((i : Int) + (m : Int) * 1).toNat = i + m:=by omega
   rw [this]
 rw [e]
 have:=pick_run xs i k
 rw [List.filterMap_map] at this
 have e2 : ((fun x=>xs[x]?) ∘ fun x=>i + x) = fun m=>xs[i + m]?:=rfl
 rw [e2] at this
 rw [this]
theorem getItem_tuple_cut {t sl : Addr} {items : Array Value} {vl vu : Value} {lo hi : Option Int} {Q : Value -> Shared -> Prop} (ht : IsTup s.heap t items) (hs : s.heap.IsSliceOf sl vl vu .none) (pl : IsPart vl lo) (pu : IsPart vu hi)
   (hw : ¬ (sIx items.size 0 lo = 0 /\ sIx items.size items.size hi = items.size))
   (h : Q (.ref s.heap.objs.size) { s with heap:=s.heap.push { cls:=.type "tuple",data:=.seq ((items.toList.drop (sIx items.size 0 lo)).take (sIx items.size items.size hi - sIx items.size 0 lo)).toArray } })
   (hsz : items.size <= sizeLine) : wpAny (model prog w) A (getItem (.ref t) (.ref sl)) Q E s:=by
 have htake : sizeOk (.seq ((items.toList.drop (sIx items.size 0 lo)).take (sIx items.size items.size hi - sIx items.size 0 lo)).toArray):=by
   show ((items.toList.drop (sIx items.size 0 lo)).take (sIx items.size items.size hi - sIx items.size 0 lo)).toArray.size <= sizeLine
   rw [List.size_toArray,List.length_take,List.length_drop,Array.length_toList]
   omega
 have hj : sIx items.size items.size hi <= items.size:=zri _ _ (Nat.le_refl _) hi
 obtain ⟨os,hos,hcs,hds⟩:=id hs
 have hTs : s.TypeIs (.ref sl) "slice":=⟨os,hos,hcs⟩
 unfold getItem
 try with_reducible refine wpAny_holding ?_
 first | refine wpAny_bind (wpAny_pure ?_) | skip
 refine wpAny_bind (wpAny_sequenceKey ht.typeIs (by decide) ?_)
 refine wpAny_bind (wpAny_callSpecial?_slot (name:=Str.ofString "__getitem__") ht.typeIs PyProof.Rows.slot_tuple_getitem
   (wpAny_call_entry PyProof.Rows.slot_tuple_getitem ht.typeIs entry_tuple_getitem ?_ (args_tuple_getitem _ _)))
 show wpAny _ _ (Builtin.Tuple.tupleItemsOf (.ref t) >>= _) _ _ s
 refine wpAny_bind (tupleItemsOf_ ht ?_)
 refine wpAny_bind (wpAny_typeOf hTs ?_)
 rw [if_pos (by decide)]
 refine wpAny_bind (zfo hs pl pu ?_)
 have hno : ¬ ((((sIx items.size 0 lo : Nat) : Int) == 0 && (1 : Int) == 1 && (sIx items.size items.size hi - sIx items.size 0 lo) == items.size) = true):=by
   intro q
   rw [Bool.and_eq_true,Bool.and_eq_true] at q
   have q1 : ((sIx items.size 0 lo : Nat) : Int) = 0:=eq_of_beq q.1.1
   have q2 : sIx items.size items.size hi - sIx items.size 0 lo = items.size:=eq_of_beq q.2
   exact hw ⟨by omega,by omega⟩
 show wpAny _ _ (if (((sIx items.size 0 lo : Nat) : Int) == 0 && (1 : Int) == 1 && (sIx items.size items.size hi - sIx items.size 0 lo) == items.size) = true then _ else _) _ _ s
 rw [if_neg hno,zmW]
 first
   | exact wpAny_bind (m:=Builtin.Tuple.tupleExact _) (wpAny_newObj_type (wpAny_pure ⟨_,rfl,wpAny_pure h⟩) htake)
   | exact wpAny_bind (m:=Builtin.Tuple.tupleExact _) (wpAny_newObj_type (wpAny_bind (wpAny_pure (wpAny_pure ⟨_,rfl,wpAny_pure h⟩))) htake)
   | exact wpAny_bind (wpAny_bind (m:=Builtin.Tuple.tupleExact _) (wpAny_newObj_type (wpAny_pure (wpAny_pure ⟨_,rfl,wpAny_pure h⟩)) htake))
   | exact wpAny_bind (wpAny_bind (m:=Builtin.Tuple.tupleExact _) (wpAny_newObj_type (wpAny_pure ⟨_,rfl,wpAny_pure h⟩) htake))
end
end HT
namespace L2
open PySem PySem.Spec PyProof.Rows
abbrev TO:=St -> Hp -> (Option Int -> Hp -> Prop) -> Prop
def PO (X : Cx) (e : Option Expr) (t : TO) : Prop :=
 ∀ (pins : List (Addr × Obj)) (s : Shared) (σ : St) (H : Hp) (Q : Option Int -> Hp -> Prop),Inv X pins σ H s -> t σ H Q ->
   wpAny (model X.prog X.w) X.A (evalPart e X.env) (fun u s'=>∃ o H',Inv X pins σ H' s' /\ IsPart u o /\ Q o H') X.xe s
def zlx : TO:=fun _ H Q=>Q none H
def zp5 (t : TE) : TO:=fun σ H Q=>t σ H fun x H1=>∃ i,x = .int i /\ Q (some i) H1
theorem zev {ns : List Int} : ∀ {us : List Value},zay (ns.map V.int) us -> IntsAre us ns:=by
 induction ns with
 | nil=>intro us r; rw [List.map_nil] at r; cases r; exact .nil
 | cons n ns ih =>
   intro us r
   rw [List.map_cons] at r
   cases r with
   | cons r1 r2 =>
     obtain ⟨t,e⟩:=r1
     subst e
     exact .cons n t (ih r2)
section
variable {X : Cx} {e : Expr} {te : TE} {lo hi : Option Expr} {tl th : TO} {pos p2 : Pos}
theorem zk1 : PO X none zlx:=by
 intro pins s σ H Q I h
 rw [evalPart_none]
 exact wpAny_pure ⟨none,H,I,.none,h⟩
theorem zk3 (h : PE X e te) : PO X (some e) (zp5 te):=by
 intro pins s σ H Q I hw
 rw [evalPart_some]
 refine thn (h pins s σ H _ I hw) fun u s1 ⟨x,H1,I1,r1,q1⟩=>?_
 obtain ⟨i,rfl,q⟩:=q1
 obtain ⟨t,rfl⟩:=r1
 exact ⟨some i,H1,I1,.int i t,q⟩
def SlR (X : Cx) (r : V -> Option Int -> Option Int -> Hp -> VK -> Prop) : Prop :=
 ∀ (pins : List (Addr × Obj)) (s : Shared) (σ : St) (H : Hp) (x : V) (v vl vu : Value) (lo hi : Option Int) (sl : Addr) (Q : VK),Inv X pins σ H s -> zaJ x v -> s.heap.IsSliceOf sl vl vu .none -> IsPart vl lo -> IsPart vu hi -> r x lo hi H Q ->
   ∃ T id,typeLookup (.type T) "__getitem__" = pure (some (.builtin id)) /\ s.TypeIs v T /\ wpAny (model X.prog X.w) X.A (getItem v (.ref sl)) (EP X pins σ Q) X.xe s
theorem SlR.or {r r' : V -> Option Int -> Option Int -> Hp -> VK -> Prop} (h : SlR X r) (h' : SlR X r') : SlR X (fun x lo hi H Q=>r x lo hi H Q \/ r' x lo hi H Q):=by
 intro pins s σ H x v vl vu lo hi sl Q I rx hs pl pu q
 rcases q with q | q
 . exact h pins s σ H x v vl vu lo hi sl Q I rx hs pl pu q
 . exact h' pins s σ H x v vl vu lo hi sl Q I rx hs pl pu q
def tSl (r : V -> Option Int -> Option Int -> Hp -> VK -> Prop) (te : TE) (tl th : TO) : TE:=fun σ H Q=>te σ H fun x H1=>tl σ H1 fun l H2=>th σ H2 fun u H3=>r x l u H3 Q
theorem zjz {r : V -> Option Int -> Option Int -> Hp -> VK -> Prop} (hr : SlR X r) (he : PE X e te) (hl : PO X lo tl) (hu : PO X hi th) : PE X (.Subscript e (.Slice lo hi none p2) pos) (tSl r te tl th):=by
 intro pins s σ H Q I h
 refine Subscript_ (thn (he pins s σ H _ I h) fun v s1 ⟨x,H1,I1,r1,q1⟩=>?_)
 refine wpAny_Slice (thn (hl pins s1 σ H1 _ I1 q1) fun vl s2 ⟨l,H2,I2,pl,q2⟩=>thn (hu pins s2 σ H2 _ I2 q2) fun vu s3 ⟨u,H3,I3,pu,q3⟩=>?_)
 rw [evalPart_none]
 refine wpAny_pure ?_
 have I4 : Inv X pins σ H3 { s3 with heap:=s3.heap.push { cls:=.type "slice",data:=.fields #[vl,vu,.none] } }:=I3.kept (t':=s3.toks) fun b ob q=>Heap.get?_push_of_some _ q
 obtain ⟨T,id,hT,ht,hg⟩:=hr pins { s3 with heap:=s3.heap.push { cls:=.type "slice",data:=.fields #[vl,vu,.none] } } σ H3 x v vl vu l u s3.heap.objs.size Q I4 r1 (Heap.IsSliceOf.new ..) pl pu q3
 show wpAny (model X.prog X.w) X.A (subscriptTail e (.Slice lo hi none p2) v (.ref s3.heap.objs.size)) (EP X pins σ Q) X.xe { s3 with heap:=s3.heap.push { cls:=.type "slice",data:=.fields #[vl,vu,.none] } }
 exact tail_any (ops:=[.ref s3.heap.objs.size,v]) ht hT hg (by with_unfolding_all rfl)
def ziv (xs : List V) (lo hi : Option Int) : List V:=(xs.drop (HT.sIx xs.length 0 lo)).take (HT.sIx xs.length xs.length hi - HT.sIx xs.length 0 lo)
theorem zfH (xs : List V) (lo hi : Option Int) : (ziv xs lo hi).length <= xs.length:=by
 unfold ziv
 rw [List.length_take,List.length_drop]
 omega
def zrY (K : PySem.W.Frag) : V -> Option Int -> Option Int -> Hp -> VK -> Prop:=fun x lo hi H Q=>∃ a xs,x = .ref a /\ SqT K H a xs /\
 ¬ (HT.sIx xs.length 0 lo = 0 /\ HT.sIx xs.length xs.length hi = xs.length) /\ ∀ p,H p = none -> Q (.ref p) (upd H p (.tup (ziv xs lo hi)))
theorem zqD : SlR X (zrY X.K):=by
 intro pins s σ H x v vl vu lo hi sl Q I rx hs pl pu h
 obtain ⟨a,xs,rfl,hx,hw,q⟩:=h
 cases rx
 obtain ⟨its,r,ht,hz⟩:=I.tuple hx
 have hlen : its.toArray.size = xs.length:=by rw [List.size_toArray]; exact r.length.symm
 refine ⟨"tuple",_,PyProof.Rows.slot_tuple_getitem.lookup,ht.typeIs,?_⟩
 refine HT.getItem_tuple_cut ht hs pl pu (by rw [hlen]; exact hw) ?_ (by rw [hlen]; exact hz)
 rw [hlen]
 refine ⟨.ref s.heap.objs.size,_,I.laid (t':=s.toks) (o:=.tup (ziv xs lo hi)) (fun b ob q=>Heap.get?_push_of_some _ q) (Nat.le_refl _) ?_,rfl,q _ (I.hok.fresh (Nat.le_refl _))⟩
 exact ⟨Nat.le_trans (zfH xs lo hi) hz,_,(r.drop (HT.sIx xs.length 0 lo)).take (HT.sIx xs.length xs.length hi - HT.sIx xs.length 0 lo),IsTup.new _ _⟩
def zpS (K : PySem.W.Frag) : R2:=fun x y H Q=>∃ a b xs ys,x = .ref a /\ y = .ref b /\ SqT K H a xs /\ SqT K H b ys /\ xs ≠ [] /\ xs.length + ys.length <= sizeLine /\
 (ys = [] -> Q (.ref a) H) /\ (ys ≠ [] -> ∀ p,H p = none -> Q (.ref p) (upd H p (.tup (xs ++ ys))))
theorem zay.nil_iff {xs : List V} {us : List Value} (r : zay xs us) : us = [] ↔ xs = []:=by
 cases r with
 | nil=>simp
 | cons _ _=>simp
theorem zoT : OpR X (binaryOp .Add) (zpS X.K):=by
 intro pins s σ H x y v u Q I rx ry h
 obtain ⟨a,b,xs,ys,rfl,rfl,ha,hb,hx,hz,q1,q2⟩:=h
 cases rx
 cases ry
 obtain ⟨its,r1,p1,_⟩:=I.tuple ha
 obtain ⟨its2,r2,p2,_⟩:=I.tuple hb
 refine HT.cat_tup p1 p2 (fun z=>hx (r1.nil_iff.mp z)) (fun z=>⟨.ref a,H,I,rfl,q1 (r2.nil_iff.mp z)⟩) (fun z=>?_) (by rw [<- r1.length,<- r2.length]; exact hz)
 refine ⟨.ref s.heap.objs.size,_,I.laid (t':=s.toks) (o:=.tup (xs ++ ys)) (fun b ob q=>Heap.get?_push_of_some _ q) (Nat.le_refl _) ?_,rfl,q2 (fun w=>z (r2.nil_iff.mpr w)) _ (I.hok.fresh (Nat.le_refl _))⟩
 exact ⟨by rw [List.length_append]; exact hz,_,r1.append r2,IsTup.new _ _⟩
end
end L2
namespace L2
open PySem PySem.Spec PyProof.Rows
def ixN (n : Nat) (i : Int) : Option Nat:=if 0 <= i then (if i < n then some i.toNat else none) else if -(n : Int) <= i then some (i + n).toNat else none
def atI {α : Type} (xs : List α) (i : Int) : Option α:=(ixN xs.length i).bind fun j=>xs[j]?
theorem zlF {n : Nat} {i : Int} {j : Nat} (h : ixN n i = some j) : seqIndex? i n = some j /\ j < n /\ -(n : Int) <= i /\ i < n:=by
 unfold ixN at h
 by_cases h0 : 0 <= i
 . rw [if_pos h0] at h
   by_cases h1 : i < n
   . rw [if_pos h1] at h
     have e : i.toNat = j:=Option.some.inj h
     exact ⟨by rw [seqIndex_of h0 h1,e],by omega,by omega,h1⟩
   . rw [if_neg h1] at h; cases h
 . rw [if_neg h0] at h
   by_cases h1 : -(n : Int) <= i
   . rw [if_pos h1] at h
     have e : (i + n).toNat = j:=Option.some.inj h
     exact ⟨by rw [seqIndex_neg (by omega) h1,e],by omega,h1,by omega⟩
   . rw [if_neg h1] at h; cases h
theorem zih {α : Type} {xs : List α} {i : Int} {v : α} (h : atI xs i = some v) : ∃ j,seqIndex? i xs.length = some j /\ xs[j]? = some v /\ j < xs.length /\ -(xs.length : Int) <= i /\ i < xs.length:=by
 unfold atI at h
 cases e : ixN xs.length i with
 | none=>rw [e] at h; cases h
 | some j =>
   rw [e] at h
   obtain ⟨h1,h2,h3,h4⟩:=zlF e
   exact ⟨j,h1,h,h2,h3,h4⟩
theorem zc1 {α : Type} {xs : List α} {j : Nat} {v : α} (h : xs[j]? = some v) : atI xs (j : Int) = some v:=by
 have hj : j < xs.length:=(List.getElem?_eq_some_iff.mp h).1
 have e : ixN xs.length (j : Int) = some j:=by
   unfold ixN
   rw [if_pos (by omega),if_pos (by omega)]; simp
 unfold atI; rw [e]; exact h
def zph (b : Expr) : Prop:=∀ o i,subscripted b false o i = operate [o,i] (getItem o i)
def IxR (X : Cx) (r : R2) : Prop :=
 ∀ (value slice : Expr) (pins : List (Addr × Obj)) (s : Shared) (σ : St) (H : Hp) (x y : V) (v u : Value) (Q : VK),Inv X pins σ H s -> zaJ x v -> zaJ y u -> r x y H Q ->
   subscripted slice false v u = operate [v,u] (getItem v u) -> wpAny (model X.prog X.w) X.A (subscriptTail value slice v u) (EP X pins σ Q) X.xe s
def MtR (X : Cx) (id : String) (r : V -> List V -> Hp -> VK -> Prop) : Prop :=
 ∀ (pins : List (Addr × Obj)) (s : Shared) (σ : St) (H : Hp) (x : V) (xs : List V) (v : Value) (us : List Value) (Q : VK),Inv X pins σ H s -> zaJ x v -> zay xs us -> r x xs H Q ->
   wpAny (model X.prog X.w) X.A (call (.builtin id) (v :: us)) (EP X pins σ Q) X.xe s
section
variable {X : Cx} {a b : Expr} {ta tb : TE} {pos : Pos}
theorem IxR.or {r r' : R2} (h : IxR X r) (h' : IxR X r') : IxR X (fun x y H Q=>r x y H Q \/ r' x y H Q):=by
 intro value slice pins s σ H x y v u Q I rx ry q hs
 rcases q with q | q
 . exact h value slice pins s σ H x y v u Q I rx ry q hs
 . exact h' value slice pins s σ H x y v u Q I rx ry q hs
theorem zal {r : R2} (hr : IxR X r) (ha : PE X a ta) (hb : PE X b tb) (hs : zph b) : PE X (.Subscript a b pos) (tOp r ta tb):=by
 intro pins s σ H Q I h
 exact Subscript_ (zqN ha hb I h fun v u s2 x y H2 I2 rx ry q=>hr a b pins s2 σ H2 x y v u Q I2 rx ry q (hs _ _))
def zsi (K : PySem.W.Frag) : R2:=fun x y H Q=>∃ p xs i v,x = .ref p /\ y = .int i /\ SqL K H p xs /\ atI xs i = some v /\ Q v H
def zse (K : PySem.W.Frag) : R2:=fun x y H Q=>∃ p xs i v,x = .ref p /\ y = .int i /\ SqT K H p xs /\ atI xs i = some v /\ Q v H
def zr9 : R2:=fun x y H Q=>∃ z i c,x = .str z /\ y = .int i /\ z.length <= sizeLine /\ atI z.cps.toList i = some c /\ Q (.str ⟨#[c]⟩) H
theorem zpp : IxR X (zsi X.K):=by
 intro value slice pins s σ H x y v u Q I rx ry h hs
 obtain ⟨p,xs,i,z,rfl,rfl,hq,he,q⟩:=h
 cases rx
 obtain ⟨t,rfl⟩:=ry
 obtain ⟨its,r,pl,hz⟩:=I.list hq
 obtain ⟨j,h1,h2,h3,h4,h5⟩:=zih he
 obtain ⟨w,ew,rw'⟩:=r.get h2
 have hl:=r.length
 have hn:=zfp
 have fin : EP X pins σ Q w s:=⟨z,H,I,rw',q⟩
 by_cases h0 : 0 <= i
 . have hj : i.toNat = j:=by
     rw [seqIndex_of h0 h5] at h1
     exact Option.some.inj h1
   exact item_listR pl.isList h0 (by omega) (by rw [hj]; simpa using ew) fin hs
 . have hj : (i + (its.toArray.size : Int)).toNat = j:=by
     rw [seqIndex_neg (by omega) h4] at h1
     rw [List.size_toArray,<- hl]
     exact Option.some.inj h1
   exact subscriptTail_builtinR (x:=w) pl.isList.typeIs slot_list_getitem.lookup
     (wpAny_getItem_list_neg (Q:=fun r s'=>r = w /\ EP X pins σ Q r s') pl.isList (by omega) (by rw [List.size_toArray] <;> omega) (by omega) (by rw [hj]; simpa using ew) ⟨rfl,fin⟩) hs
theorem zrl : IxR X (zse X.K):=by
 intro value slice pins s σ H x y v u Q I rx ry h hs
 obtain ⟨p,xs,i,z,rfl,rfl,hq,he,q⟩:=h
 cases rx
 obtain ⟨t,rfl⟩:=ry
 obtain ⟨its,r,pl,hz⟩:=I.tuple hq
 obtain ⟨j,h1,h2,h3,h4,h5⟩:=zih he
 obtain ⟨w,ew,rw'⟩:=r.get h2
 have hl:=r.length
 have hn:=zfp
 have fin : EP X pins σ Q w s:=⟨z,H,I,rw',q⟩
 exact subscriptTail_builtinR (x:=w) pl.typeIs slot_tuple_getitem.lookup
   (getItem_tuple (j:=j) (Q:=fun r s'=>r = w /\ EP X pins σ Q r s') pl (by omega) (by omega) (by rw [List.size_toArray,<- hl]; exact h1) (by simpa using ew) ⟨rfl,fin⟩) hs
theorem zrb : IxR X zr9:=by
 intro value slice pins s σ H x y v u Q I rx ry h hs
 obtain ⟨z,i,c,rfl,rfl,hz,he,q⟩:=h
 obtain ⟨t,rfl⟩:=rx
 obtain ⟨t',rfl⟩:=ry
 obtain ⟨j,h1,h2,h3,h4,h5⟩:=zih he
 have hl : z.cps.toList.length = z.length:=by simp [Str.length]
 rw [hl] at h1 h4 h5
 have hn:=zfp
 exact tail_any (typeIs_str s z t) slot_str_getitem.lookup (getItem_str (c:=c) (by
   have e1 : decide (i < -(2 ^ 63 : Int)) = false:=decide_eq_false (by omega)
   have e2 : decide (i ≥ 2 ^ 63) = false:=decide_eq_false (by omega)
   rw [e1,e2,Bool.or_false]) (by rw [h1]; simpa using h2) ⟨.str ⟨#[c]⟩,H,I.tok _,⟨_,rfl⟩,q⟩) hs
def rIx (K : PySem.W.Frag) : R2:=fun x y H Q=>zsi K x y H Q \/ zse K x y H Q \/ zr9 x y H Q
theorem zah : IxR X (rIx X.K):=zpp.or (zrl.or zrb)
theorem zkt (its : List Value) (n j : Nat) (u : Value) : Obj.mapSeq (·.setIfInBounds j u) { cls:=.type "list",data:=.seq its.toArray n } = { cls:=.type "list",data:=.seq (its.set j u).toArray n }:=by
 simp [Obj.mapSeq]
theorem Inv.lst {pins : List (Addr × Obj)} {σ : St} {H : Hp} {s : Shared} {p : Addr} {xs : List V} (I : Inv X pins σ H s) (h : H p = some (.lst xs)) :
   ∃ (its : List Value) (n : Nat),zay xs its /\ s.heap.get? p = some { cls:=.type "list",data:=.seq its.toArray n } /\ xs.length <= sizeLine:=by
 obtain ⟨z,its,n,r,e⟩:=I.hok p _ h
 exact ⟨its,n,r,e,z⟩
theorem Inv.lstUpd {pins : List (Addr × Obj)} {σ : St} {H : Hp} {s : Shared} {p : Addr} {xs ys : List V} {its its' : List Value} {n n' : Nat} {f : Obj -> Obj} (I : Inv X pins σ H s) (h : H p = some (.lst xs))
   (ho : s.heap.get? p = some { cls:=.type "list",data:=.seq its.toArray n }) (hf : f { cls:=.type "list",data:=.seq its.toArray n } = { cls:=.type "list",data:=.seq its'.toArray n' }) (r : zay ys its') (hz : ys.length <= sizeLine) (t : Nat) :
   Inv X pins σ (upd H p (.lst ys)) { s with heap:=s.heap.update p f,toks:=t }:=by
 have e : (s.heap.update p f).get? p = some { cls:=.type "list",data:=.seq its'.toArray n' }:=by
   rw [Heap.get?_update_self f ho (by rw [hf] <;> rfl),hf]
 refine I.write (x:=p) (e:=p) (by rw [h]; trivial) (.inl rfl) (fun b u hb q=>(Heap.get?_update_other _ _ (Ne.symm hb)).trans q) ⟨_,e⟩ ?_
 exact ⟨hz,its',n',r,e⟩
def zqj : V -> V -> V -> Hp -> (Hp -> Prop) -> Prop:=fun o i v H Q=>∃ p xs k j,o = .ref p /\ i = .int k /\ H p = some (.lst xs) /\ ixN xs.length k = some j /\ Q (upd H p (.lst (xs.set j v)))
theorem zgX : zsp X zqj:=by
 intro pins s σ H o i v ov iv u Q I ro ri rv h
 obtain ⟨p,xs,k,j,rfl,rfl,hp,hj,q⟩:=h
 cases ro
 obtain ⟨t,rfl⟩:=ri
 obtain ⟨its,n,r,ho,hz⟩:=I.lst hp
 obtain ⟨h1,h2,h3,h4⟩:=zlF hj
 have hl:=r.length
 have hn:=zfp
 have I' : Inv X pins σ (upd H p (.lst (xs.set j v))) { s with heap:=s.heap.update p (Obj.mapSeq (·.setIfInBounds j u)) } :=
   I.lstUpd hp ho (zkt its n j u) (r.set rv j) (by rw [List.length_set]; exact hz) s.toks
 by_cases h0 : 0 <= k
 . have hk : k.toNat = j:=by
     rw [seqIndex_of h0 h4] at h1
     exact Option.some.inj h1
   exact PySem.W.ki_setAt ho h0 (by omega) (by rw [List.size_toArray,<- hl]; exact h4) (by rw [hk]; exact ⟨_,I',q⟩)
 . have hk : (k + (its.toArray.size : Int)).toNat = j:=by
     rw [seqIndex_neg (by omega) h3] at h1
     rw [List.size_toArray,<- hl]
     exact Option.some.inj h1
   exact PySem.W.ki_setBack ho (by omega) (by rw [List.size_toArray,<- hl]; exact h3) (by omega) (by rw [hk]; exact ⟨_,I',q⟩)
theorem ziF (lo hi : Option Int) (n : Nat) : (sliceBounds lo hi none n).1 = ((HT.sIx n 0 lo : Nat) : Int) /\ (sliceBounds lo hi none n).2.1 = ((HT.sIx n n hi : Nat) : Int) /\ (sliceBounds lo hi none n).2.2 = 1:=by
 refine ⟨?_,?_,rfl⟩
 . cases lo with
   | none=>simp [sliceBounds,HT.sIx]
   | some i =>
     simp only [sliceBounds,HT.sIx,Option.getD_none,show (1 : Int) > 0 by decide,if_true]
     by_cases h : i < 0
     . simp only [h,if_true] <;> omega
     . simp only [h,if_false] <;> omega
 . cases hi with
   | none=>simp [sliceBounds,HT.sIx]
   | some i =>
     simp only [sliceBounds,HT.sIx,Option.getD_none,show (1 : Int) > 0 by decide,if_true]
     by_cases h : i < 0
     . simp only [h,if_true] <;> omega
     . simp only [h,if_false] <;> omega
theorem zhl (its : List Value) (lo hi : Option Int) : slicePick its.toArray lo hi none = ((its.drop (HT.sIx its.length 0 lo)).take (HT.sIx its.length its.length hi - HT.sIx its.length 0 lo)).toArray:=by
 obtain ⟨h1,h2,h3⟩:=ziF lo hi its.toArray.size
 unfold slicePick
 rw [h1,h2,h3]
 simp only [sliceRange_one,pick_run,List.size_toArray] <;> rfl
def zrO (K : PySem.W.Frag) : V -> Option Int -> Option Int -> Hp -> VK -> Prop:=fun x lo hi H Q=>∃ a xs,x = .ref a /\ SqL K H a xs /\ ∀ p,H p = none -> Q (.ref p) (upd H p (.lst (ziv xs lo hi)))
theorem zpO : SlR X (zrO X.K):=by
 intro pins s σ H x v vl vu lo hi sl Q I rx hs pl pu h
 obtain ⟨a,xs,rfl,hx,q⟩:=h
 cases rx
 obtain ⟨its,r,ht,hz⟩:=I.list hx
 have hlen:=r.length
 refine ⟨"list",_,slot_list_getitem.lookup,ht.isList.typeIs,?_⟩
 refine wpAny_getItem_list_slice ht.isList hs pl pu .none (by simp) ?_ (by rw [List.size_toArray] <;> omega)
 rw [zhl,<- hlen]
 refine ⟨.ref s.heap.objs.size,_,I.laid (t':=s.toks) (o:=.lst (ziv xs lo hi)) (fun b ob q=>Heap.get?_push_of_some _ q) (Nat.le_refl _) ?_,rfl,q _ (I.hok.fresh (Nat.le_refl _))⟩
 exact ⟨Nat.le_trans (zfH xs lo hi) hz,_,0,(r.drop (HT.sIx xs.length 0 lo)).take (HT.sIx xs.length xs.length hi - HT.sIx xs.length 0 lo),Heap.get?_push_size _ rfl⟩
def zeX : V -> Bool
 | .non=>true
 | .bl _=>true
 | .int _=>true
 | .str _=>true
 | _=>false
def eqV : V -> V -> Bool
 | .non,.non=>true
 | .bl a,.bl b=>a == b
 | .bl a,.int b=>(if a then 1 else 0) == b
 | .int a,.bl b=>a == (if b then 1 else 0)
 | .int a,.int b=>a == b
 | .str a,.str b=>a == b
 | _,_=>false
theorem zqF {A : Around} {s : Shared} {y x : V} {u v : Value} (ry : zaJ y u) (rx : zaJ x v) (fy : zeX y = true) (fx : zeX x = true) : SeqAt.EqAt A s u v (eqV y x):=by
 cases y with
 | non =>
   cases ry
   cases x with
   | non=>cases rx; exact SeqAt.EqAt.same _
   | bl b=>cases rx; exact SeqAt.EqAt.none_bool b
   | int b=>obtain ⟨t,rfl⟩:=rx; exact SeqAt.EqAt.none_int b t
   | str b=>obtain ⟨t,rfl⟩:=rx; exact SeqAt.EqAt.none_str b t
   | _=>exact absurd (show false = true from fx) Bool.false_ne_true
 | bl a =>
   cases ry
   cases x with
   | non=>cases rx; exact SeqAt.EqAt.bool_none a
   | bl b=>cases rx; exact SeqAt.EqAt.bool_bool a b
   | int b=>obtain ⟨t,rfl⟩:=rx; exact SeqAt.EqAt.bool_int a b t
   | str b=>obtain ⟨t,rfl⟩:=rx; exact SeqAt.EqAt.bool_str a b t
   | _=>exact absurd (show false = true from fx) Bool.false_ne_true
 | int a =>
   obtain ⟨t',rfl⟩:=ry
   cases x with
   | non=>cases rx; exact SeqAt.EqAt.int_none a t'
   | bl b=>cases rx; exact SeqAt.EqAt.int_bool a t' b
   | int b=>obtain ⟨t,rfl⟩:=rx; exact SeqAt.EqAt.int_int a t' b t
   | str b=>obtain ⟨t,rfl⟩:=rx; exact SeqAt.EqAt.int_str a t' b t
   | _=>exact absurd (show false = true from fx) Bool.false_ne_true
 | str a =>
   obtain ⟨t',rfl⟩:=ry
   cases x with
   | non=>cases rx; exact SeqAt.EqAt.str_none a t'
   | bl b=>cases rx; exact SeqAt.EqAt.str_bool a t' b
   | int b=>obtain ⟨t,rfl⟩:=rx; exact SeqAt.EqAt.str_int a t' b t
   | str b=>obtain ⟨t,rfl⟩:=rx; exact SeqAt.EqAt.str_str a t' b t
   | _=>exact absurd (show false = true from fx) Bool.false_ne_true
 | _=>exact absurd (show false = true from fy) Bool.false_ne_true
def eqU (x : V) (u : Value) : Bool:=match u with
 | .none=>eqV .non x
 | .bool b=>eqV (.bl b) x
 | .int i _=>eqV (.int i) x
 | .str z _=>eqV (.str z) x
 | _=>false
theorem zm0 {x y : V} {u : Value} (r : zaJ y u) (f : zeX y = true) : eqU x u = eqV y x:=by
 cases y with
 | non=>cases r; rfl
 | bl b=>cases r; rfl
 | int i=>obtain ⟨t,rfl⟩:=r; rfl
 | str z=>obtain ⟨t,rfl⟩:=r; rfl
 | _=>exact absurd (show false = true from f) Bool.false_ne_true
theorem zeW {x : V} : ∀ {xs : List V} {us : List Value},zay xs us -> xs.all zeX = true -> us.any (eqU x) = xs.any fun y=>eqV y x
 | _,_,.nil,_=>rfl
 | y :: xs,u :: us,.cons r t,f=>by
   rw [List.all_cons,Bool.and_eq_true] at f
   rw [List.any_cons,List.any_cons,zm0 r f.1,zeW t f.2]
theorem zdZ {A : Around} {s : Shared} {x : V} {v : Value} (rx : zaJ x v) (fx : zeX x = true) : ∀ {xs : List V} {us : List Value},zay xs us -> xs.all zeX = true -> ∀ u ∈ us,SeqAt.EqAt A s u v (eqU x u)
 | _,_,.nil,_=>fun u hu=>by cases hu
 | y :: xs,u :: us,.cons r t,f=>fun u' hu=>by
   rw [List.all_cons,Bool.and_eq_true] at f
   rcases List.mem_cons.mp hu with rfl | hu
   . rw [zm0 r f.1]; exact zqF r rx f.1 fx
   . exact zdZ rx fx t f.2 u' hu
def inV (x : V) (xs : List V) : Bool:=xs.any fun y=>eqV y x
def rIn (K : PySem.W.Frag) (neg : Bool) : R2:=fun x y H Q=>∃ p xs,y = .ref p /\ (SqL K H p xs \/ SqT K H p xs) /\ zeX x = true /\ xs.all zeX = true /\ Q (.bl (if neg then !inV x xs else inV x xs)) H
theorem zmi : OpR X (compareOp .In) (rIn X.K false):=by
 intro pins s σ H x y v u Q I rx ry h
 obtain ⟨p,xs,rfl,hq,fx,fs,q⟩:=h
 cases ry
 rcases hq with hq | hq
 . obtain ⟨its,r,pl,hz⟩:=I.list hq
   refine SeqAt.in_listAt (eqU x) pl.isList (fun w hw=>zdZ rx fx r fs w (by simpa using hw)) ⟨.bl _,H,I,rfl,?_⟩
   rw [show its.toArray.any (eqU x) = its.any (eqU x) by simp,zeW r fs]
   exact q
 . obtain ⟨its,r,pl,hz⟩:=I.tuple hq
   refine SeqAt.in_tupleAt (eqU x) pl (fun w hw=>zdZ rx fx r fs w (by simpa using hw)) ⟨.bl _,H,I,rfl,?_⟩
   rw [show its.toArray.any (eqU x) = its.any (eqU x) by simp,zeW r fs]
   exact q
theorem ziG : OpR X (compareOp .NotIn) (rIn X.K true):=by
 intro pins s σ H x y v u Q I rx ry h
 obtain ⟨p,xs,rfl,hq,fx,fs,q⟩:=h
 cases ry
 rcases hq with hq | hq
 . obtain ⟨its,r,pl,hz⟩:=I.list hq
   refine SeqAt.notIn_listAt (eqU x) pl.isList (fun w hw=>zdZ rx fx r fs w (by simpa using hw)) ⟨.bl _,H,I,rfl,?_⟩
   rw [show its.toArray.any (eqU x) = its.any (eqU x) by simp,zeW r fs]
   exact q
 . obtain ⟨its,r,pl,hz⟩:=I.tuple hq
   refine SeqAt.notIn_tupleAt (eqU x) pl (fun w hw=>zdZ rx fx r fs w (by simpa using hw)) ⟨.bl _,H,I,rfl,?_⟩
   rw [show its.toArray.any (eqU x) = its.any (eqU x) by simp,zeW r fs]
   exact q
theorem ziK : zaj X (.builtin "len") (fun xs H Q=>∃ p ys,xs = [.ref p] /\ (SqL X.K H p ys \/ SqT X.K H p ys) /\ Q (.int ys.length) H):=by
 intro pins s σ H xs us Q I r h
 obtain ⟨p,ys,rfl,hq,q⟩:=h
 obtain ⟨u,rfl,rx⟩:=zcR r
 cases rx
 have hn:=zfp
 rcases hq with hq | hq
 . obtain ⟨its,r',pl,hz⟩:=I.list hq
   have hlen:=r'.length
   exact Calls.call_len_list pl.isList (by simp only [List.size_toArray] <;> omega) ⟨.int ys.length,H,I.tok _,⟨s.toks + 1,by rw [List.size_toArray,hlen]⟩,q⟩
 . obtain ⟨its,r',pl,hz⟩:=I.tuple hq
   have hlen:=r'.length
   exact len_tuple pl (by simp only [List.size_toArray] <;> omega) ⟨.int ys.length,H,I.tok _,⟨s.toks + 1,by rw [List.size_toArray,hlen]⟩,q⟩
theorem zhf : zaj X (.type "tuple") (fun xs H Q=>∃ p ys,xs = [.ref p] /\ ((SqL X.K H p ys /\ ∀ l,H l = none -> Q (.ref l) (upd H l (.tup ys))) \/ (SqT X.K H p ys /\ Q (.ref p) H))):=by
 intro pins s σ H xs us Q I r h
 obtain ⟨p,ys,rfl,h⟩:=h
 obtain ⟨u,rfl,rx⟩:=zcR r
 cases rx
 rcases h with ⟨hq,q⟩ | ⟨hq,q⟩
 . obtain ⟨its,r',pl,hz⟩:=I.list hq
   have hlen:=r'.length
   refine call_tuple_list pl.isList (fun h' kp=>?_) (by simp only [List.size_toArray] <;> omega)
   have I1 : Inv X pins σ H { s with heap:=h' }:=I.kept (t':=s.toks) kp
   have I2 : Inv X pins σ (upd H h'.objs.size (.tup ys)) { s with heap:=h'.push { cls:=.type "tuple",data:=.seq its.toArray } } :=
     I1.laid (t':=s.toks) (fun b o e=>Heap.get?_push_of_some _ e) (Nat.le_refl _) (show za9 X.prog X.w _ _ _ (.tup ys) from ⟨hz,its,r',IsTup.new _ _⟩)
   exact ⟨.ref h'.objs.size,_,I2,rfl,q _ (I1.hok.fresh (Nat.le_refl _))⟩
 . obtain ⟨its,r',pl,hz⟩:=I.tuple hq
   exact call_tuple_same pl ⟨.ref p,H,I,rfl,q⟩
def tyV (K : PySem.W.Frag) (T : String) (x : V) (H : Hp) : Prop:=match x with
 | .str _=>T = "str"
 | .int _=>T = "int"
 | .ref p=>(T = "list" /\ ∃ xs,SqL K H p xs) \/ (T = "tuple" /\ ∃ o,K.lookup p = some o /\ o.cls = .type "tuple" /\ o.dict = none) \/
     (T = "dict" /\ ((∃ kvs,H p = some (.dK kvs)) \/ ∃ kvs,H p = some (.dT kvs))) \/ (T = "set" /\ ∃ S n,H p = some (.set S n))
 | _=>False
theorem zqw {pins : List (Addr × Obj)} {σ : St} {H : Hp} {s : Shared} {T : String} {x : V} {v : Value} (I : Inv X pins σ H s) (r : zaJ x v) (ty : tyV X.K T x H) :
   s.TypeIs v T /\ ∀ a,v = .ref a -> ∃ ob,s.heap.get? a = some ob /\ ob.dict = none:=by
 cases x with
 | str z =>
   obtain ⟨t,rfl⟩:=r
   cases (show T = "str" from ty)
   exact ⟨typeIs_str s z t,fun _ e=>nomatch e⟩
 | int i =>
   obtain ⟨t,rfl⟩:=r
   cases (show T = "int" from ty)
   exact ⟨typeIs_int s i t,fun _ e=>nomatch e⟩
 | ref p =>
   cases r
   rcases ty with ⟨rfl,xs,hq⟩ | ⟨rfl,o,hk,hc,hd⟩ | ⟨rfl,hk⟩ | ⟨rfl,S,n,hk⟩
   . obtain ⟨its,_,pl,_⟩:=I.list hq
     refine ⟨pl.isList.typeIs,fun a e=>?_⟩
     cases e
     obtain ⟨o,n,e,c,hd,_⟩:=pl
     exact ⟨o,e,hd⟩
   . refine ⟨⟨o,I.kIn p o hk,hc⟩,fun a e=>?_⟩
     cases e
     exact ⟨o,I.kIn _ o hk,hd⟩
   . have z : ∃ o,s.heap.get? p = some o /\ o.ExactDict:=by
       rcases hk with ⟨kvs,hk⟩ | ⟨kvs,hk⟩
       . obtain ⟨_,_,_,_,o,_,_,e,ex,_⟩:=I.hok p _ hk
         exact ⟨o,e,ex⟩
       . obtain ⟨_,_,_,_,o,_,_,e,ex,_⟩:=I.hok p _ hk
         exact ⟨o,e,ex⟩
     obtain ⟨o,e,ex⟩:=z
     refine ⟨⟨o,e,ex.1⟩,fun a e2=>?_⟩
     cases e2
     exact ⟨o,e,ex.2.1⟩
   . obtain ⟨o,_,_,_,e,ex,_⟩:=I.hok p _ hk
     refine ⟨⟨o,e,ex.1⟩,fun a e2=>?_⟩
     cases e2
     exact ⟨o,e,ex.2.1⟩
 | _=>exact False.elim ty
def tBM (K : PySem.W.Frag) (T : String) (r : V -> List V -> Hp -> VK -> Prop) (to : TE) (t : TA) : TE:=fun σ H Q=>to σ H fun x H1=>tyV K T x H1 /\ t σ H1 fun xs H2=>r x xs H2 Q
variable {o e : Expr} {es : List Expr} {to : TE} {t : TA} {name : Str} {apos cpos : Pos} {T id : String} {r : V -> List V -> Hp -> VK -> Prop}
theorem zeV (pa : PlainAttrs T) (slot : Slot T name id) (hty : typeOf (.builtin id) = pure (.type "method_descriptor")) (hm : MtR X id r) (ho : PE X o to) (ha : PA X (e :: es) t)
   (hbase : attributeBase o name X.env (eval o X.env) = eval o X.env:=by rfl)
   (hfew : ((backTo cpos (starEach (e :: es) X.env)).all (fun x=>!x.1) && (backToKw cpos (keywordEach [] X.env)).all (fun x=>x.1.isSome)
     && decide ((e :: es).length + ([] : List Keyword).length + (if ([] : List Keyword).isEmpty then 0 else 1) < 30)) = true:=by rfl)
   (hline : (apos.endLine == cpos.line) = true:=by rfl) (hs : starEach (e :: es) X.env = (false,eval e X.env) :: starEach es X.env:=by rfl) (hplain : (backTo cpos (starEach es X.env)).any (·.1) = false:=by rfl) :
   PE X (.Call (.Attribute o name apos) (e :: es) [] cpos) (tBM X.K T r to t):=by
 intro pins s σ H Q I h
 refine wpAny_Call_method_late hbase hfew hline rfl (thn (ho pins s σ H _ I h) fun v s1 ⟨x,H1,I1,r1,ty,q1⟩=>?_)
 obtain ⟨h1,h2⟩:=zqw I1 r1 ty
 refine ⟨T,id,pa,slot,hty,h1,h2,?_⟩
 have hA:=ha cpos pins s1 σ H1 _ I1 q1
 rw [hs] at hA ⊢
 refine Calls.callWith_builtin (by show (false || (backTo cpos (starEach es X.env)).any (·.1)) = false; rw [hplain] <;> rfl) (Calls.evalArgs_plain ?_)
 exact thn hA fun us s2 ⟨vs,H2,I2,r2,q2⟩=>hm pins s2 σ H2 x vs v us Q I2 r1 r2 q2
/- xs.append(e),list.index on a module's tuple .. are MtR facts of 06m -/
end
end L2
namespace L2
open PySem PySem.Spec PyProof.Rows
def MtM (X : Cx) (id : String) (r : V -> List V -> Hp -> VK -> Prop) : Prop :=
 ∀ (pins : List (Addr × Obj)) (s : Shared) (σ : St) (H : Hp) (x : V) (xs : List V) (v : Value) (us : List Value) (Q : VK),Inv X pins σ H s -> zaJ x v -> zay xs us -> r x xs H Q ->
   wpAny (model X.prog X.w) X.A (call (.builtin id) (v :: us)) (EP X pins σ Q) X.xe s
theorem zay.one : ∀ {x : V} {us : List Value},zay [x] us -> ∃ u,us = [u] /\ zaJ x u
 | _,_,.cons r .nil=>⟨_,rfl,r⟩
theorem zay.eraseIdx : ∀ {xs : List V} {us : List Value} (i : Nat),zay xs us -> zay (xs.eraseIdx i) (us.eraseIdx i)
 | _,_,_,.nil=>.nil
 | _,_,0,.cons _ t=>t
 | _,_,i + 1,.cons r t=>.cons r (zay.eraseIdx i t)
theorem zay.rep {xs : List V} {us : List Value} (h : zay xs us) : ∀ k : Nat,zay (List.replicate k xs).flatten (List.replicate k us).flatten
 | 0=>.nil
 | k + 1=>by
   rw [List.replicate_succ,List.replicate_succ,List.flatten_cons,List.flatten_cons]
   exact zay.append h (zay.rep h k)
theorem zhZ {α : Type} : ∀ (l : List α) (i : Nat),(l.eraseIdx i).length <= l.length
 | [],_=>Nat.le_refl _
 | _ :: _,0=>Nat.le_succ _
 | _ :: r,i + 1=>Nat.succ_le_succ (zhZ r i)
theorem zhx (its : List Value) : ∀ (k : Nat) (acc : List Value),
   List.foldl (fun x1 x2=>x1 ++ x2) acc.toArray (List.replicate k its.toArray) = (acc ++ (List.replicate k its).flatten).toArray
 | 0,acc=>by simp
 | k + 1,acc=>by
   have e : acc.toArray ++ its.toArray = (acc ++ its).toArray:=by simp
   have e2 : (acc ++ its) ++ (List.replicate k its).flatten = acc ++ (List.replicate (k + 1) its).flatten:=by
     rw [List.replicate_succ,List.flatten_cons,List.append_assoc]
   rw [<- e2,<- zhx its k (acc ++ its),<- e,List.replicate_succ,List.foldl_cons]
section
variable {X : Cx} {pins : List (Addr × Obj)} {σ : St} {H : Hp} {s : Shared} {l b : Addr} {xs ys zs : List V}
theorem Inv.lset {its its' : List Value} {n : Nat} {f : Array Value -> Array Value} {t' : Nat} (I : Inv X pins σ H s) (hH : H l = some (.lst xs))
   (e : s.heap.get? l = some { cls:=.type "list",data:=.seq its.toArray n }) (hf : f its.toArray = its'.toArray) (hv : zay ys its') (hz : ys.length <= sizeLine) :
   Inv X pins σ (upd H l (.lst ys)) { s with heap:=s.heap.update l (Obj.mapSeq f),toks:=t' }:=by
 have q:=PySem.IsL.update e f
 rw [hf] at q
 refine I.write (x:=l) (e:=l) (by rw [hH]; exact trivial) (.inl rfl) (fun b' u hb hu=>(Heap.get?_update_other s.heap (Obj.mapSeq f) (Ne.symm hb)).trans hu) ⟨_,q⟩ ?_
 exact ⟨hz,its',_,hv,q⟩
theorem Inv.lnew {its : List Value} {t' : Nat} (I : Inv X pins σ H s) (hv : zay ys its) (hz : ys.length <= sizeLine) :
   Inv X pins σ (upd H s.heap.objs.size (.lst ys)) { s with heap:=s.heap.push { cls:=.type "list",data:=.seq its.toArray },toks:=t' } :=
 I.laid (fun _ _ q=>Heap.get?_push_of_some _ q) (Nat.le_refl _) ⟨hz,its,0,hv,Heap.get?_push_size _ rfl⟩
theorem Inv.fresh (I : Inv X pins σ H s) : H s.heap.objs.size = none:=I.hok.fresh (Nat.le_refl _)
theorem Inv.lstM (I : Inv X pins σ H s) (hH : H l = some (.lst xs)) : xs.length <= sizeLine /\ ∃ (its : List Value) (n : Nat),zay xs its /\ xs.length = its.length /\ s.heap.get? l = some { cls:=.type "list",data:=.seq its.toArray n }:=by
 obtain ⟨z,its,n,r,e⟩:=I.hok l _ hH
 exact ⟨z,its,n,r,r.length,e⟩
end
section
variable {X : Cx}
def zly : V -> List V -> Hp -> VK -> Prop:=fun x vs H Q=>∃ l xs y,x = .ref l /\ vs = [y] /\ H l = some (.lst xs) /\ xs.length < sizeLine /\ Q .non (upd H l (.lst (xs ++ [y])))
theorem zbL : MtM X "list.append" zly:=by
 intro pins s σ H x vs v us Q I rx rv h
 obtain ⟨l,xs,y,rfl,rfl,hH,hz,q⟩:=h
 cases rx
 obtain ⟨u,rfl,ru⟩:=rv.one
 obtain ⟨z,its,n,r,hl,e⟩:=I.lstM hH
 refine call_meets F.slot_list_append ⟨_,e,rfl⟩ F.entry_list_append (F.args_list_append_2 _ _) (PySem.list_append l its.toArray n u (by rw [List.size_toArray]; omega)) ⟨e,?_⟩
 refine ⟨.non,_,I.lset (its':=its ++ [u]) hH e (by simp) (r.append (.cons ru .nil)) ?_,rfl,q⟩
 rw [List.length_append,List.length_singleton]
 omega
def zoB : V -> List V -> Hp -> VK -> Prop:=fun x vs H Q=>∃ l xs i k y,x = .ref l /\ vs = [.int i] /\ H l = some (.lst xs) /\ -(2 ^ 63) <= i /\ i < 2 ^ 63 /\ seqIndex? i xs.length = some k /\ xs[k]? = some y /\ Q y (upd H l (.lst (xs.eraseIdx k)))
theorem zni : MtM X "list.pop" zoB:=by
 intro pins s σ H x vs v us Q I rx rv h
 obtain ⟨l,xs,i,k,y,rfl,rfl,hH,h1,h2,hk,hy,q⟩:=h
 cases rx
 obtain ⟨u,rfl,ru⟩:=rv.one
 obtain ⟨t,rfl⟩:=ru
 obtain ⟨z,its,n,r,hl,e⟩:=I.lstM hH
 obtain ⟨w,hw,rw'⟩:=r.get hy
 refine call_meets F.slot_list_pop ⟨_,e,rfl⟩ F.entry_list_pop (F.args_list_pop_2 _ _)
   (MeetsSeq.list_pop_at l its.toArray n i t k w (fitsIndex_both h1 h2) (by rw [List.size_toArray,<- hl]; exact hk) (by rw [<- Array.getElem?_toList]; exact hw) (by rw [List.size_toArray]; omega)) ⟨e,?_⟩
 refine ⟨y,_,I.lset (its':=its.eraseIdx k) hH e ?_ (r.eraseIdx k) ?_,rw',q⟩
 . show its.toArray.eraseIdxIfInBounds k = (its.eraseIdx k).toArray
   rw [List.eraseIdxIfInBounds_toArray]
 . have:=zhZ xs k
   omega
def zrf : R2:=fun x y H Q=>∃ l b xs zs,x = .ref l /\ y = .ref b /\ H l = some (.lst xs) /\ H b = some (.lst zs) /\ xs.length + zs.length <= sizeLine /\ ∀ p,H p = none -> Q (.ref p) (upd H p (.lst (xs ++ zs)))
theorem zqY : OpR X (binaryOp .Add) zrf:=by
 intro pins s σ H x y v u Q I rx ry h
 obtain ⟨l,b,xs,zs,rfl,rfl,hH,hB,hz,q⟩:=h
 cases rx
 cases ry
 obtain ⟨z,its,n,r,hl,e⟩:=I.lstM hH
 obtain ⟨z2,its2,n2,r2,hl2,e2⟩:=I.lstM hB
 refine PySem.P.add_list e e2 ?_ (by rw [List.size_toArray,List.size_toArray]; omega)
 have ea : its.toArray ++ its2.toArray = (its ++ its2).toArray:=by simp
 rw [ea]
 exact ⟨.ref _,_,I.lnew (t':=s.toks) (r.append r2) (by rw [List.length_append]; omega),rfl,q _ I.fresh⟩
theorem ziL {α : Type} (xs : List α) (k : Nat) : (List.replicate k xs).flatten.length = k * xs.length:=by
 induction k with
 | zero=>simp
 | succ k ih=>rw [List.replicate_succ,List.flatten_cons,List.length_append,ih,Nat.succ_mul,Nat.add_comm]
end
section
variable {prog : Program} {w : World} {A : Around} {E : Value -> Shared -> Prop} {s : Shared}
end
section
variable {X : Cx}
end
end L2
namespace Att
open PySem PySem.W PySem.Calls PyProof.Rows
theorem zfQ {P : Params} {h : Heap} : ∀ (ns : List Int) (vs : List Value),WellAll P h vs (ns.map WData.int) -> IntsAre vs ns:=by
 intro ns
 induction ns with
 | nil =>
   intro vs w
   rw [List.map_nil] at w
   cases w
   exact .nil
 | cons n ns ih =>
   intro vs w
   rw [List.map_cons] at w
   cases w with
   | cons a b =>
     cases a
     exact .cons _ _ (ih _ b)
theorem zlX {l : OpenLaw} {n : Nat} (hn : l.most = some n) {P : Params} {h : Heap} {args : List WData} {vals : List Value}
   (hpre : l.row.toRowW.claim.pre args = true) (hwl : WellAll P h vals args) :
   ∃ a vs ns,vals = [Value.ref a] /\ args = [WData.list (ns.map WData.int)] /\ h.get? a = some { cls:=.type "list",data:=.seq vs.toArray } /\ IntsAre vs ns /\ ns.length <= n:=by
 have hsh : WShape.hasAll [] args [.list .int] = true:=(pre_splitW hpre).1
 have hc : l.pre.holds [] { args:=args } = true:=(pre_splitW hpre).2
 obtain ⟨d,r,rfl,h1,h2⟩:=hasAllW_cons hsh
 obtain rfl:=hasAllW_nil h2
 obtain ⟨xs,rfl,h3⟩:=hasW_list h1
 obtain ⟨ns,rfl⟩:=items_int h3
 have hlen : ns.length <= n:=by
   unfold OpenLaw.pre at hc
   have h4 : (WTm.not (.lt (.lit (.int (n : Int))) (.len (.arg 0)))).holds [] { args:=[.list (ns.map .int)] } = true:=by
     have h4:=(holds_andW hc).1
     rw [hn] at h4
     exact h4
   have h5:=condW_of h4 (w_not (w_lt w_lit (w_len_list (w_arg rfl))))
   rw [List.length_map] at h5
   refine Nat.le_of_not_lt fun q=>?_
   have q' : (n : Int) < ((ns.length : Nat) : Int):=by omega
   first
     | (rw [decide_eq_true q'] at h5; exact absurd h5 (by decide))
     | (simp at h5; omega)
 cases hwl with
 | cons w1 w2 =>
   cases w2
   cases w1 with
   | list ho hall=>exact ⟨_,_,ns,rfl,rfl,ho,zfQ ns _ hall,hlen⟩
theorem zlQ (l : OpenLaw) (args : List WData) : l.row.toRowW.claim.post args (.bool true) args = true :=
 postW_of (r:=l.row.toRowW) (X:=(true == true))
   (show WShape.has [] (.bool true) .bool = true by first | rfl | decide | simp [WShape.has,WShape.arms,WShape.armsAll])
   (show (WTm.eq .res (.lit (.bool true))).value [] { args:=args,res:=some (.bool true),after:=args } = some (.bool (true == true)) from w_eq_bool (w_res rfl) w_lit) rfl
theorem attach_call {l : OpenLaw} {n : Nat} {q : Program} {loose : List Str} {XP : (Str -> Option Value) -> Heap -> Prop} {YP : World -> Heap -> Prop} {d : DefRec}
   (hn : l.most = some n) (hdf : d.params.defaults = [])
   (call : ∀ (w : World) (s₀ s₁ : Shared) (mg mb : Str -> Option Value) (fa : Addr) (o : Obj) (pm cd doc : Value) (a : Addr) (vs : List Value) (ns : List Int),
     Ground q loose [] XP w s₀ mg mb s₁.heap -> YP w s₁.heap ->
     s₁.heap.get? fa = some o -> o.data = .func (docDef d.name d.params d.body d.scope pm cd doc) -> s₁.heap.CodeRec cd d.name -> mg d.name = some (.ref fa) ->
     s₁.heap.get? a = some { cls:=.type "list",data:=.seq vs.toArray } -> IntsAre vs ns -> ns.length <= n -> s₁.gens = #[] ->
     codeAny (model l.prog w) callerA (.call (.ref fa) ⟨[.ref a],[]⟩) (fun r s'=>r = .ok (.ret (.bool true)) /\ OldK s₁.heap s'.heap /\ s'.os = s₁.os /\ AllBare s'.gens) s₁) :
   WalkO q loose XP YP l.row.toRowW d [] (fun f vs=>PySem.call f vs):=by
 intro w s₀ s₁ mg mb G Y fa o pm cd doc dV kV ho hd hcd hD hmg hg args vals as hpre hlay hrd hwl hlo
 obtain rfl : dV = .none:=Dflts.none hD hdf
 obtain rfl : kV = .none:=Dflts.noKw hD
 obtain ⟨a,vs,ns,rfl,rfl,hobj,hints,hlen⟩:=zlX hn hpre hwl
 refine enter_call (codeAny_mono (call w s₀ s₁ mg mb fa o pm cd doc a vs ns G Y ho (fd_plain hd) hcd hmg hobj hints hlen hg) fun r s' hq=>?_)
 obtain ⟨rfl,h2,h3,h4⟩:=hq
 exact ⟨.inl ⟨.bool true,.bool true,[],rfl,fun _=>rfl,.bool true,zlQ l _,fun _=>⟨List.Pairwise.nil,fun _ hm=>(nomatch hm)⟩⟩,h2,h3,h4⟩
section
variable {prog : Program} {w : World} {A : Around} {E : Value -> Shared -> Prop} {s : Shared} {K : Frag}
def zsI (h : Heap) (L d : Addr) : List (Addr × Obj):=(List.range h.objs.size).filterMap fun a=>if a = L \/ a = d then none else (h.get? a).map fun o=>(a,o)
end
end Att
namespace L2
open PySem PySem.Spec PyProof.Rows
theorem zfj : ∀ {vs : List Value} {ns : List Int},IntsAre vs ns -> zay (ns.map V.int) vs
 | _,_,.nil=>.nil
 | _,_,.cons n t h=>.cons ⟨t,rfl⟩ (zfj h)
def zo3 (H : Hp) : Prop:=∀ b,H b = none \/ ∃ o xs,H b = some (.frz o (.lst xs))
theorem zm6 {P : Program} {w : World} {K : PySem.W.Frag} {mg mb : Str -> Option Value} {CX : CXT} {k : Nat} {fa a : Addr} {fd : FuncData} {x : Str} {sp : Sp} {s₁ : Shared} {vs : List Value} {ns : List Int}
   (KX : K.In s₁.heap) (hns : s₁.heap.Ns mainGlobals mg) (hb : s₁.heap.Ns builtinsNs mb) (hbb : ∀ x : Str,x ≠ "__name__" -> mb x = bootBuiltins x) (hlim : s₁.heap.NoLimit) (hg : s₁.gens = #[])
   (ha : s₁.heap.get? a = some { cls:=.type "list",data:=.seq vs.toArray }) (hi : IntsAre vs ns) (hl : ns.length <= sizeLine) (hr : zdJ k callerA)
   (F : ∀ base : Heap,K.In base -> base.Ns mainGlobals mg -> zbr P w K mg base CX k fa fd [x] sp) (hbind : ∀ (s : Shared) (u : Value),BindsTo s fd ⟨[u],[]⟩ [(x,u)])
   (hsp : ∀ H : Hp,zo3 H -> SqL K H a (ns.map V.int) -> sp [.ref a] H (fun v _=>v = .bl true) fun _ _ _=>False)
   (hCX : ∀ H e s',CX [] H s₁ (fun _ _ _=>False) e s' -> False) :
   codeAny (model P w) callerA (.call (.ref fa) ⟨[.ref a],[]⟩) (fun r s'=>r = .ok (.ret (.bool true)) /\ OldK s₁.heap s'.heap /\ s'.os = s₁.os /\ AllBare s'.gens) s₁:=by
 have rv:=zfj hi
 have lenV:=hi.length
 -- from an abstract heap in which nothing but the script may be tracked
 have core : ∀ H : Hp,zo3 H -> SqL K H a (ns.map V.int) -> HOk P w H s₁.heap -> (∀ b,H b ≠ none -> b = a) -> (H a ≠ none -> K.lookup a = none) ->
     codeAny (model P w) callerA (.call (.ref fa) ⟨[.ref a],[]⟩) (fun r s'=>r = .ok (.ret (.bool true)) /\ OldK s₁.heap s'.heap /\ s'.os = s₁.os /\ AllBare s'.gens) s₁:=by
   intro H hO hS hok hA hK
   have base_of : ∀ {b : Addr} {o : Obj},s₁.heap.get? b = some o -> H b = none -> (ziu s₁.heap H).get? b = some o:=fun e n=>znG e n
   have noA : ∀ {b : Addr} {o : Obj} {es : Array DictEntry} {ep : Nat},s₁.heap.get? b = some o -> o.data = .dict es ep -> H b = none:=fun {b o es ep} e d=>by
     cases q : H b with
     | none=>rfl
     | some u =>
       have e' : b = a:=hA b (by rw [q]; simp)
       subst e'
       rw [ha] at e; cases e
       have d' : Data.seq vs.toArray _ = Data.dict es ep:=d
       cases d'
   have nsK : ∀ {b : Addr} {m : Str -> Option Value},s₁.heap.Ns b m -> (ziu s₁.heap H).Ns b m:=fun {b m} ⟨o,es,ep,e,d,r⟩=>⟨o,es,ep,base_of e (noA e d),d,r⟩
   have hKb : K.In (ziu s₁.heap H):=fun b o e=>base_of (KX b o e) (by
     cases q : H b with
     | none=>rfl
     | some u =>
       have e' : b = a:=hA b (by rw [q]; simp)
       subst e'
       rw [hK (by rw [q]; simp)] at e; cases e)
   have hM : Mod K mg (ziu s₁.heap H):=⟨hKb,nsK hns,⟨mb,nsK hb,hbb⟩,let ⟨mc,h1,h2⟩:=hlim; ⟨mc,nsK h1,h2⟩⟩
   have e0 : znO P w K mg (ziu s₁.heap H) callerA [] s₁ H:=⟨rfl,hM,fun b o e=>zpj e,Nat.le_of_eq (zmE _ _),trivial,fun b hb=>absurd (show b ∈ ([] : List Addr) from hb) (by simp),hok,.of_eq hg⟩
   refine codeAny_mono ((F _ hKb (nsK hns)).run callerA [] s₁ H ⟨[.ref a],[]⟩ [.ref a] [.ref a] _ _ hr e0 (hbind s₁ (.ref a)) (.cons rfl .nil) (hsp H hO hS)) fun r s' h=>?_
   cases r with
   | error e=>exact (hCX H e s' h).elim
   | ok fl =>
     cases fl with
     | next=>exact False.elim h
     | brk=>exact False.elim h
     | cont=>exact False.elim h
     | ret u =>
       obtain ⟨v,H',os,bare,un,hok',r',q⟩:=h
       have q' : v = .bl true:=q
       subst q'
       obtain rfl : u = Value.bool true:=r'
       refine ⟨rfl,OldK.of_keep fun b o e=>?_,os,bare⟩
       cases q : H b with
       | none=>exact un.keep b o e q (by intro z; exact absurd (show b ∈ ([] : List Addr) from z) (by simp)) (by simp)
       | some u =>
         rcases hO b with z | ⟨ob,xs,z⟩
         . rw [q] at z; cases z
         . have z2:=un.frzs b ob _ z
           obtain ⟨e1,_⟩:=hok b _ z
           obtain ⟨e2,_⟩:=hok' b _ z2
           rw [e] at e1; cases e1
           exact e2
 cases hk : K.lookup a with
 | some o =>
   -- the script is one of the module's own objects
   have e:=KX a o hk
   rw [ha] at e
   cases e
   refine core (fun _=>none) (fun _=>.inl rfl) (.inr ⟨_,vs.toArray,_,hk,rfl,rfl,rfl,by rw [List.size_toArray,lenV]; exact hl,by simpa using rv⟩) (fun b u z=>by have z' : (none : Option HO) = some u:=z; cases z') (fun b z=>absurd rfl z) fun z=>absurd rfl z
 | none =>
   refine core (fun b=>if b = a then some (.frz { cls:=.type "list",data:=.seq vs.toArray } (.lst (ns.map V.int))) else none) (fun b=>?_) (.inl (.inr ⟨{ cls:=.type "list",data:=.seq vs.toArray },if_pos rfl⟩)) (fun b u z=>?_) (fun b z=>?_) fun _=>hk
   . by_cases hb : b = a
     . exact .inr ⟨_,_,if_pos hb⟩
     . exact .inl (if_neg hb)
   . by_cases hb : b = a
     . have z':=(if_pos hb).symm.trans z
       cases z'
       subst hb
       exact ⟨ha,by rw [List.length_map]; exact hl,vs,_,rv,ha⟩
     . have z':=(if_neg hb).symm.trans z
       cases z'
   . by_cases hb : b = a
     . exact hb
     . exact absurd (if_neg hb) z
end L2
namespace L2
open PySem PySem.Spec PyProof.Rows
abbrev KOf {K : PySem.W.Frag} {h : Heap} (_ : K.In h) : PySem.W.Frag:=K
theorem walk_of {l : PySem.W.OpenLaw} {n k : Nat} {q : Program} {loose : List Str} {XP : (Str -> Option Value) -> Heap -> Prop} {YP : World -> Heap -> Prop} {d : DefRec} {K : Params -> PySem.W.Frag} {CX : World -> CXT} {sp : World -> Sp} {x : Str}
   (hn : l.most = some n) (hn2 : n <= sizeLine) (hdf : d.params.defaults = []) (hr : zdJ k callerA)
   (hY : ∀ (w : World) (h : Heap),YP w h -> (K w.params).In h)
   (F : ∀ (w : World) (mg : Str -> Option Value) (fa : Addr) (h : Heap),(K w.params).In h -> h.Ns mainGlobals mg -> mg d.name = some (.ref fa) ->
     ∃ fd : FuncData,(∀ (s : Shared) (u : Value),BindsTo s fd ⟨[u],[]⟩ [(x,u)]) /\
       ∀ base : Heap,(K w.params).In base -> base.Ns mainGlobals mg -> zbr l.prog w (K w.params) mg base (CX w) k fa fd [x] (sp w))
   (hsp : ∀ (w : World) (H : Hp) (a : Addr) (ns : List Int),ns.length <= n -> zo3 H -> SqL (K w.params) H a (ns.map V.int) -> sp w [.ref a] H (fun v _=>v = .bl true) fun _ _ _=>False)
   (hCX : ∀ (w : World) (H : Hp) (s : Shared) (e : Value) (s' : Shared),CX w [] H s (fun _ _ _=>False) e s' -> False) :
   PySem.W.WalkO q loose XP YP l.row.toRowW d [] (fun f vs=>PySem.call f vs):=by
 refine Att.attach_call hn hdf fun w s₀ s₁ mg mb fa o pm cd doc a vs ns G Y ho hd hcd hmg hobj hints hlen hg=>?_
 have KX:=hY w _ Y
 obtain ⟨fd,hb,hF⟩:=F w mg fa _ KX G.T.g hmg
 exact zm6 KX G.T.g G.T.b G.T.builtins G.T.nolimit hg hobj hints (Nat.le_trans hlen hn2) hr hF hb (fun H hO hS=>hsp w H a ns hlen hO hS) fun H e s'=>hCX w H s₁ e s'
end L2
namespace L2
open PySem PySem.Spec PyProof.Rows
def zaw (s : Stmt) : Arguments:=match s with
 | .FunctionDef _ a _ _ _ _ _ _ _ _=>a
 | _=>{ posonlyargs:=[],args:=[],vararg:=none,kwonlyargs:=[],kw_defaults:=[],kwarg:=none,defaults:=[] }
def zau (s : Stmt) : List Stmt:=match s with
 | .FunctionDef _ _ b _ _ _ _ _ _ _=>b
 | _=>[]
def zac (s : Stmt) : Scope:=match s with
 | .FunctionDef _ _ _ _ _ _ sc _ _ _=>sc
 | _=>{ kind:=.function,names:=[],isGenerator:=false,isCoroutine:=false }
abbrev CX0 : CXT:=fun _ _ _ _ _ _=>False
abbrev E0 : XK:=fun _ _ _=>False
theorem zat {X : Cx} : ziz CX0 X E0:=fun _ _ _ _ _ _ _ h=>h.elim
structure Fun (K : PySem.W.Frag) (x qual : Str) (st : Stmt) (f : Addr) (fd : FuncData) : Prop where
 ex : ∃ (oc : Value) (od : Option Addr) (kV doc pm : Value) (an : Option Addr) (cdv ct : Value) (osl : Array (Option Value)),
   fd = PySem.W.fnOf x qual (zaw st) (zau st) (zac st) .none kV doc pm an cdv ct /\ K.lookup f = some ⟨oc,od,.func fd,osl⟩ /\ PySem.W.codeIn K cdv qual = true
 kp : PySem.W.keepIn K (.ref f) = true
section
variable {P : Program} {w : World} {K : PySem.W.Frag} {mg : Str -> Option Value} {base : Heap}
theorem Fun.ok {x qual : Str} {st : Stmt} {f : Addr} {fd : FuncData} {N ps : List Str} {k : Nat} {sp : Sp} (F : Fun K x qual st f fd) (S : zav N ps (zac st)) (len : ∀ vs H Q E,sp vs H Q E -> vs.length = ps.length)
   (hbody : ∀ (cdv : Value) (A : Around) (outer : List Env) (s : Shared) (H : Hp) (vs : List V) (Q : VK) (E : XK),zdJ k (A.deeper (envOfC qual (zac st) s.heap.objs.size f cdv)) -> sp vs H Q E ->
     ∃ t,PSs (zbp CX0 P w K mg base N qual (zac st) f cdv A outer s H E).nox (zau st) t /\ t { nx:=fun _ H'=>Q .non H',rt:=Q } (start N vs) H) : zbr P w K mg base CX0 (k + 1) f fd ps sp:=by
 obtain ⟨oc,od,kV,doc,pm,an,cdv,ct,osl,rfl,lk,hcd⟩:=F.ex
 refine zpT lk hcd S len fun A outer s H vs Q E hr hsp=>?_
 obtain ⟨t,h,q⟩:=hbody cdv A outer s H vs Q E hr hsp
 exact ⟨t,h.nox,q⟩
theorem Fun.binds {x qual : Str} {st : Stmt} {f : Addr} {fd : FuncData} {ps : List Str} (F : Fun K x qual st f fd)
   (h : ∀ (kV doc pm : Value) (an : Option Addr) (cdv ct : Value) (us : List Value),us.length = ps.length -> bindArgs (PySem.W.fnOf x qual (zaw st) (zau st) (zac st) .none kV doc pm an cdv ct) ⟨us,[]⟩ = pure (ps.zip us)) : za0 K fd ps []:=by
 obtain ⟨oc,od,kV,doc,pm,an,cdv,ct,osl,rfl,lk,hcd⟩:=F.ex
 exact .all (h kV doc pm an cdv ct)
theorem zaP {x qual : Str} {st : Stmt} {f : Addr} {oc : Value} {od an : Option Addr} {osl : Array (Option Value)} {kV doc pm cdv ct : Value} (l : K.lookup f = some ⟨oc,od,.func (PySem.W.fnOf x qual (zaw st) (zau st) (zac st) .none kV doc pm an cdv ct),osl⟩)
   (c : PySem.W.codeIn K cdv qual = true) (k : PySem.W.keepIn K (.ref f) = true) : Fun K x qual st f (PySem.W.fnOf x qual (zaw st) (zau st) (zac st) .none kV doc pm an cdv ct):=⟨⟨oc,od,kV,doc,pm,an,cdv,ct,osl,rfl,l,c⟩,k⟩
end
theorem zbH {n : Nat} (h : n <= 1000) : n < sizeLine:=Nat.lt_of_le_of_lt h (by decide)
section
variable {X : Cx}
theorem pv (i : Nat) {x : Str} {pos : Pos} (hN : X.N[i]? = some x:=by rfl) (hv : Vis X.env.scope x:=by first | exact Or.inl rfl | exact Or.inr (Or.inl rfl) | exact Or.inr (Or.inr rfl)) (hd : (x == ("__debug__" : Str)) = false:=by decide)
   (hcd : (x == ("__classdict__" : Str)) = false:=by decide) : PE X (.Name x pos) (ziD i):=zqJ hN hv hd hcd
end
theorem zpz {A B : Prop} (h : B) : if false = true then A else B:=by
 rw [if_neg Bool.false_ne_true]
 exact h
theorem zma {A B : Prop} (h : A) : if true = true then A else B:=by
 rw [if_pos rfl]
 exact h
def zaf (H H' : Hp) : Prop:=∀ b o,H b = some o -> H' b = some o
theorem zaf.refl (H : Hp) : zaf H H:=fun _ _ h=>h
theorem zaf.trans {H H1 H2 : Hp} (a : zaf H H1) (b : zaf H1 H2) : zaf H H2:=fun c o h=>b c o (a c o h)
theorem zaf.seq {K : PySem.W.Frag} {H H' : Hp} {a : Addr} {xs : List V} (e : zaf H H') (h : SqL K H a xs) : SqL K H' a xs:=by
 rcases h with (h | ⟨o,h⟩) | h
 . exact .inl (.inl (e _ _ h))
 . exact .inl (.inr ⟨o,e _ _ h⟩)
 . exact .inr h
end L2
namespace GM
structure Bd (n : Nat) (x : Int) : Prop where
 lt : x.natAbs < 2 ^ n
theorem Bd.mono {m n : Nat} {x : Int} (h : Bd m x) (e : m <= n) : Bd n x:=⟨Nat.lt_of_lt_of_le h.lt (Nat.pow_le_pow_right (by decide) e)⟩
theorem Bd.log {n : Nat} {x : Int} (h : Bd n x) (hn : 0 < n) : x.natAbs.log2 < n:=by
 by_cases e : x.natAbs = 0
 . rw [e]; exact hn
 . exact (Nat.log2_lt e).mpr h.lt
structure Bdr (n : Nat) (x : Rat) : Prop where
 t : Bd n x.num
 b : Bd n (x.den : Int)
theorem Bd.of128 {m : Int} (h1 : -100000000000000000000000000000000000000 <= m) (h2 : m <= 100000000000000000000000000000000000000) : Bd 128 m:=⟨by
 have e : (2 : Nat) ^ 128 = 340282366920938463463374607431768211456:=by decide
 rw [e]
 omega⟩
def shf (a b : Rat) : Nat -> Rat
 | 0=>0
 | n + 1=>a * shf a b n + b
def push (a b : Rat) : Nat -> Rat -> Rat
 | 0,x=>x
 | n + 1,x=>a * push a b n x + b
end GM
namespace GM
end GM
namespace GM
def zpF (a b : Rat) (n : Nat) (xs : List Rat) (i : Nat) : List Rat:=(xs.map fun x=>push a b n (x + (1 - xs.getD i 0))).set i 0
def zkJ (a b : Rat) (ns : List Int) (xs : List Rat) : Nat -> List Rat
 | 0=>xs
 | k + 1=>zpF a b (ns.getD k 0).toNat (zkJ a b ns xs k) k
def zsv (a b : Rat) (n : Nat) (xs : List Rat) : List Rat:=(xs.tail.map fun y=>push a b n (y + (1 - xs.headD 0))) ++ [0]
def turned (a b : Rat) (ns : List Int) (xs : List Rat) : Nat -> List Rat
 | 0=>xs
 | k + 1=>zsv a b (ns.getD k 0).toNat (turned a b ns xs k)
end GM
namespace GM
end GM
namespace GM
theorem getD_mem {α : Type} {xs : List α} {d : α} {i : Nat} (h : i < xs.length) : xs.getD i d ∈ xs:=by
 rw [List.getD_eq_getElem?_getD,List.getElem?_eq_getElem h]
 exact List.getElem_mem h
structure zsw (x : Rat) : Prop where
 nn : 0 <= x
 lt : x < 1
 den : x.den <= 60
def mx (m : Rat) (l : List Rat) : Rat:=l.foldl (fun m x=>if m < x then x else m) m
def zoJ (xs : List Rat) : Rat:=mx (xs.getD 0 0) xs
end GM
namespace GM
def zrV (ps : List Rat) (left : List Nat) : List Nat:=left.filter fun w=>!decide (ps.getD w 0 < 1)
def ziq (left wave : List Nat) : List Nat:=left.filter fun w=>!decide (w ∈ wave)
def zoi (f g : Rat) (ps : List Rat) (l : List Nat) : List Rat:=l.foldl (fun ps w=>ps.set w (f * ps.getD w 0 + g)) ps
def ziN (a b : Rat) : Nat -> List Rat -> List Nat -> List (List Nat) × (List Nat × List Rat)
 | 0,ps,left=>([],left,ps)
 | n + 1,ps,left=>match zrV ps left with
   | []=>([],left,ps)
   | w :: ws=>((w :: ws) :: (ziN a b n (zoi (a ^ (w :: ws).length) (shf a b (w :: ws).length) ps (ziq left (w :: ws))) (ziq left (w :: ws))).1,(ziN a b n (zoi (a ^ (w :: ws).length) (shf a b (w :: ws).length) ps (ziq left (w :: ws))) (ziq left (w :: ws))).2)
def zrq (left : List Nat) (ps : List Rat) : List Rat:=(List.range ps.length).map fun i=>if i ∈ left then ps.getD i 0 else 0
def zss (xs : List Rat) : List Rat:=xs.map (· + (1 - zoJ xs))
def zoe (a b : Rat) (xs : List Rat) : List (List Nat) × (List Nat × List Rat):=ziN a b xs.length (zss xs) (List.range xs.length)
def zmb (a b : Rat) (xs : List Rat) : List (List Nat):=(zoe a b xs).1
def zqG (a b : Rat) (xs : List Rat) : List Rat:=zrq (zoe a b xs).2.1 (zoe a b xs).2.2
def zno (a b : Rat) (xs : List Rat) : Nat -> List Rat
 | 0=>xs
 | k + 1=>zqG a b (zno a b xs k)
def znX (a b : Rat) (xs : List Rat) : Nat -> Rat
 | 0=>0
 | k + 1=>znX a b xs k + (1 - zoJ (zno a b xs k))
end GM
namespace GM
structure zsQ (l : List Rat) : Prop where
 pw : l.Pairwise (· > ·)
 nn : ∀ y ∈ l,0 <= y
structure zof (xs row : List Rat) (fl : Nat -> Nat) : Prop where
 at' : ∀ w,w < xs.length -> xs.getD w 0 = row.getD (fl w) 0
 lt : ∀ w,w < xs.length -> fl w < row.length
def zsJ (n : Nat) (fl : Nat -> Nat) (c : Nat) : List Nat:=(List.range n).filter fun w=>decide (fl w = c)
end GM
namespace GM
structure zsZ (xs row : List Rat) (fl : Nat -> Nat) (ns : List Int) : Prop where
 pl : zof xs row fl
 fall : zsQ row
 one : row.getD 0 0 < 1
 len : ns.length = row.length
 some : ∀ c,c < row.length -> ∃ w,w < xs.length /\ fl w = c
 size : ∀ c,c < row.length -> (ns.getD c 0).toNat = (zsJ xs.length fl c).length
end GM
namespace GM
def zlo (xs : List Rat) (v : Rat) : List Nat:=(List.range xs.length).filter fun w=>decide (xs.getD w 0 = v)
def zjn : Nat -> List Rat -> List Rat
 | 0,_=>[]
 | _ + 1,[]=>[]
 | n + 1,x :: l=>zoJ (x :: l) :: zjn n ((x :: l).filter fun y=>!decide (y = zoJ (x :: l)))
def zbz (xs : List Rat) : List Rat:=zjn xs.length xs
end GM
namespace GM
def zo5 (xs : List Rat) (w : Nat) : Nat:=(zbz xs).idxOf (xs.getD w 0)
def zf6 (xs : List Rat) : List Int:=(zbz xs).map fun v=>((zlo xs v).length : Int)
end GM
namespace GM
def zpQ (a b : Rat) (ns : List Int) (row : List Rat) : Nat -> Rat
 | 0=>0
 | k + 1=>zpQ a b ns row k + (1 - (zkJ a b ns row k).getD k 0)
end GM
namespace GM
structure zsX (xs : List Rat) : Prop where
 nn : ∀ x ∈ xs,0 <= x
 lt : ∀ x ∈ xs,x < 1
structure zs0 (a b : Rat) (xs : List Rat) : Prop where
 waves : ∀ t,t < (zbz xs).length -> zmb a b (zno a b xs t) = [zlo xs ((zbz xs).getD t 0)]
 vals : zbz (zno a b xs (zbz xs).length) = zkJ a b (zf6 xs) (zbz xs) (zbz xs).length
 sizes : zf6 (zno a b xs (zbz xs).length) = zf6 xs
 hour : znX a b xs (zbz xs).length = zpQ a b (zf6 xs) (zbz xs) (zbz xs).length
end GM
namespace GM
def zje : List Int -> List Rat -> List Rat
 | n :: ns,x :: xs=>List.replicate n.toNat x ++ zje ns xs
 | _,_=>[]
structure zsU (zs : List Rat) (ns : List Int) (row : List Rat) : Prop where
 perm : zs.Perm (zje ns row)
 len : ns.length = row.length
 pos : ∀ n ∈ ns,1 <= n
 fall : row.Pairwise (· > ·)
end GM
set_option linter.all false
namespace GM
def seg (n : Nat) (fl : Nat -> Nat) (s t : Nat) : List Nat:=(List.range n).filter fun w=>decide (s <= fl w) && decide (fl w < t)
inductive zoE (n : Nat) (fl : Nat -> Nat) : Nat -> List (List Nat) -> Nat -> Prop
 | nil (t : Nat) : zoE n fl t [] t
 | cons {t u v : Nat} {ws : List (List Nat)} : t < u -> zoE n fl u ws v -> zoE n fl t (seg n fl t u :: ws) v
structure zsO (xs ys : List Rat) (waves : List (List Nat)) (v : Nat) : Prop where
 v1 : 1 <= v
 vm : v <= (zbz xs).length
 first : ∃ ws,waves = seg xs.length (zo5 xs) 0 1 :: ws /\ zoE xs.length (zo5 xs) 1 ws v
 vals : ∃ (A B : Rat),0 < A /\ zbz ys = ((zbz xs).drop v).map (fun x=>A * x + B) ++ [0] /\ (∀ x ∈ (zbz xs).drop v,0 < A * x + B)
 at' : zof ys (zbz ys) (fun w=>if zo5 xs w < v then (zbz xs).length - v else zo5 xs w - v)
 len : ys.length = xs.length
end GM
set_option Elab.async false
set_option linter.all false
set_option maxRecDepth 100000
namespace L2
open PySem PySem.Spec PyProof.Rows GM
section
variable {K : PySem.W.Frag} {H H' H2 : Hp} {a p : Addr} {xs ys : List V} {o : HO}
theorem zaf.upd (h : H p = none) : zaf H (upd H p o):=fun b u e=>by
 rw [zbj (zaz e h)]
 exact e
theorem zaf.sqT (s : zaf H H') (h : SqT K H a xs) : SqT K H' a xs:=by
 rcases h with (h | ⟨o,h⟩) | h
 . exact .inl (.inl (s _ _ h))
 . exact .inl (.inr ⟨o,s _ _ h⟩)
 . exact .inr h
structure za7 (H H' : Hp) : Prop where
 t : ∀ b xs,H b = some (.tup xs) -> H' b = some (.tup xs)
 f : ∀ b o u,H b = some (.frz o u) -> H' b = some (.frz o u)
theorem zaf.keep (s : zaf H H') : za7 H H':=⟨fun b xs h=>s _ _ h,fun b o u h=>s _ _ h⟩
theorem za7.refl (H : Hp) : za7 H H:=(zaf.refl H).keep
theorem za7.trans (a : za7 H H') (b : za7 H' H2) : za7 H H2:=⟨fun c xs h=>b.t _ _ (a.t _ _ h),fun c o u h=>b.f _ _ _ (a.f _ _ _ h)⟩
theorem za7.sqT (k : za7 H H') (h : SqT K H a xs) : SqT K H' a xs:=by
 rcases h with (h | ⟨o,h⟩) | h
 . exact .inl (.inl (k.t _ _ h))
 . exact .inl (.inr ⟨o,k.f _ _ _ h⟩)
 . exact .inr h
def SqF (K : PySem.W.Frag) (H : Hp) (a : Addr) (xs : List V) : Prop :=
 (∃ o,H a = some (.frz o (.lst xs))) \/
   ∃ (o : Obj) (its : Array Value) (n : Nat),K.lookup a = some o /\ o.cls = .type "list" /\ o.dict = none /\ o.data = .seq its n /\ its.size <= sizeLine /\ zay xs its.toList
theorem SqF.sq (h : SqF K H a xs) : SqL K H a xs:=by
 rcases h with ⟨o,h⟩ | h
 . exact .inl (.inr ⟨o,h⟩)
 . exact .inr h
theorem za7.sqF (k : za7 H H') (h : SqF K H a xs) : SqF K H' a xs:=by
 rcases h with ⟨o,h⟩ | h
 . exact .inl ⟨o,k.f _ _ _ h⟩
 . exact .inr h
def Exc (p : Addr) (H H' : Hp) : Prop:=∀ b o,b ≠ p -> H b = some o -> H' b = some o
theorem Exc.keep (e : Exc p H H') (h : H p = some (.lst xs)) : za7 H H' :=
 ⟨fun b ys hb=>e b _ (zpZ hb h (by intro z; cases z)) hb,fun b o u hb=>e b _ (zpZ hb h (by intro z; cases z)) hb⟩
theorem zaf.exc (s : zaf H H') : Exc p H H':=fun b o _ h=>s b o h
theorem Exc.refl (p : Addr) (H : Hp) : Exc p H H:=fun _ _ _ h=>h
theorem Exc.trans (a : Exc p H H') (b : Exc p H' H2) : Exc p H H2:=fun c o n h=>b c o n (a c o n h)
theorem Exc.upd (p : Addr) (H : Hp) (o : HO) : Exc p H (upd H p o):=fun b u n h=>by
 rw [zbj n]
 exact h
theorem Exc.at (e : Exc p H H') {q : Addr} {u : HO} (n : q ≠ p) (h : H q = some u) : H' q = some u:=e q u n h
end
mutual
def Is (K : PySem.W.Frag) (H : Hp) : V -> PyData -> Prop
 | v,.none=>v = .non
 | v,.bool b=>v = .bl b
 | v,.int i=>v = .int i
 | v,.str x=>v = .str x
 | v,.tuple ds=>∃ a xs,v = .ref a /\ SqT K H a xs /\ IsAll K H xs ds
 | v,.list ds=>∃ a xs,v = .ref a /\ SqL K H a xs /\ IsAll K H xs ds
 | v,.dict _=>∃ a kvs,v = .ref a /\ H a = some (.dK kvs)
def IsAll (K : PySem.W.Frag) (H : Hp) : List V -> List PyData -> Prop
 | xs,[]=>xs = []
 | xs,d :: ds=>∃ x r,xs = x :: r /\ Is K H x d /\ IsAll K H r ds
end
section
variable {K : PySem.W.Frag} {H H' : Hp} {v : V} {xs : List V} {ds : List PyData} {d : PyData}
theorem zaT {i : Int} : Is K H v (.int i) ↔ v = .int i:=by rw [Is]
theorem zdv {b : Bool} : Is K H v (.bool b) ↔ v = .bl b:=by rw [Is]
theorem ze7 {x : Str} : Is K H v (.str x) ↔ v = .str x:=by rw [Is]
theorem zed : Is K H v .none ↔ v = .non:=by rw [Is]
theorem zaH : Is K H v (.tuple ds) ↔ ∃ a xs,v = .ref a /\ SqT K H a xs /\ IsAll K H xs ds:=by rw [Is]
theorem zaM : Is K H v (.list ds) ↔ ∃ a xs,v = .ref a /\ SqL K H a xs /\ IsAll K H xs ds:=by rw [Is]
theorem zix {kv : List (PyData × PyData)} : Is K H v (.dict kv) ↔ ∃ a kvs,v = .ref a /\ H a = some (.dK kvs):=by rw [Is]
theorem za4 : IsAll K H xs [] ↔ xs = []:=by rw [IsAll]
theorem zaA : IsAll K H xs (d :: ds) ↔ ∃ x r,xs = x :: r /\ Is K H x d /\ IsAll K H r ds:=by rw [IsAll]
theorem IsAll.cons (h : Is K H v d) (t : IsAll K H xs ds) : IsAll K H (v :: xs) (d :: ds):=zaA.mpr ⟨v,xs,rfl,h,t⟩
theorem IsAll.nil : IsAll K H [] []:=za4.mpr rfl
theorem IsAll.length : ∀ {ds : List PyData} {xs : List V},IsAll K H xs ds -> xs.length = ds.length
 | [],_,h=>by rw [za4.mp h]; rfl
 | d :: ds,_,h=>by
   obtain ⟨x,r,rfl,_,t⟩:=zaA.mp h
   rw [List.length_cons,List.length_cons,IsAll.length t]
theorem IsAll.get : ∀ {ds : List PyData} {xs : List V} {i : Nat} {d : PyData},IsAll K H xs ds -> ds[i]? = some d -> ∃ x,xs[i]? = some x /\ Is K H x d
 | [],_,_,_,_,e=>by simp at e
 | d :: ds,_,0,_,h,e=>by
   obtain ⟨x,r,rfl,q,_⟩:=zaA.mp h
   simp at e; subst e
   exact ⟨x,rfl,q⟩
 | d :: ds,_,i + 1,d',h,e=>by
   obtain ⟨x,r,rfl,_,t⟩:=zaA.mp h
   obtain ⟨y,h1,h2⟩:=IsAll.get (i:=i) t (by simpa using e)
   exact ⟨y,by simpa using h1,h2⟩
theorem IsAll.append : ∀ {ds es : List PyData} {xs ys : List V},IsAll K H xs ds -> IsAll K H ys es -> IsAll K H (xs ++ ys) (ds ++ es)
 | [],_,_,_,h,t=>by rw [za4.mp h]; exact t
 | d :: ds,_,_,_,h,t=>by
   obtain ⟨x,r,rfl,q,u⟩:=zaA.mp h
   exact .cons q (IsAll.append u t)
mutual
theorem Is.same (s : zaf H H') : ∀ (d : PyData) (v : V),Is K H v d -> Is K H' v d
 | .none,v,h=>by rw [zed] at h ⊢; exact h
 | .bool _,v,h=>by rw [zdv] at h ⊢; exact h
 | .int _,v,h=>by rw [zaT] at h ⊢; exact h
 | .str _,v,h=>by rw [ze7] at h ⊢; exact h
 | .tuple ds,v,h=>by
   obtain ⟨a,xs,e,q,t⟩:=zaH.mp h
   exact zaH.mpr ⟨a,xs,e,s.sqT q,IsAll.same s ds xs t⟩
 | .list ds,v,h=>by
   obtain ⟨a,xs,e,q,t⟩:=zaM.mp h
   exact zaM.mpr ⟨a,xs,e,s.seq q,IsAll.same s ds xs t⟩
 | .dict _,v,h=>by
   obtain ⟨a,kvs,e,q⟩:=zix.mp h
   exact zix.mpr ⟨a,kvs,e,s _ _ q⟩
theorem IsAll.same (s : zaf H H') : ∀ (ds : List PyData) (xs : List V),IsAll K H xs ds -> IsAll K H' xs ds
 | [],xs,h=>by rw [za4] at h ⊢; exact h
 | d :: ds,xs,h=>by
   obtain ⟨x,r,e,q,t⟩:=zaA.mp h
   exact zaA.mpr ⟨x,r,e,Is.same s d x q,IsAll.same s ds r t⟩
end
end
/- no list and no dict within -/
mutual
def Imm : PyData -> Bool
 | .none=>true
 | .bool _=>true
 | .int _=>true
 | .str _=>true
 | .tuple ds=>ImmAll ds
 | .list _=>false
 | .dict _=>false
def ImmAll : List PyData -> Bool
 | []=>true
 | d :: ds=>Imm d && ImmAll ds
end
section
variable {K : PySem.W.Frag} {H H' : Hp}
mutual
theorem Is.keep (k : za7 H H') : ∀ (d : PyData) (v : V),Imm d = true -> Is K H v d -> Is K H' v d
 | .none,v,_,h=>by rw [zed] at h ⊢; exact h
 | .bool _,v,_,h=>by rw [zdv] at h ⊢; exact h
 | .int _,v,_,h=>by rw [zaT] at h ⊢; exact h
 | .str _,v,_,h=>by rw [ze7] at h ⊢; exact h
 | .tuple ds,v,i,h=>by
   obtain ⟨a,xs,e,q,t⟩:=zaH.mp h
   exact zaH.mpr ⟨a,xs,e,k.sqT q,IsAll.keep k ds xs (by rw [Imm] at i; exact i) t⟩
 | .list ds,v,i,h=>by rw [Imm] at i; cases i
 | .dict _,v,i,h=>by rw [Imm] at i; cases i
theorem IsAll.keep (k : za7 H H') : ∀ (ds : List PyData) (xs : List V),ImmAll ds = true -> IsAll K H xs ds -> IsAll K H' xs ds
 | [],xs,_,h=>by rw [za4] at h ⊢; exact h
 | d :: ds,xs,i,h=>by
   obtain ⟨x,r,e,q,t⟩:=zaA.mp h
   rw [ImmAll,Bool.and_eq_true] at i
   exact zaA.mpr ⟨x,r,e,Is.keep k d x i.1 q,IsAll.keep k ds r i.2 t⟩
end
end
def N (r : Rat) : PyData:=.tuple [.int r.num,.int (r.den : Int)]
section
variable {K : PySem.W.Frag} {H H' : Hp} {v : V} {r : Rat}
end
section
variable {X : Cx} {pins : List (Addr × Obj)} {σ : St} {H : Hp} {s : Shared}
mutual
theorem Inv.reads (I : Inv X pins σ H s) : ∀ (d : PyData) (v : V) (u : Value),d.canLay0 = true -> Is X.K H v d -> zaJ v u -> ∃ as,Reads s.heap u d as
 | .none,v,u,_,h,r=>by
   cases zed.mp h
   cases (show u = Value.none from r)
   exact ⟨_,.none⟩
 | .bool b,v,u,_,h,r=>by
   cases zdv.mp h
   cases (show u = Value.bool b from r)
   exact ⟨_,.bool b⟩
 | .int i,v,u,_,h,r=>by
   cases zaT.mp h
   obtain ⟨t,e⟩:=(show ∃ t,u = Value.int i t from r)
   cases e
   exact ⟨_,.int i t⟩
 | .str x,v,u,_,h,r=>by
   cases ze7.mp h
   obtain ⟨t,e⟩:=(show ∃ t,u = Value.str x t from r)
   cases e
   exact ⟨_,.str x t⟩
 | .tuple ds,v,u,c,h,r=>by
   obtain ⟨a,xs,e,q,t⟩:=zaH.mp h
   subst e
   cases (show u = Value.ref a from r)
   obtain ⟨its,rv,⟨o,e1,e2,n,e3⟩,_⟩:=I.tuple q
   obtain ⟨as,ra⟩:=Inv.readsAll I ds xs its (by rw [PyData.canLay0] at c; exact c) t rv
   exact ⟨_,.tuple e1 e2 e3 (by simpa using ra)⟩
 | .list ds,v,u,c,h,r=>by
   obtain ⟨a,xs,e,q,t⟩:=zaM.mp h
   subst e
   cases (show u = Value.ref a from r)
   obtain ⟨its,rv,⟨o,n,e1,e2,_,e3⟩,_⟩:=I.list q
   obtain ⟨as,ra⟩:=Inv.readsAll I ds xs its (by rw [PyData.canLay0] at c; exact c) t rv
   exact ⟨_,.list e1 e2 e3 (by simpa using ra)⟩
 | .dict _,v,u,c,h,r=>by rw [PyData.canLay0] at c; cases c
theorem Inv.readsAll (I : Inv X pins σ H s) : ∀ (ds : List PyData) (xs : List V) (us : List Value),PyData.canLayAll0 ds = true -> IsAll X.K H xs ds -> zay xs us -> ∃ as,ReadsAll s.heap us ds as
 | [],xs,us,_,h,r=>by
   rw [za4.mp h] at r
   cases r
   exact ⟨_,.nil⟩
 | d :: ds,xs,us,c,h,r=>by
   obtain ⟨x,l,e,q,t⟩:=zaA.mp h
   subst e
   rw [PyData.canLayAll0,Bool.and_eq_true] at c
   cases r with
   | cons r1 r2 =>
     obtain ⟨as,h1⟩:=Inv.reads I d x _ c.1 q r1
     obtain ⟨bs,h2⟩:=Inv.readsAll I ds l _ c.2 t r2
     exact ⟨_,.cons h1 h2⟩
end
end
section
variable {X : Cx}
open PySem.SeqAt (shaped)
def zhh (K : PySem.W.Frag) : R2:=fun x y H Q=>∃ d e,Is K H x d /\ Is K H y e /\ shaped d = true /\ shaped e = true /\ Q (.bl (PyData.eqv d e)) H
def zgo (K : PySem.W.Frag) : R2:=fun x y H Q=>∃ d e,Is K H x d /\ Is K H y e /\ shaped d = true /\ shaped e = true /\ Q (.bl (!PyData.eqv d e)) H
theorem ze8 (hu : X.A.units + 64 < cLine) : OpR X (compareOp .Eq) (zhh X.K):=by
 intro pins s σ H x y v u Q I rx ry h
 obtain ⟨d,e,hd,he,sd,se,q⟩:=h
 obtain ⟨as,h1⟩:=I.reads d x v (PySem.SeqAt.canLay_of_shaped sd) hd rx
 obtain ⟨bs,h2⟩:=I.reads e y u (PySem.SeqAt.canLay_of_shaped se) he ry
 exact eq_dataH h1 h2 sd se hu ⟨.bl _,H,I,rfl,q⟩
theorem zem (hu : X.A.units + 64 < cLine) : OpR X (compareOp .NotEq) (zgo X.K):=by
 intro pins s σ H x y v u Q I rx ry h
 obtain ⟨d,e,hd,he,sd,se,q⟩:=h
 obtain ⟨as,h1⟩:=I.reads d x v (PySem.SeqAt.canLay_of_shaped sd) hd rx
 obtain ⟨bs,h2⟩:=I.reads e y u (PySem.SeqAt.canLay_of_shaped se) he ry
 exact ne_dataH h1 h2 sd se hu ⟨.bl _,H,I,rfl,q⟩
def rIs : R2:=fun x y H Q=>(∃ c,y = .bl c /\ Q (.bl (decide (x = .bl c))) H) \/ (y = .non /\ Q (.bl (decide (x = .non))) H)
def kindOf : PyData -> String
 | .none=>"NoneType"
 | .bool _=>"bool"
 | .int _=>"int"
 | .str _=>"str"
 | .tuple _=>"tuple"
 | .list _=>"list"
 | .dict _=>"dict"
def zgZ (K : PySem.W.Frag) : List V -> Hp -> VK -> Prop:=fun xs H Q=>∃ x T d b,xs = [x,.ty T] /\ Is K H x d /\ PySem.W.kitOne K (.type (kindOf d)) (.type T) = some b /\ Q (.bl b) H
theorem zhY : zaj X (.builtin "isinstance") (zgZ X.K):=by
 intro pins s σ H xs us Q I r h
 obtain ⟨x,T,d,b,rfl,hd,e,q⟩:=h
 obtain ⟨u,w',rfl,rx,rt⟩:=zgB r
 cases (show w' = Value.type T from rt)
 have fin : ∀ tk,EP X pins σ Q (.bool b) { s with toks:=tk }:=fun tk=>⟨.bl b,H,I.tok _,rfl,q⟩
 cases d with
 | none =>
   cases zed.mp hd
   cases (show u = Value.none from rx)
   exact PySem.W.kia_one PySem.W.kitx_none I.kIn True.intro e (fun z=>nomatch z) fin
 | bool y =>
   cases zdv.mp hd
   cases (show u = Value.bool y from rx)
   exact PySem.W.kia_one PySem.W.kitx_bool I.kIn True.intro e (fun z=>nomatch z) fin
 | int i =>
   cases zaT.mp hd
   obtain ⟨t,q⟩:=(show ∃ t,u = Value.int i t from rx)
   cases q
   exact PySem.W.kia_one PySem.W.kitx_int I.kIn True.intro e (fun z=>nomatch z) fin
 | str y =>
   cases ze7.mp hd
   obtain ⟨t,q⟩:=(show ∃ t,u = Value.str y t from rx)
   cases q
   exact PySem.W.kia_one PySem.W.kitx_str I.kIn True.intro e (fun z=>nomatch z) fin
 | tuple ds =>
   obtain ⟨a,xs,e1,hq,_⟩:=zaH.mp hd
   subst e1
   cases (show u = Value.ref a from rx)
   obtain ⟨its,_,⟨o,h1,h2,_⟩,_⟩:=I.tuple hq
   exact PySem.W.kia_one PySem.W.kitx_tuple I.kIn ⟨o,h1,h2⟩ e (fun z=>nomatch z) fin
 | list ds =>
   obtain ⟨a,xs,e1,hq,_⟩:=zaM.mp hd
   subst e1
   cases (show u = Value.ref a from rx)
   obtain ⟨its,_,⟨o,n,h1,h2,_⟩,_⟩:=I.list hq
   exact PySem.W.kia_one PySem.W.kitx_list I.kIn ⟨o,h1,h2⟩ e (fun z=>nomatch z) fin
 | dict kv =>
   obtain ⟨a,kvs,e1,hq⟩:=zix.mp hd
   subst e1
   cases (show u = Value.ref a from rx)
   obtain ⟨_,_,vs,_,o,es,ep,h1,h2,_⟩:=(show za9 X.prog X.w H s.heap a (.dK kvs) from I.hok a _ hq)
   exact PySem.W.kia_one PySem.W.kitx_dict I.kIn ⟨o,h1,h2.1⟩ e (fun z=>nomatch z) fin
def isA (T : String) (d : PyData) : Bool:=(kindOf d == T) || (kindOf d == "bool" && T == "int")
theorem zps {K : PySem.W.Frag} (d : PyData) : PySem.W.kitOne K (.type (kindOf d)) (.type "int") = some (isA "int" d):=by cases d <;> rfl
theorem znv {K : PySem.W.Frag} (d : PyData) : PySem.W.kitOne K (.type (kindOf d)) (.type "bool") = some (isA "bool" d):=by cases d <;> rfl
theorem zcF : OpR X (binaryOp .Mult) (rI IntMulOk fun i j=>.int (i * j)):=opI fun _ _ _ _ _ _ _ hc q=>mul_int q hc
def zsg (_ j : Int) : Prop:=j ≠ 0 /\ Bd 8999 j
theorem zd0 : OpR X (binaryOp .FloorDiv) (rI zsg fun i j=>.int (i.fdiv j)):=opI fun _ _ _ _ _ _ _ hc q =>
 floordiv_int hc.1 q (.inl (PyProof.noPylong_of_log2 (Nat.lt_succ_of_lt (hc.2.log (by decide)))))
theorem zpt : OpR X (binaryOp .Add) (fun x y H Q=>(rI0 fun i j=>.int (i + j)) x y H Q \/ (zrf x y H Q \/ ∃ i j,x = .str i /\ y = .str j /\ i.length + j.length <= sizeLine /\ Q (.str (i ++ j)) H)):=zqX.or (zqY.or zkE)
end
end L2
set_option Elab.async false
set_option linter.all false
set_option maxRecDepth 100000
namespace L2
open PySem PySem.Spec PyProof.Rows GM
theorem za8 : bootBuiltins "len" = some (.builtin "len"):=by decide +kernel
theorem zda : bootBuiltins "isinstance" = some (.builtin "isinstance"):=by decide +kernel
theorem zny : bootBuiltins "int" = some (.type "int"):=by decide +kernel
theorem zpd : bootBuiltins "bool" = some (.type "bool"):=by decide +kernel
theorem zaG : bootBuiltins "tuple" = some (.type "tuple"):=by decide +kernel
theorem zfZ : bootBuiltins "list" = some (.type "list"):=by decide +kernel
def mkT (K : PySem.W.Frag) (xs : List V) (H : Hp) (Q : VK) : Prop:=xs.length <= sizeLine /\ ∀ p,H p = none -> Q (.ref p) (upd H p (.tup xs))
def mkL (K : PySem.W.Frag) (xs : List V) (H : Hp) (Q : VK) : Prop:=xs.length <= sizeLine /\ ∀ p,H p = none -> Q (.ref p) (upd H p (.lst xs))
def zfI (K : PySem.W.Frag) (t : TA) : TE:=fun σ H Q=>t σ H fun xs H1=>mkT K xs H1 Q
def zp7 (K : PySem.W.Frag) (t : TA) : TE:=fun σ H Q=>t σ H fun xs H1=>mkL K xs H1 Q
def znQ : R2:=fun x y H Q=>(rI0 fun i j=>.int (i + j)) x y H Q \/ (zrf x y H Q \/ ∃ i j,x = .str i /\ y = .str j /\ i.length + j.length <= sizeLine /\ Q (.str (i ++ j)) H)
def zcb (K : PySem.W.Frag) : List V -> Hp -> VK -> Prop:=fun xs H Q=>∃ p ys,xs = [.ref p] /\ (SqL K H p ys \/ SqT K H p ys) /\ Q (.int ys.length) H
def zrQ : List V -> Hp -> VK -> Prop:=fun xs H Q=>(∃ i,xs = [.int i] /\ Q (.int i) H) \/ ∃ k,xs = [.bl k] /\ Q (.int (if k then 1 else 0)) H
section
variable {X : Cx} {e : Expr} {es : List Expr} {te : TE} {t : TA} {pos : Pos}
theorem zaS {x1} (h : PA X es t) : PE X (.Tuple es x1 pos) (zfI X.K t):=zrg h
theorem zbs (h : PA X es t) : PE X (.List es pos) (zp7 X.K t):=zq5 h
theorem zaR : OpR X (binaryOp .Add) znQ:=zpt
theorem zax : zaj X (.builtin "len") (zcb X.K):=ziK
theorem zmI : zaj X (.type "int") zrQ:=zmn
theorem zdl {x : Str} {i : Int} {pos : Pos} (hg : Gl X x) (hm : ∃ t,X.mg x = some (.int i t)) (hd : (x == ("__debug__" : Str)) = false:=by decide) : PE X (.Name x pos) (tC (.int i)):=by
 obtain ⟨t,hm⟩:=hm
 exact zoP hg hm ⟨t,rfl⟩ hd
end
section
variable {K : PySem.W.Frag} {σ : St} {H H' : Hp} {Q : VK} {QA : List V -> Hp -> Prop} {QB : Bool -> Hp -> Prop} {QS : St -> Hp -> Prop} {QH : Hp -> Prop} {D : zbR} {ta tb te : TE} {tt tu : TT} {t tr : TA} {s1 s2 : TS} {g : TG} {gs : TGs} {r : R2} {v w : V} {xs ys : List V} {i : Nat} {m n : Int}
theorem zg4 (h : σ[i]? = some (some v)) (q : Q v H) : ziD i σ H Q:=⟨v,h,q⟩
theorem zsD (q : Q v H) : tC v σ H Q:=q
theorem zpV (h : ta σ H fun x H1=>tb σ H1 fun y H2=>r x y H2 Q) : tOp r ta tb σ H Q:=h
theorem zqU (h : t σ H fun xs H1=>mkT K xs H1 Q) : zfI K t σ H Q:=h
theorem zrc (h : t σ H fun xs H1=>mkL K xs H1 Q) : zp7 K t σ H Q:=h
theorem zng (q : QA [] H) : zmL σ H QA:=q
theorem zk9 (h : te σ H fun x H1=>tr σ H1 fun xs H2=>QA (x :: xs) H2) : ziT te tr σ H QA:=h
theorem zpw {sp : Sp} {E : XK} (h : t σ H fun vs H1=>sp vs H1 Q E) : zn5 sp [] E t σ H Q:=by
 simpa only [zn5,List.append_nil] using h
theorem zqm {u : List V -> Hp -> VK -> Prop} (h : t σ H fun vs H1=>u vs H1 Q) : tCB u t σ H Q:=h
theorem zk2 (h : te σ H fun x H'=>∃ k,x = .bl k /\ QB k H') : zm8 te σ H QB:=h
theorem zsc (h : te σ H fun x H'=>∃ k,x = .bl k /\ QB k H') : tB te σ H QB:=h
theorem zog {R : Bool -> Prop} {k : Bool} (q : R k) : ∃ k',V.bl k = V.bl k' /\ R k':=⟨k,rfl,q⟩
theorem zqr (h : tt σ H fun c H1=>if c = true then tu σ H1 QB else QB false H1) : zrH tt tu σ H QB:=h
theorem zr8 (h : tt σ H fun c H1=>if c = true then QB true H1 else tu σ H1 QB) : tOr tt tu σ H QB:=h
theorem zqI (h : tt σ H fun c H1=>QB (!c) H1) : zrT tt σ H QB:=h
theorem zpb (h : ta σ H fun x H1=>∃ c,x = .bl c /\ if c = true then tb σ H1 Q else Q (.bl false) H1) : zp0 ta tb σ H Q:=h
theorem zpL (h : ta σ H fun x H1=>∃ c,x = .bl c /\ Q (.bl (!c)) H1) : zpR ta σ H Q:=h
theorem zq3 (h : tt σ H fun c H1=>if c = true then ta σ H1 Q else tb σ H1 Q) : tIf tt ta tb σ H Q:=h
-- statements
theorem zoC (h : D.nx σ H) : zpP D σ H:=h
theorem zrA (h : te σ H D.rt) : zsl te D σ H:=h
theorem zqz (h : tt σ H fun b H1=>if b = true then s1 D σ H1 else s2 D σ H1) : zrI tt s1 s2 D σ H:=h
theorem zqL (h : te σ H fun x H1=>g x σ H1 D.nx) : zpc te g D σ H:=h
theorem zoI (h : te σ H fun _ H1=>D.nx σ H1) : zpX te D σ H:=h
theorem zq1 {i j : Nat} (h : t σ H fun vs H1=>∃ v w,vs = [v,w] /\ D.nx ((σ.set i (some v)).set j (some w)) H1) : zsN i j t D σ H:=h
theorem zgh (q : QS (σ.set i (some v)) H) : zeE i v σ H QS:=q
theorem zpE (q : QS σ H) : zrS [] σ H QS:=⟨rfl,q⟩
theorem zoz (q : g v σ H fun σ' H'=>gs xs σ' H' QS) : zqe g gs (v :: xs) σ H QS:=⟨v,xs,rfl,q⟩
theorem zdu {a : Addr} {n : Nat} (h : SqT K H a xs) (e : xs.length = n) (q : gs xs σ H QS) : ziI K n gs (.ref a) σ H QS:=⟨a,xs,rfl,h,e,q⟩
theorem zo7 {tset : zoY} (h : ta σ H fun o H1=>tb σ H1 fun i H2=>tset o i v H2 fun H3=>QS σ H3) : zrN ta tb tset v σ H QS:=h
theorem zlE {p : Addr} {k : Int} {j : Nat} (h : H p = some (.lst xs)) (e : ixN xs.length k = some j) (q : ∀ H',Exc p H H' -> H' p = some (.lst (xs.set j v)) -> QH H') : zqj (.ref p) (.int k) v H QH :=
 ⟨p,xs,k,j,rfl,rfl,h,e,q _ (Exc.upd p H _) zar⟩
-- ints
theorem zqT {f : Int -> Int -> V} (q : Q (f m n) H) : rI0 f (.int m) (.int n) H Q:=⟨m,n,rfl,rfl,q⟩
theorem znu {C : Int -> Int -> Prop} {f : Int -> Int -> V} (c : C m n) (q : Q (f m n) H) : rI C f (.int m) (.int n) H Q:=⟨m,n,rfl,rfl,c,q⟩
theorem zpu (q : Q (.int (m + n)) H) : znQ (.int m) (.int n) H Q:=.inl ⟨m,n,rfl,rfl,q⟩
theorem zfV {p b : Addr} (h : H p = some (.lst xs)) (k : H b = some (.lst ys)) (z : xs.length + ys.length <= sizeLine)
   (q : ∀ c H',H c = none -> zaf H H' -> H' c = some (.lst (xs ++ ys)) -> Q (.ref c) H') : znQ (.ref p) (.ref b) H Q :=
 .inr (.inl ⟨p,b,xs,ys,rfl,rfl,h,k,z,fun c hc=>q c _ hc (zaf.upd hc) zar⟩)
theorem zpN {p : Addr} (h : SqT K H p xs) (q : Q (.int xs.length) H) : zcb K [.ref p] H Q:=⟨p,xs,rfl,.inr h,q⟩
theorem zb8 {p : Addr} (h : SqL K H p xs) (q : Q (.int xs.length) H) : zcb K [.ref p] H Q:=⟨p,xs,rfl,.inl h,q⟩
theorem zo1 {b : Bool} (q : Q (.int (if b then 1 else 0)) H) : zrQ [.bl b] H Q:=.inr ⟨b,rfl,q⟩
-- comparisons
theorem zqW (q : Q (.bl (decide (v = .non))) H) : rIs v .non H Q:=.inr ⟨rfl,q⟩
theorem zqv (q : Q (.bl (decide (m = n))) H) : zhh K (.int m) (.int n) H Q :=
 ⟨.int m,.int n,zaT.mpr rfl,zaT.mpr rfl,rfl,rfl,by
   have e : PyData.eqv (.int m) (.int n) = decide (m = n):=by
     rw [PyData.eqv,Bool.beq_eq_decide_eq]
   rw [e]; exact q⟩
theorem zrr (q : Q (.bl (!decide (m = n))) H) : zgo K (.int m) (.int n) H Q :=
 ⟨.int m,.int n,zaT.mpr rfl,zaT.mpr rfl,rfl,rfl,by
   have e : PyData.eqv (.int m) (.int n) = decide (m = n):=by
     rw [PyData.eqv,Bool.beq_eq_decide_eq]
   rw [e]; exact q⟩
theorem zqy {d e : PyData} (h : Is K H v d) (k : Is K H w e) (sd : PySem.SeqAt.shaped d = true) (se : PySem.SeqAt.shaped e = true) (q : Q (.bl (PyData.eqv d e)) H) : zhh K v w H Q:=⟨d,e,h,k,sd,se,q⟩
theorem zrp {d e : PyData} (h : Is K H v d) (k : Is K H w e) (sd : PySem.SeqAt.shaped d = true) (se : PySem.SeqAt.shaped e = true) (q : Q (.bl (!PyData.eqv d e)) H) : zgo K v w H Q:=⟨d,e,h,k,sd,se,q⟩
theorem zll {T : String} {d : PyData} (h : Is K H v d) (e : PySem.W.kitOne K (.type (kindOf d)) (.type T) = some (isA T d)) (q : Q (.bl (isA T d)) H) : zgZ K [v,.ty T] H Q:=⟨v,T,d,_,rfl,h,e,q⟩
def zoq : PyData -> Bool
 | .tuple _=>true
 | _=>false
def zkR : PyData -> Bool
 | .int _=>true
 | .bool _=>true
 | _=>false
def zqA : PyData -> Bool
 | .bool _=>true
 | _=>false
def znw : PyData -> Bool
 | .list _=>true
 | _=>false
theorem zmQ {d : PyData} (h : Is K H v d) (q : Q (.bl (zkR d)) H) : zgZ K [v,.ty "int"] H Q:=zll h (zps d) (by have e : isA "int" d = zkR d:=(by cases d <;> rfl); rw [e]; exact q)
theorem zi5 {d : PyData} (h : Is K H v d) (q : Q (.bl (zqA d)) H) : zgZ K [v,.ty "bool"] H Q:=zll h (znv d) (by have e : isA "bool" d = zqA d:=(by cases d <;> rfl); rw [e]; exact q)
theorem zik {p : Addr} {m : Int} (h : SqT K H p xs) (e : atI xs m = some v) (q : Q v H) : rIx K (.ref p) (.int m) H Q:=.inr (.inl ⟨p,xs,m,v,rfl,rfl,h,e,q⟩)
theorem zfd {p : Addr} {m : Int} (h : SqL K H p xs) (e : atI xs m = some v) (q : Q v H) : rIx K (.ref p) (.int m) H Q:=.inl ⟨p,xs,m,v,rfl,rfl,h,e,q⟩
theorem zqM {α : Type} {xs : List α} {m : Int} (h0 : 0 <= m) (h1 : m < xs.length) : ∃ v,atI xs m = some v /\ v ∈ xs:=by
 obtain ⟨k,rfl⟩ : ∃ k : Nat,m = (k : Int):=⟨m.toNat,by omega⟩
 have l : k < xs.length:=by omega
 exact ⟨xs[k],zc1 (by simp [l]),List.getElem_mem l⟩
theorem zf3 {p : Addr} {m : Int} (P : V -> Prop) (h : SqL K H p xs) (h0 : 0 <= m) (h1 : m < xs.length) (hP : ∀ x ∈ xs,P x) (q : ∀ x,P x -> Q x H) : rIx K (.ref p) (.int m) H Q:=by
 obtain ⟨x,e,hx⟩:=zqM h0 h1
 exact zfd h e (q x (hP x hx))
theorem zdP {ds : List PyData} {d : PyData} {j : Nat} (h : Is K H v (.tuple ds)) (e : ds[j]? = some d) (q : ∀ x,Is K H x d -> Q x H) : rIx K v (.int (j : Int)) H Q:=by
 obtain ⟨a,xs,rfl,h,t⟩:=zaH.mp h
 obtain ⟨x,e1,hx⟩:=t.get e
 exact zik h (zc1 e1) (q x hx)
theorem zfY {ds : List PyData} (h : Is K H v (.tuple ds)) (q : Q (.int ds.length) H) : zcb K [v] H Q:=by
 obtain ⟨a,xs,rfl,h,t⟩:=zaH.mp h
 exact zpN h (by rw [t.length]; exact q)
theorem zjh {ds : List PyData} {n : Nat} (h : Is K H v (.tuple ds)) (e : ds.length = n) (q : ∀ xs,IsAll K H xs ds -> gs xs σ H QS) : ziI K n gs v σ H QS:=by
 obtain ⟨a,xs,rfl,h,t⟩:=zaH.mp h
 exact zdu h (by rw [t.length]; exact e) (q xs t)
theorem zdk {α : Type} {l : List α} (h : l.length <= 1000) : l.length <= sizeLine:=Nat.le_of_lt (zbH h)
theorem znb (z : xs.length <= 1000) (q : ∀ p H',H p = none -> zaf H H' -> H' p = some (.tup xs) -> Q (.ref p) H') : mkT K xs H Q:=⟨zdk z,fun p hp=>q p _ hp (zaf.upd hp) zar⟩
theorem zis (z : xs.length <= 1000) (q : ∀ p H',H p = none -> zaf H H' -> H' p = some (.lst xs) -> Q (.ref p) H') : mkL K xs H Q:=⟨zdk z,fun p hp=>q p _ hp (zaf.upd hp) zar⟩
theorem zaQ {ds : List PyData} (z : xs.length <= 1000) (h : IsAll K H xs ds) (q : ∀ v H',zaf H H' -> Is K H' v (.tuple ds) -> Q v H') : mkT K xs H Q :=
 znb z fun p H' _ s e=>q _ H' s (zaH.mpr ⟨p,xs,rfl,.of e,IsAll.same s ds xs h⟩)
theorem zpl {p : Prop} [Decidable p] {A B : Prop} (h1 : p -> A) (h2 : ¬ p -> B) : if decide p = true then A else B:=by
 by_cases h : p
 . rw [decide_eq_true h,if_pos rfl]; exact h1 h
 . rw [decide_eq_false h,if_neg Bool.false_ne_true]; exact h2 h
theorem znp {p : Prop} [Decidable p] {A B : Prop} (h1 : ¬ p -> A) (h2 : p -> B) : if (!decide p) = true then A else B:=by
 by_cases h : p
 . rw [decide_eq_true h]; exact zpz (h2 h)
 . rw [decide_eq_false h]; exact zma (h1 h)
theorem zoD {b : Bool} {A B : Prop} (h1 : b = true -> A) (h2 : b = false -> B) : if b = true then A else B:=by
 cases b
 . exact zpz (h2 rfl)
 . exact zma (h1 rfl)
end
section
variable {c : TT} {tb : TS} {D : zbR} {σ : St} {H : Hp}
def zsb (g : TG) (tb : TS) (D : zbR) (σ : St) (vs : List V) (H1 : Hp) : Prop:=∃ j : Int,vs = [.int j] /\ -(2 ^ 62) <= j /\ j < 2 ^ 62 /\
 ∃ W : Nat -> Nat -> St -> Hp -> Prop,(∃ m,W 0 m σ H1) /\ ∀ i m σ H,W i m σ H ->
   ((Itr 0 j.toNat).stop i H /\ D.nx σ H) \/ ((Itr 0 j.toNat).go i H /\ ∃ M : St -> Hp -> Prop,(∀ σ' H',M σ' H' -> ∃ m',m' < m /\ W (i + 1) m' σ' H') /\ ∀ x H',(Itr 0 j.toNat).yld i H x H' -> g x σ H' fun σ2 H2=>tb { D with nx:=M,ct:=M,bk:=D.nx } σ2 H2)
theorem zo6 {ta : TA} {g : TG} (h : ta σ H fun vs H1=>zsb g tb D σ vs H1) : zjP (zoo ta) g tb D σ H:=h
theorem zcK {g : TG} {n : Int} (h0 : -1000000000 <= n) (h1 : n < 1000000000) (Pv : Nat -> St -> Hp -> Prop) (p : Pv 0 σ H)
   (hs : ∀ (i : Nat) σ H,i < n.toNat -> Pv i σ H -> g (.int (i : Int)) σ H fun σ2 H2=>tb { D with nx:=Pv (i + 1),ct:=Pv (i + 1),bk:=D.nx } σ2 H2)
   (hd : ∀ σ H,Pv n.toNat σ H -> D.nx σ H) : zsb g tb D σ [.int n] H:=by
 refine ⟨n,rfl,by omega,by omega,zhv (lo:=0) Pv p (fun i σ H hi q=>?_) hd⟩
 have e : (0 : Int) + (i : Int) = (i : Int):=by omega
 rw [e]
 exact hs i σ H hi q
end
def zsk (K : PySem.W.Frag) (g : TG) (tb : TS) (D : zbR) (σ : St) (x : V) (H1 : Hp) : Prop:=∃ a,x = .ref a /\ (∃ xs,SqL K H1 a xs) /\
 ∃ W : Nat -> Nat -> St -> Hp -> Prop,(∃ m,W 0 m σ H1) /\ ∀ i m σ H,W i m σ H ->
   ((Itl K a).stop i H /\ D.nx σ H) \/ ((Itl K a).go i H /\ ∃ M : St -> Hp -> Prop,(∀ σ' H',M σ' H' -> ∃ m',m' < m /\ W (i + 1) m' σ' H') /\ ∀ x H',(Itl K a).yld i H x H' -> g x σ H' fun σ2 H2=>tb { D with nx:=M,ct:=M,bk:=D.nx } σ2 H2)
def zsm (K : PySem.W.Frag) (g : TG) (tb : TS) (D : zbR) (σ : St) (x : V) (H1 : Hp) : Prop:=∃ a,x = .ref a /\ (∃ xs,SqT K H1 a xs) /\
 ∃ W : Nat -> Nat -> St -> Hp -> Prop,(∃ m,W 0 m σ H1) /\ ∀ i m σ H,W i m σ H ->
   ((Itt K a).stop i H /\ D.nx σ H) \/ ((Itt K a).go i H /\ ∃ M : St -> Hp -> Prop,(∀ σ' H',M σ' H' -> ∃ m',m' < m /\ W (i + 1) m' σ' H') /\ ∀ x H',(Itt K a).yld i H x H' -> g x σ H' fun σ2 H2=>tb { D with nx:=M,ct:=M,bk:=D.nx } σ2 H2)
section
variable {K : PySem.W.Frag} {te : TE} {g : TG} {tb : TS} {D : zbR} {σ : St} {H : Hp} {a : Addr} {xs : List V}
theorem zpr (h : te σ H fun x H1=>zsk K g tb D σ x H1) : zjP (znz K te) g tb D σ H:=h
theorem zpx (h : te σ H fun x H1=>zsm K g tb D σ x H1) : zjP (zq7 K te) g tb D σ H:=h
theorem zh3 (hx : SqL K H a xs) (Pv : Nat -> St -> Hp -> Prop) (h0 : Pv 0 σ H) (hl : ∀ i σ H,i <= xs.length -> Pv i σ H -> SqL K H a xs)
   (hs : ∀ i x σ H,xs[i]? = some x -> Pv i σ H -> g x σ H fun σ2 H2=>tb { D with nx:=Pv (i + 1),ct:=Pv (i + 1),bk:=D.nx } σ2 H2) (hd : ∀ σ H,Pv xs.length σ H -> D.nx σ H) : zsk K g tb D σ (.ref a) H :=
 ⟨a,rfl,⟨xs,hx⟩,zns Pv h0 hl hs hd⟩
theorem zmt (hx : SqT K H a xs) (Pv : Nat -> St -> Hp -> Prop) (h0 : Pv 0 σ H) (hl : ∀ i σ H,i <= xs.length -> Pv i σ H -> SqT K H a xs)
   (hs : ∀ i x σ H,xs[i]? = some x -> Pv i σ H -> g x σ H fun σ2 H2=>tb { D with nx:=Pv (i + 1),ct:=Pv (i + 1),bk:=D.nx } σ2 H2) (hd : ∀ σ H,Pv xs.length σ H -> D.nx σ H) : zsm K g tb D σ (.ref a) H :=
 ⟨a,rfl,⟨xs,hx⟩,zpf Pv h0 hl hs hd⟩
end
theorem zpe {σ : St} {H : Hp} {Q : VK} (q : ∀ p H',H p = none -> zaf H H' -> H' p = some (.dK []) -> Q (.ref p) H') : zqB σ H Q:=fun p hp=>q p _ hp (zaf.upd hp) zar
theorem zqE {K : PySem.W.Frag} {H : Hp} {a : Addr} {xs : List V} (hO : zo3 H) (h : SqL K H a xs) : SqF K H a xs:=by
 rcases h with (h | ⟨o,h⟩) | h
 . rcases hO a with z | ⟨ob,ys,z⟩
   . rw [h] at z; cases z
   . rw [h] at z; cases z
 . exact .inl ⟨o,h⟩
 . exact .inr h
theorem zrz {K : PySem.W.Frag} {H : Hp} {Q : VK} {a : Addr} {ns : List Int} {m : Int} (h : SqF K H a (ns.map V.int)) (h0 : 0 <= m) (h1 : m < ((ns.map V.int).length : Int)) (q : ∀ z,Q (.int z) H) : rIx K (.ref a) (.int m) H Q:=by
 refine zf3 (fun v=>∃ z,v = .int z) h.sq h0 h1 (fun x hx=>?_) (fun x hx=>?_)
 . obtain ⟨z,_,rfl⟩:=List.mem_map.mp hx
   exact ⟨z,rfl⟩
 . obtain ⟨z,rfl⟩:=hx
   exact q z
section
variable {K : PySem.W.Frag} {H H' : Hp} {v : V} {d : PyData} {a : Addr} {xs : List V} {o : HO}
theorem Is.by (s : zaf H H') (h : Is K H v d) : Is K H' v d:=Is.same s d v h
theorem Is.byK (s : za7 H H') (i : Imm d = true) (h : Is K H v d) : Is K H' v d:=Is.keep s _ v i h
end
end L2
set_option Elab.async false
set_option linter.all false
set_option maxRecDepth 100000
namespace L2
open PySem PySem.Spec PyProof.Rows GM
def zbC (X : Cx) (N' : List Str) (scope : Scope) (cl : List (Str × Addr)) (C : Addr) (s₀ : Shared) (H₀ : Hp) (fp : List Addr) (pins : List (Addr × Obj)) : Cx where
 prog:=X.prog
 w:=X.w
 K:=X.K
 mg:=X.mg
 base:=X.base
 A:=X.A
 N:=N'
 s₀:=s₀
 H₀:=H₀
 env:=compEnvC scope cl C X.env
 outer:=X.stack
 stack:=X.stack
 ex:=fp
 fn:=fun _=>false
 calm:=X.calm
 pn:=X.pn ++ pins
 xe:=fun _ _=>False
structure zmU (X : Cx) (scope : Scope) (cl : List (Str × Addr)) : Prop where
 clos : closureFor scope X.env = pure cl
 sub : ∀ x c,cl.lookup x = some c -> X.env.cells.lookup x = some c
 has : ∀ x,((relabel scope X.env).names.lookup x = some .cell \/ (relabel scope X.env).names.lookup x = some .free) -> ∃ c,cl.lookup x = some c
def zaO (src : List (Option Nat)) (σ : St) : St:=src.map fun o=>match o with
 | none=>none
 | some j=>(σ[j]?).join
def zqc (X : Cx) (N' : List Str) (src : List (Option Nat)) : Prop :=
 N'.length = src.length /\ ∀ (i j : Nat) (x : Str),N'[i]? = some x -> src[i]? = some (some j) -> X.N[j]? = some x /\ X.env.scope.names.lookup x = some .cell
section
variable {X : Cx} {pins : List (Addr × Obj)} {σ : St} {H : Hp} {s : Shared} {N' : List Str} {scope : Scope} {cl : List (Str × Addr)} {src : List (Option Nat)} {fp : List Addr}
theorem Inv.block {h₁ : Heap} {tk : Nat} (I : Inv X pins σ H s) (hk : scope.kind = .function) (cok : zmU X scope cl) (sok : zqc X N' src) (hf : ∀ b ∈ fp,zdD X pins H b) (hlt : ∀ b ∈ fp,b < s.heap.objs.size)
   (hns : h₁.Ns s.heap.objs.size fun _=>none) (old : ∀ b o,s.heap.get? b = some o -> h₁.get? b = some o)
   (hvis : ∀ (i : Nat) x,N'[i]? = some x -> src[i]? ≠ some none -> (relabel scope X.env).names.lookup x = some .cell \/ (relabel scope X.env).names.lookup x = some .free) :
   Inv (zbC X N' scope cl s.heap.objs.size s H fp pins) [] (zaO src σ) H { s with heap:=h₁,toks:=tk }:=by
 have hfr : H s.heap.objs.size = none:=I.hok.fresh (Nat.le_refl _)
 have cne : ∀ x c,cl.lookup x = some c -> c < s.heap.objs.size:=fun x c e=>by
   obtain ⟨v,q⟩:=I.cell x c (cok.sub x c e)
   exact q.lt
 have fplt : ∀ b ∈ fp,b ∉ frs X.stack:=fun b hb z=>by
   obtain ⟨_,f1,f2,_⟩:=hf b hb
   exact (List.mem_cons.mp (I.stkSub b z)).elim f1 f2
 refine ⟨⟨I.ok.mod,?_,I.ok.glob,I.ok.blt,Nat.le_refl _,fun x y c h1 h2=>?_,fun x hx=>?_,fun x c hx=>?_,I.ok.hd,I.ok.frames,.inl rfl,fun b hb=>⟨?_,fun x c e=>?_⟩,I.bs,Nat.le_trans I.ok.bsz I.sz,fun b o e=>?_,fplt,I.stack,I.stkFree⟩,
   rfl,I.bare,Un.kept old,⟨_,hns,fun i x v h1 h2 h3=>?_⟩,fun x c e=>?_,hfr,fun x c e=>?_,fun p hp=>?_,I.hok.kept old,?_⟩
 . show (relabel scope X.env).kind = .function
   exact hk
 . exact I.ok.inj x y c (cok.sub x c h1) (cok.sub y c h2)
 . exact cok.has x hx
 . exact absurd (show false = true from hx) Bool.false_ne_true
 . exact Nat.ne_of_lt (hlt b hb)
 . exact (hf b hb).2.2.2.2.1 x c (cok.sub x c e)
 . intro hb
   obtain ⟨_,_,_,f3,_⟩:=hf b hb
   rcases f3 with z | z
   . exact I.ok.noex b o e z
   . exact absurd (Nat.lt_of_lt_of_le (Heap.lt_size e) (Nat.le_trans I.ok.bsz z)) (Nat.lt_irrefl _)
 . -- a name of the frame around
   have hsrc : ∃ j,src[i]? = some (some j) /\ σ[j]? = some (some v):=by
     unfold zaO at h2
     rw [List.getElem?_map] at h2
     cases q : src[i]? with
     | none=>rw [q] at h2; cases h2
     | some o =>
       rw [q] at h2
       cases o with
       | none=>cases h2
       | some j =>
         refine ⟨j,rfl,?_⟩
         have h2' : (σ[j]?).join = some v:=Option.some.inj h2
         cases q2 : σ[j]? with
         | none=>rw [q2] at h2'; cases h2'
         | some z=>rw [q2] at h2'; exact congrArg some h2'
   obtain ⟨j,hj,hv⟩:=hsrc
   obtain ⟨hN,hc⟩:=sok.2 i j x h1 hj
   obtain ⟨m,_,hl⟩:=I.loc
   obtain ⟨u,ru,lk⟩:=hl j x v hN hv (.inr (.inl hc))
   refine ⟨u,ru,.inr ⟨hvis i x h1 (by rw [hj]; intro z; cases z),?_⟩⟩
   rcases lk with ⟨k,_⟩ | ⟨_,c,ec,hcell⟩
   . have k' : X.env.scope.names.lookup x = some .local:=k
     rw [hc] at k'; cases k'
   . obtain ⟨c',ec'⟩:=cok.has x (hvis i x h1 (by rw [hj]; intro z; cases z))
     have:=cok.sub x c' ec'
     rw [ec] at this; cases this
     obtain ⟨o,ho,hd⟩:=hcell
     exact ⟨c,ec',o,old c o ho,hd⟩
 . obtain ⟨v,o,ho,hd⟩:=I.cell x c (cok.sub x c e)
   exact ⟨v,o,old c o ho,hd⟩
 . exact I.freeC x c (cok.sub x c e)
 . have hp' : p ∈ (X.pn ++ pins) ++ []:=hp
   rw [List.append_nil] at hp'
   obtain ⟨e,n,ne,nf,d⟩:=I.pin p hp'
   refine ⟨old _ _ e,n,Nat.ne_of_lt (Heap.lt_size e),fun z=>?_,d⟩
   exact (List.mem_cons.mp (I.stkSub p.1 z)).elim ne nf
 . show (zaO src σ).length = N'.length
   unfold zaO
   rw [List.length_map,sok.1]
end
def zj1 : TT:=fun _ H Q=>Q true H
def PTs (X : Cx) (ifs : List Expr) (t : TT) : Prop :=
 ∀ (pins : List (Addr × Obj)) (s : Shared) (σ : St) (H : Hp) (Q : Bool -> Hp -> Prop),Inv X pins σ H s -> t σ H Q ->
   wpAny (model X.prog X.w) X.A (forIn ifs true fun c r=>if r = true then do let ok <- isTrue c X.env (eval c X.env); pure (ForInStep.yield ok) else pure (ForInStep.yield r)) (TP X pins σ Q) X.xe s
theorem zaY {X : Cx} : PTs X [] zj1:=fun _ _ _ H _ I h=>wpAny_tests_nil ⟨H,I,h⟩
theorem zd6 {X : Cx} {c : Expr} {t : TT} (hc : PT X c t) : PTs X [c] t:=fun pins s σ H Q I h=>wpAny_tests_one (hc pins s σ H Q I h)
section
variable {prog : Program} {w : World} {A : Around} {R : Result -> Shared -> Prop} {s : Shared}
theorem ziM {elt target iter : Expr} {ifs : List Expr} {scope : Scope} {pos : Pos} {it acc : Value} {env : Env} (I : Nat -> Shared -> Prop)
   (turn : ∀ n s,I n s -> wpAny (model prog w) A (pyNext it) (fun r s₁=>match r with
     | none=>R (.ok .next) s₁
     | some v=>wpAny (model prog w) A (letOwnedTupleGo target it v) (fun _ s₁'=>wpAny (model prog w) A (assign target env v) (fun _ s₂ =>
         wpAny (model prog w) A (forIn ifs true fun c r=>if r = true then do let ok <- isTrue c env (eval c env); pure (ForInStep.yield ok) else pure (ForInStep.yield r)) (fun ok s₃ =>
           if ok = true then wpAny (model prog w) A (eval elt env) (fun x s₄ =>
             wpAny (model prog w) A (call (.builtin "list.append") [acc,x]) (fun _ s₅=>∃ m,m < n /\ I m s₅) (fun _ _=>False) s₄) (fun _ _=>False) s₃
           else ∃ m,m < n /\ I m s₃) (fun _ _=>False) s₂) (fun _ _=>False) s₁') (fun _ _=>False) s₁) (fun _ _=>False) s)
   (n : Nat) (h : I n s) : codeAny (model prog w) A (.compLoop (.ListComp elt [⟨target,iter,ifs,0⟩] scope pos) 0 it acc env) R s:=by
 refine codeAny_loop rfl I (fun n s hI=>?_) n h
 show wpAny _ A ((compTurn (.ListComp elt [⟨target,iter,ifs,0⟩] scope pos) 0 it acc env).onRaise (fun x=>do noteFrame x env; theTreesLotGoes x)) _ _ s
 refine wpAny_noted ?_
 rw [compTurn_list]
 refine wpAny_bind (wpAny_standAt (wpAny_bind (wpAny_mono (turn n s hI) (fun r s₁ h₁=>?_) fun _ _ h'=>h'.elim)))
 cases r with
 | none=>exact wpAny_pure h₁
 | some v =>
   refine wpAny_bind (wpAny_mono h₁ (fun _ s₁' h₁'=>?_) fun _ _ h'=>h'.elim)
   refine wpAny_bind (wpAny_mono h₁' (fun _ s₂ h₂=>wpAny_bind (wpAny_mono h₂ (fun ok s₃ h₃=>?_) fun _ _ h'=>h'.elim)) fun _ _ h'=>h'.elim)
   cases ok with
   | false=>exact wpAny_pure ⟨rfl,h₃⟩
   | true=>exact wpAny_bind (wpAny_bind (wpAny_mono h₃ (fun x s₄ h₄=>wpAny_bind (wpAny_mono h₄ (fun _ s₅ h₅=>wpAny_pure (wpAny_pure ⟨rfl,h₅⟩)) fun _ _ h'=>h'.elim)) fun _ _ h'=>h'.elim))
end
def zdB (g : TG) (tt : TT) (te : TE) (J : It) (D : Addr) (σ0 : St) (H0 : Hp) (Q : Hp -> Prop) : Prop :=
 ∃ W : Nat -> Nat -> St -> Hp -> Prop,(∃ m,W 0 m σ0 H0) /\ ∀ i m σ' H',W i m σ' H' ->
   (J.stop i H' /\ Q H') \/ (J.go i H' /\ ∃ M : St -> Hp -> Prop,(∀ σ2 H2,M σ2 H2 -> ∃ m',m' < m /\ W (i + 1) m' σ2 H2) /\
     ∀ x H2,J.yld i H' x H2 -> g x σ' H2 fun σ3 H3=>tt σ3 H3 fun ok H4=>if ok = true then te σ3 H4 fun y H5=>∃ ys,H5 D = some (.lst ys) /\ ys.length < sizeLine /\ M σ3 (upd H5 D (.lst (ys ++ [y]))) else M σ3 H4)
def ze4 (src : List (Option Nat)) (wi : TI) (g : TG) (tt : TT) (te : TE) : TE:=fun σ H Q=>wi σ H fun J H1=>∀ D,H1 D = none -> zdB g tt te J D (zaO src σ) (upd H1 D (.lst [])) (fun H'=>Q (.ref D) H')
structure zqf (Y : Cx) (tg : Expr) (J : It) (fp : List Addr) (it : Addr) (tn : Nat -> Heap -> Prop) : Prop where
 item : ∀ (i : Nat) (pins : List (Addr × Obj)) (s : Shared) (σ : St) (H : Hp) (E : Value -> Shared -> Prop),Inv Y pins σ H s -> (∀ b ∈ fp,zdD Y pins H b) -> tn i s.heap -> J.go i H ->
   wpAny (model Y.prog Y.w) Y.A (pyNext (.ref it)) (fun r s1=>∃ u,r = some u /\ wpAny (model Y.prog Y.w) Y.A (letOwnedTupleGo tg (.ref it) u) (fun _ s2=>∃ x H',Inv Y pins σ H' s2 /\ zaJ x u /\ J.yld i H x H' /\ tn (i + 1) s2.heap /\ ∀ b ∈ fp,H' b = none) E s1) E s
 done : ∀ (i : Nat) (pins : List (Addr × Obj)) (s : Shared) (σ : St) (H : Hp) (E : Value -> Shared -> Prop),Inv Y pins σ H s -> (∀ b ∈ fp,zdD Y pins H b) -> tn i s.heap -> J.stop i H ->
   wpAny (model Y.prog Y.w) Y.A (pyNext (.ref it)) (fun r s1=>r = none /\ Inv Y pins σ H s1) E s
theorem zhi.toC {P : Program} {w : World} {K : PySem.W.Frag} {tg : Expr} {J : It} {fp : List Addr} {it : Addr} {tn : Nat -> Heap -> Prop} (T : zhi P w K tg J fp it tn) {Y : Cx} (h1 : Y.prog = P) (h2 : Y.w = w) (h3 : Y.K = K) (hc : Y.calm = true) : zqf Y tg J fp it tn:=by
 subst h1 h2 h3
 exact ⟨T.item Y rfl rfl rfl hc,T.done Y rfl rfl rfl hc⟩
section
variable {X : Cx} {pins : List (Addr × Obj)} {σ : St} {H : Hp} {s : Shared} {N' : List Str} {scope : Scope} {cl : List (Str × Addr)} {src : List (Option Nat)} {elt tgt iter : Expr} {ifs : List Expr} {pos : Pos} {wi : TI} {g : TG} {tt : TT} {te : TE}
structure zaL (X : Cx) (N' : List Str) (scope : Scope) (cl : List (Str × Addr)) (src : List (Option Nat)) : Prop where
 kind : scope.kind = .function
 cell : ∀ y ∈ scope.names,y.2 ≠ .cell
 names : ∀ y ∈ scope.names,y.2 = .local -> scope.names.lookup y.1 = some .local
 clos : zmU X scope cl
 srco : zqc X N' src
 vis : ∀ (i : Nat) x,N'[i]? = some x -> src[i]? ≠ some none -> (relabel scope X.env).names.lookup x = some .cell \/ (relabel scope X.env).names.lookup x = some .free
theorem zh5 {it : Addr} {fp : List Addr} {tn : Nat -> Heap -> Prop} {J : It} {RQ : Addr -> Hp -> Prop} {E : Value -> Shared -> Prop} {RR : Value -> Addr -> Result -> Shared -> Prop}
   (TC : ∀ C s₀ H₀,zqf (zbC X N' scope cl C s₀ H₀ fp pins) tgt J fp it tn) (ok : zaL X N' scope cl src)
   (hg : ∀ C s₀ H₀ fp pins,PG (zbC X N' scope cl C s₀ H₀ fp pins) tgt g) (ht : ∀ C s₀ H₀ fp pins,PTs (zbC X N' scope cl C s₀ H₀ fp pins) ifs tt) (he : ∀ C s₀ H₀ fp pins,PE (zbC X N' scope cl C s₀ H₀ fp pins) elt te)
   (I : Inv X pins σ H s) (T : zhi X.prog X.w X.K tgt J fp it tn) (st : tn 0 s.heap) (hf : ∀ b ∈ fp,zdD X pins H b)
   (rd : ∀ D,H D = none -> zdB g tt te J D (zaO src σ) (upd H D (.lst [])) (fun H'=>RQ D H'))
   (hRR : ∀ D C H' s' m,Inv X pins σ H' s' -> s'.heap.Ns C m -> zdD X pins H' C -> RQ D H' -> RR (.ref D) C (.ok .next) s') :
   wpAny (model X.prog X.w) X.A (newList []) (fun acc s₃=>wpAny (model X.prog X.w) X.A (newFunctionEnv scope X.env.globals cl [] X.env.qual none .none (some X.env)) (fun cenv s₄ =>
     codeAny (model X.prog X.w) X.A (.compStart (.ListComp elt [⟨tgt,iter,ifs,0⟩] scope pos) 0 (.ref it) acc { cenv with scope:=relabel scope X.env }) (RR acc cenv.locals) s₄) E s₃) E s:=by
 -- the list
 refine wpAny_newObj_type ?_ (by show 0 <= sizeLine; exact Nat.zero_le _)
 have hD : H s.heap.objs.size = none:=I.hok.fresh (Nat.le_refl _)
 have I3 : Inv X pins σ (upd H s.heap.objs.size (.lst [])) { s with heap:=s.heap.push { cls:=.type "list",data:=.seq ([] : List Value).toArray } } :=
   I.lnew (ys:=[]) (its:=[]) (t':=s.toks) .nil (Nat.zero_le _)
 have old3 : ∀ b o,s.heap.get? b = some o -> (s.heap.push { cls:=.type "list",data:=.seq ([] : List Value).toArray }).get? b = some o:=fun b o e=>Heap.get?_push_of_some _ e
 have lt0 : ∀ b ∈ fp,b < s.heap.objs.size:=fun b hb=>by
   obtain ⟨o,e,_⟩:=T.obj 0 _ st b hb
   exact Heap.lt_size e
 have hf3 : ∀ b ∈ fp,zdD X pins (upd H s.heap.objs.size (.lst [])) b:=fun b hb=>⟨by rw [zbj (Nat.ne_of_lt (lt0 b hb))]; exact (hf b hb).1,(hf b hb).2⟩
 have lt3 : ∀ b ∈ fp,b < (s.heap.push { cls:=.type "list",data:=.seq ([] : List Value).toArray }).objs.size:=fun b hb=>by
   rw [Heap.size_push]; exact Nat.lt_succ_of_lt (lt0 b hb)
 have st3 : tn 0 (s.heap.push { cls:=.type "list",data:=.seq ([] : List Value).toArray }):=T.keep _ _ _ st fun b _ o e=>old3 b o e
 obtain ⟨W,⟨m0,w0⟩,turn⟩:=rd _ hD
 generalize hs3 : ({ s with heap:=s.heap.push { cls:=.type "list",data:=.seq ([] : List Value).toArray } } : Shared) = s3 at I3 ⊢
 have hh3 : s3.heap = s.heap.push { cls:=.type "list",data:=.seq ([] : List Value).toArray }:=by rw [<- hs3]
 rw [<- hh3] at lt3 st3
 clear old3 hs3 hh3
 generalize hD' : s.heap.objs.size = D at *
 -- the block's dict
 refine wpAny_newFunctionEnv ok.cell (by intro y hy; cases hy) (fun h₁ hns₁ hsb₁=>?_) ok.kind
 have old : ∀ b o,s3.heap.get? b = some o -> h₁.get? b = some o:=fun b o e=>hsb₁.extBut b o (Nat.ne_of_lt (Heap.lt_size e)) (Heap.get?_push_of_some _ e)
 have hC : zdD X pins (upd H D (.lst [])) s3.heap.objs.size:=I3.fpOk (Nat.le_refl _) (I3.hok.fresh (Nat.le_refl _))
 have IB : ∀ tk,Inv (zbC X N' scope cl s3.heap.objs.size s3 (upd H D (.lst [])) fp pins) [] (zaO src σ) (upd H D (.lst [])) { s3 with heap:=h₁,toks:=tk }:=fun tk =>
   I3.block ok.kind ok.clos ok.srco hf3 lt3 hns₁ old ok.vis
 have stB : tn 0 h₁:=T.keep _ _ _ st3 fun b _ o e=>old b o e
 -- what is true of the iterator's records within
 have stat : ∀ {H' : Hp} ,(∀ b ∈ fp,H' b = none) -> ∀ b ∈ fp,zdD (zbC X N' scope cl s3.heap.objs.size s3 (upd H D (.lst [])) fp pins) [] H' b:=fun hn b hb=>by
   obtain ⟨_,f1,f2,f3,f4,f5⟩:=hf3 b hb
   refine ⟨hn b hb,Nat.ne_of_lt (lt3 b hb),fun z=>(List.mem_cons.mp (I3.stkSub b z)).elim f1 f2,.inl hb,fun x c e=>f4 x c (ok.clos.sub x c e),fun p hp=>?_⟩
   have hp' : p ∈ (X.pn ++ pins) ++ []:=hp
   rw [List.append_nil] at hp'
   exact f5 p hp'
 -- from within back to the frame around
 have back : ∀ {σ' : St} {H' : Hp} {s' : Shared},Inv (zbC X N' scope cl s3.heap.objs.size s3 (upd H D (.lst [])) fp pins) [] σ' H' s' -> Inv X pins σ H' s' /\ (∃ m,s'.heap.Ns s3.heap.objs.size m) /\ zdD X pins H' s3.heap.objs.size:=fun {σ' H' s'} J=>by
   obtain ⟨m,hn,_⟩:=J.loc
   refine ⟨I3.call' (ch:=fp) J.os J.base J.hok J.bare (fun b hb=>?_),⟨m,hn⟩,⟨J.free,hC.2⟩⟩
   obtain ⟨_,f1,_,f3,f4,f5⟩:=hf3 b hb
   exact ⟨f3,f1,f4,f5⟩
 have loop : ∀ tk,codeAny (model X.prog X.w) X.A (.compLoop (.ListComp elt [⟨tgt,iter,ifs,0⟩] scope pos) 0 (.ref it) (.ref D) (compEnvC scope cl s3.heap.objs.size X.env)) (RR (.ref D) s3.heap.objs.size) { s3 with heap:=h₁,toks:=tk }:=by
   intro tk
   refine ziM (fun n s'=>∃ i σ' H',Inv (zbC X N' scope cl s3.heap.objs.size s3 (upd H D (.lst [])) fp pins) [] σ' H' s' /\ tn i s'.heap /\ (∀ b ∈ fp,H' b = none) /\ W i n σ' H') ?_ m0
     ⟨0,_,_,IB tk,stB,fun b hb=>(hf3 b hb).1,w0⟩
   rintro n s4 ⟨i,σ4,H4,I4,st4,fr4,w4⟩
   rcases turn i n σ4 H4 w4 with ⟨stop,q⟩ | ⟨go,M,hM,step⟩
   . refine thn ((TC _ _ _).done i [] s4 σ4 H4 (fun _ _=>False) I4 (stat fr4) st4 stop) fun r s5 ⟨hr,I5⟩=>?_
     subst hr
     obtain ⟨J,⟨m,hn⟩,hCf⟩:=back I5
     exact hRR D _ H4 s5 m J hn hCf q
   . refine thn ((TC _ _ _).item i [] s4 σ4 H4 (fun _ _=>False) I4 (stat fr4) st4 go) fun r s5 ⟨u,hr,h5⟩=>?_
     subst hr
     refine thn h5 fun _ s6 ⟨x,H6,I6,r6,y6,st6,fr6⟩=>?_
     have I6':=I6.pinned (stat fr6) (T.obj _ _ st6)
     have again : ∀ {σ7 : St} {H7 : Hp} {s7 : Shared},Inv (zbC X N' scope cl s3.heap.objs.size s3 (upd H D (.lst [])) fp pins) ([] ++ zgV fp s6.heap) σ7 H7 s7 -> M σ7 H7 ->
         ∃ m,m < n /\ ∃ i σ' H',Inv (zbC X N' scope cl s3.heap.objs.size s3 (upd H D (.lst [])) fp pins) [] σ' H' s7 /\ tn i s7.heap /\ (∀ b ∈ fp,H' b = none) /\ W i m σ' H':=fun {σ7 H7 s7} I7 n7=>by
       obtain ⟨m',hm,w7⟩:=hM σ7 H7 n7
       refine ⟨m',hm,i + 1,σ7,H7,I7.unpinned,T.keep _ _ _ st6 fun b hb o e=>(I7.pin (b,o) (List.mem_append_right _ (List.mem_append_right _ (zdA hb e)))).1,fun b hb=>?_,w7⟩
       obtain ⟨o,e,d⟩:=T.obj _ _ st6 b hb
       exact (I7.pin (b,o) (List.mem_append_right _ (List.mem_append_right _ (zdA hb e)))).2.1
     refine thn (hg _ _ _ _ _ _ s6 σ4 H6 x u _ I6' r6 (step x H6 y6)) fun _ s7 ⟨σ7,H7,I7,q7⟩=>?_
     refine thn (ht _ _ _ _ _ _ s7 σ7 H7 _ I7 q7) fun k s8 ⟨H8,I8,q8⟩=>?_
     cases k with
     | false=>exact again I8 q8
     | true =>
       rw [if_pos rfl] at q8 ⊢
       refine thn (he _ _ _ _ _ _ s8 σ7 H8 _ I8 q8) fun y s9 ⟨yv,H9,I9,r9,ys,hys,hz,q9⟩=>?_
       exact thn (zbL _ s9 σ7 H9 (.ref D) [yv] (.ref D) [y] (fun _ H'=>M σ7 H') I9 rfl (.cons r9 .nil) ⟨D,ys,yv,rfl,rfl,hys,hz,q9⟩) fun _ s10 ⟨_,H10,I10,_,q10⟩=>again I10 q10
 exact codeAny_compStart_list (loop _) (T.self _ _ _ _ _ stB (loop _))
theorem zaU (hc : X.calm = true) (ok : zaL X N' scope cl src) (hi : PI X tgt iter wi)
   (hg : ∀ C s₀ H₀ fp pins,PG (zbC X N' scope cl C s₀ H₀ fp pins) tgt g) (ht : ∀ C s₀ H₀ fp pins,PTs (zbC X N' scope cl C s₀ H₀ fp pins) ifs tt) (he : ∀ C s₀ H₀ fp pins,PE (zbC X N' scope cl C s₀ H₀ fp pins) elt te)
   (hs : ∀ x,foldedSetIterable iter X.env x = pure x:=by intro _; rfl) : PE X (.ListComp elt [⟨tgt,iter,ifs,0⟩] scope pos) (ze4 src wi g tt te):=by
 intro pins s σ H Q I h
 rw [eval_ListComp]
 refine wpAny_comprehension_free (use:=none) rfl hs ok.clos.clos ok.kind ok.names (thn (hi pins s σ H _ I h) fun v s1 h1=>thn h1 fun itv s2 h2=>?_)
 obtain ⟨it,fp,tn,J,H2,e,I2,T,st2,f2,rd⟩:=h2
 subst e
 refine zh5 (RQ:=fun D H'=>Q (.ref D) H') (RR:=fun acc C=>compPost (model X.prog X.w) X.A X.xe none (EP X pins σ Q) acc C) (fun _ _ _=>T.toC rfl rfl rfl hc) ok hg ht he I2 T st2 f2 rd ?_
 intro D C H' s' m J hn hC q
 obtain ⟨c0,c1,_,c3,c4,c5⟩:=hC
 exact ⟨m,hn,fun h' sb=>⟨.ref D,H',J.turned (t':=s'.toks) (fun b o hb e=>(sb.2 b hb).trans e) c0 c1 c3 c4 c5,rfl,q⟩⟩
theorem zcP {i : Nat} {y : Str} {py spos : Pos} (hN : X.N.Nodup) (hy : X.N[i]? = some y) (hly : Loc X.env.scope y) (hc : X.calm = true) (ok : zaL X N' scope cl src) (hi : PI X tgt iter wi)
   (hg : ∀ C s₀ H₀ fp pins,PG (zbC X N' scope cl C s₀ H₀ fp pins) tgt g) (ht : ∀ C s₀ H₀ fp pins,PTs (zbC X N' scope cl C s₀ H₀ fp pins) ifs tt) (he : ∀ C s₀ H₀ fp pins,PE (zbC X N' scope cl C s₀ H₀ fp pins) elt te)
   (hsw : swapsWith (.ListComp elt [⟨tgt,iter,ifs,0⟩] scope pos) (some (.Name y py)) spos.line X.env = pure true:=by rfl)
   (hs : ∀ x,foldedSetIterable iter X.env x = pure x:=by intro _; rfl) (hf : X.fn y = true \/ X.env.scope.names.lookup y = some .local:=by first | exact .inl rfl | exact .inr rfl | assumption) :
   PS X (.Assign [.Name y py] (.ListComp elt [⟨tgt,iter,ifs,0⟩] scope pos) spos) (zpc (ze4 src wi g tt te) (zeE i)):=by
 intro pins s σ H D0 I h
 rw [exec_Assign_Name_used _ _ _ _ hsw]
 refine wpAny_bind (wpAny_standAt (wpAny_bind ?_))
 show wpAny _ X.A (do let _ <- comprehension (.ListComp elt [⟨tgt,iter,ifs,0⟩] scope pos) scope X.env _ (newList []) false (eval iter X.env) (some (assign (.Name y py) X.env))) _ _ s
 refine wpAny_bind (wpAny_mono (wpAny_comprehension_free (Q:=fun _ s'=>SP X pins D0 .next s') rfl hs ok.clos.clos ok.kind ok.names (thn (hi pins s σ H _ I h) fun v s1 h1=>thn h1 fun itv s2 h2=>?_))
   (fun _ s' hq=>wpAny_pure (wpAny_pure hq)) fun _ _ e=>e)
 obtain ⟨it,fp,tn,J,H2,e,I2,T,st2,f2,rd⟩:=h2
 subst e
 refine zh5 (RQ:=fun D H'=>zeE i (.ref D) σ H' D0.nx) (RR:=fun acc C=>compPost (model X.prog X.w) X.A X.xe (some (assign (.Name y py) X.env)) (fun _ s'=>SP X pins D0 .next s') acc C) (fun _ _ _=>T.toC rfl rfl rfl hc) ok hg ht he I2 T st2 f2 rd ?_
 intro D C H' s' m J hn hC q
 obtain ⟨c0,c1,_,c3,c4,c5⟩:=hC
 show wpAny _ _ (assign (.Name y py) X.env (.ref D)) _ _ s'
 refine wpAny_assign_Name (zhW J hN hy hly (v:=.ref D) rfl (fun s'' J2 ⟨a,sb,ha⟩=>?_) hf)
 have hCa : C ≠ a:=by
   rcases ha with z | z
   . rw [z]; exact c1
   . exact (c4 y a z).symm
 exact ⟨m,hn.sameBut sb hCa,fun h' sb'=>⟨_,H',J2.turned (t':=s''.toks) (fun b o hb e=>(sb'.2 b hb).trans e) c0 c1 c3 c4 c5,q⟩⟩
end
end L2
set_option Elab.async false
set_option linter.all false
set_option maxRecDepth 100000
namespace L2
open PySem PySem.Spec PyProof.Rows GM
abbrev Tr0 (h B : Heap) (e : Addr) (cls : Value) : Prop :=
 ∃ oe vs,h.get? e = some oe /\ oe.cls = cls /\ oe.data = .fields vs /\ vs[1]? = some .none /\ vs[2]? = some .none /\ oe.dict = none /\ B.get? e = none
abbrev Tr1 (h B : Heap) (e : Addr) (cls fl : Value) : Prop :=
 ∃ oe vs T oT ts,h.get? e = some oe /\ oe.cls = cls /\ oe.data = .fields vs /\ vs[1]? = some (.ref T) /\ vs[2]? = some .none /\ oe.dict = none /\ B.get? e = none /\ B.get? T = none /\ T ≠ e /\ h.get? T = some oT /\ oT.data = .fields ts /\ ts[3]? = some fl
structure Fly (B : Heap) (l : List Env) (e : Addr) (cls fl : Value) (h : Heap) : Prop where
 st : B.StaysIn h
 fr : h.FunFrames B l
 tr : Tr1 h B e cls fl
theorem zju {f : Array Value -> Array Value} (o : Obj) : (Obj.mapFields f o).dict = o.dict:=by
 obtain ⟨c,d,dt,sl⟩:=o
 cases dt <;> rfl
theorem zgF {h : Heap} {T : Addr} {f : Obj -> Obj} {b : Addr} (n : b ≠ T) : (h.update T f).get? b = h.get? b:=Heap.get?_update_other _ _ (Ne.symm n)
theorem zfU {h : Heap} {T b : Addr} {oT o : Obj} {ts : Array Value} (hT : h.get? T = some oT) (dT : oT.data = .fields ts) (hb : h.get? b = some o) (hn : ∀ vs,o.data ≠ .fields vs) : b ≠ T:=by
 rintro rfl
 rw [hT] at hb
 cases hb
 exact hn _ dT
theorem znD {B : Heap} {T b : Addr} {o : Obj} (n : B.get? T = none) (q : B.get? b = some o) : b ≠ T:=by
 rintro rfl
 rw [n] at q
 cases q
section
variable {M : Model} {A : Around} {E : Value -> Shared -> Prop} {s : Shared} {B : Heap} {l outer : List Env} {env : Env} {L e : Addr} {cls fl : Value} {Q : Unit -> Shared -> Prop}
theorem Fly.land (F : Fly B l e cls fl s.heap) (k : ∀ h',Fly B l e cls .none h' -> s.heap.UpToSlots h' -> Q () { s with heap:=h' }) : wpAny M A (setFlight (.ref e) none) Q E s:=by
 obtain ⟨st,fr,oe,vs,T,oT,ts,he,hc,hd,h1,h2,hdi,be,bT,ne,hT,dT,h3⟩:=F
 have sz : 3 < ts.size:=(Array.getElem?_eq_some_iff.mp h3).1
 unfold setFlight
 refine wpAny_bind (wpAny_field he hd h1 ?_)
 rw [if_pos (by simp)]
 have at3 : ∀ b,b ≠ T -> (s.heap.update T (Obj.mapFields (·.setIfInBounds 3 Value.none))).get? b = s.heap.get? b:=fun b n=>zgF n
 have tr : Tr1 (s.heap.update T (Obj.mapFields (·.setIfInBounds 3 Value.none))) B e cls .none :=
   ⟨oe,vs,T,Obj.mapFields (·.setIfInBounds 3 Value.none) oT,ts.setIfInBounds 3 Value.none,(at3 e ne.symm).trans he,hc,hd,h1,h2,hdi,be,bT,ne,
     Heap.get?_update_self _ hT (Obj.isFreed_of_fields (Obj.data_mapFields dT _)),Obj.data_mapFields dT _,by simp [sz]⟩
 refine wpAny_setField hT dT sz (k _ ⟨fun b o q=>(at3 b (znD bT q)).trans (st b o q),fr.of_keeps fun b o hb hn=>⟨o,(at3 b (zfU hT dT hb hn)).trans hb,rfl⟩,tr⟩ fun b o hb hn=>⟨o.slots,(at3 b (zfU hT dT hb hn)).trans hb⟩)
theorem zl4 {oe : Obj} {vs : Array Value} {head : Value} {had : Bool} (hfr : A.frames = some (env :: outer)) (hf : env.frame = some L) (st : B.StaysIn s.heap) (fr : s.heap.FunFrames B (env :: outer)) (he : s.heap.get? e = some oe)
   (hd : oe.data = .fields vs) (sz : 1 < vs.size) (h2 : vs[2]? = some .none) (hdi : oe.dict = none) (be : B.get? e = none) (k : ∀ h',Fly B (env :: outer) e oe.cls (rawInt L) h' -> s.heap.UpToSlots h' -> Q () { s with heap:=h' }) :
   wpAny M A (do let a <- frameOf env; let pl <- entryPlaceOf L had; let b <- EntryCells.newEntry head a .none (rawInt L) .none pl; setField (.ref e) 1 b) Q E s:=by
 have nfr : e ∉ (env :: outer).filterMap (·.frame):=fun z=>by
   obtain ⟨_,o,ho,hnf⟩:=fr.mem z
   rw [he] at ho
   cases ho
   exact hnf vs hd
 refine wpAny_bind (wpAny_frameOf_fun hfr fr hf fun g sg=>wpAny_bind (wpAny_entryPlaceOf fun pl hpl=>?_))
 unfold EntryCells.newEntry newFields
 refine wpAny_bind (wpAny_newObj_type ?_ (hpl.sizeOk5 _ _ _ _ _))
 have eg : g.get? e = some oe:=(sg.2.1 e nfr).trans he
 have stg : B.StaysIn g:=fun b o q=>by
   rw [sg.2.1 b fun z=>?_]
   . exact st b o q
   . rw [(fr.mem z).1] at q; cases q
 generalize hob : ({ cls:=.type "traceback",data:=.fields ([head,.ref L,.none,rawInt L,.none] ++ (if pl.isEmpty then List.replicate 6 Value.none else pl)).toArray } : Obj) = tb
 have dtb : tb.data = .fields ([head,.ref L,.none,rawInt L,.none] ++ (if pl.isEmpty then List.replicate 6 Value.none else pl)).toArray:=by rw [<- hob]
 have ftb : tb.isFreed = false:=Obj.isFreed_of_fields dtb
 have e2:=Heap.get?_push_of_some (h:=g) tb eg
 have neT : g.objs.size ≠ e:=Nat.ne_of_gt (Heap.lt_size eg)
 have at3 : ∀ b o,b ≠ e -> g.get? b = some o -> ((g.push tb).update e (Obj.mapFields (·.setIfInBounds 1 (.ref g.objs.size)))).get? b = some o:=fun b o n q=>by
   rw [zgF n]
   exact Heap.get?_push_of_some _ q
 refine wpAny_setField e2 hd sz (k _ ?_ ?_)
 . have d3:=Obj.data_mapFields hd (·.setIfInBounds 1 (Value.ref g.objs.size))
   refine ⟨fun b o q=>at3 b o (znD be q) (stg b o q),fr.of_keeps fun b o hb hn=>?_,_,_,g.objs.size,tb,_,Heap.get?_update_self _ e2 (Obj.isFreed_of_fields d3),Obj.cls_mapFields _ _,d3,by simp [sz],?_,?_,be,stg.fresh,neT,?_,dtb,?_⟩
   . obtain ⟨sl,q⟩:=sg.2.2 b o hb
     exact ⟨_,at3 b _ (zfU he hd hb hn) q,rfl⟩
   . rw [Array.getElem?_setIfInBounds_ne (by decide)]; exact h2
   . exact (zju oe).trans hdi
   . rw [zgF neT]; exact Heap.get?_push_size _ ftb
   . first | (simp; done) | (rcases hpl with rfl | ⟨_,_,_,_,_,_,_,rfl⟩ <;> simp)
 . exact fun b o hb hn=>by
     obtain ⟨sl,q⟩:=sg.2.2 b o hb
     exact ⟨sl,at3 b _ (zfU he hd hb hn) q⟩
theorem zl2 (hfr : A.frames = some (env :: outer)) (hf : env.frame = some L) (st : B.StaysIn s.heap) (fr : s.heap.FunFrames B (env :: outer)) (t : Tr0 s.heap B e cls)
   (k : ∀ h',Fly B (env :: outer) e cls (rawInt L) h' -> s.heap.UpToSlots h' -> Q () { s with heap:=h' }) : wpAny M A (noteFrame (.ref e) env) Q E s:=by
 obtain ⟨oe,vs,he,hc,hd,h1,h2,hdi,be⟩:=t
 subst hc
 unfold noteFrame
 simp only [hf]
 refine wpAny_bind (wpAny_field he hd h1 ?_)
 rw [if_neg (by decide)]
 exact zl4 hfr hf st fr he hd (Array.getElem?_eq_some_iff.mp h1).1 h2 hdi be k
theorem zj7 (hfr : A.frames = some (env :: outer)) (hf : env.frame = some L) (st : B.StaysIn s.heap) (fr : s.heap.FunFrames B (env :: outer)) (t : Tr0 s.heap B e cls)
   (k : ∀ h',Fly B outer e cls .none h' -> s.heap.UpToSlots h' -> Q () { s with heap:=h' }) : wpAny M A (leaving env (.ref e)) Q E s:=by
 unfold leaving
 refine wpAny_bind (zl2 hfr hf st fr t fun h1 F1 s1=>Fly.land F1 fun h2 F2 s2=>k h2 ⟨F2.st,F2.fr.2.2,F2.tr⟩ (s1.trans s2))
end
theorem za9.there {P : Program} {w : World} {H : Hp} {h : Heap} {a : Addr} {o : HO} (x : za9 P w H h a o) : ∃ u,h.get? a = some u:=by
 cases o with
 | lst xs=>obtain ⟨_,_,_,_,e⟩:=x; exact ⟨_,e⟩
 | tup xs=>obtain ⟨_,_,_,_,e,_⟩:=x; exact ⟨_,e⟩
 | dK kvs=>obtain ⟨_,_,_,_,o,_,_,e,_⟩:=x; exact ⟨_,e⟩
 | dT kvs=>obtain ⟨_,_,_,_,o,_,_,e,_⟩:=x; exact ⟨_,e⟩
 | set S n=>obtain ⟨o,_,_,_,e,_⟩:=x; exact ⟨_,e⟩
 | ins C dx fs=>obtain ⟨_,_,_,e,_⟩:=x; exact ⟨_,e⟩
 | own y=>exact x
 | xd fs=>obtain ⟨_,⟨_,_,_,e,_⟩,_⟩:=x; exact ⟨_,e⟩
 | rng lo hi=>obtain ⟨_,_,_,e⟩:=x; exact ⟨_,e⟩
 | frz ob u=>obtain ⟨e,_⟩:=x; exact ⟨_,e⟩
 | tbl ps=>exact ⟨_,x⟩
 | met f y=>exact ⟨_,x⟩
 | ext φ=>obtain ⟨_,e,_⟩:=x; exact e
structure zrR (B : Heap) (fs : List Addr) (H H' : Hp) (h : Heap) : Prop where
 trk : ∀ a o,H' a = some o -> ∃ u,B.get? a = some u
 old : ∀ b o,h.get? b = some o -> H b = none -> b ∉ fs -> B.get? b = some o
 thr : ∀ b o,h.get? b = some o -> b ∉ fs -> ∃ u,B.get? b = some u
def CX1 (P : Program) (w : World) : CXT:=fun outer H s E e s'=>∃ (ex : Addr) (C : Value) (H' : Hp) (B : Heap),e = .ref ex /\ s'.os = s.os /\ AllBare s'.gens /\ Un (frs outer) [] H H' s.heap s'.heap /\ HOk P w H' s'.heap /\
 Fly B outer ex C .none s'.heap /\ zrR B (frs outer) H H' s.heap /\ E C none H'
section
variable {B h h1 h' : Heap} {fs : List Addr} {H H' : Hp} {P : Program} {w : World}
end
section
variable {X : Cx} {pins : List (Addr × Obj)} {σ : St} {H H' : Hp} {s s' : Shared} {B : Heap} {ex : Addr} {C : Value} {E : XK} {E' : Value -> Shared -> Prop}
theorem zja (I : Inv X pins σ H s) (hx : X.ex = []) (os : s'.os = s.os) (bare : AllBare s'.gens) (un : Un (frs X.stack) [] H H' s.heap s'.heap) (hok : HOk X.prog X.w H' s'.heap) (stB : B.StaysIn s'.heap) (ov : zrR B (frs X.stack) H H' s.heap)
   (q : E C none H') (fly : ∀ (Q : Unit -> Shared -> Prop),(∀ h',Fly B X.outer ex C .none h' -> s'.heap.UpToSlots h' -> Q () { s' with heap:=h' }) -> wpAny (model X.prog X.w) X.A (leaving X.env (.ref ex)) Q E' s') :
   wpAny (model X.prog X.w) X.A (leaving X.env (.ref ex)) (fun _ s''=>CX1 X.prog X.w X.outer X.H₀ X.s₀ E (.ref ex) s'') E' s':=by
 have base : Un X.fs [] X.H₀ H X.s₀.heap s.heap:=by have:=I.base; rwa [hx] at this
 have nL : ∀ b o,X.s₀.heap.get? b = some o -> b ∉ X.fs -> b ∉ frs X.stack:=fun b o e n z=>by
   rcases List.mem_cons.mp (I.stkSub b z) with r | r
   . exact Nat.ne_of_lt (Nat.lt_of_lt_of_le (Heap.lt_size e) I.ok.above) r
   . exact n r
 have old : ∀ b o,X.s₀.heap.get? b = some o -> X.H₀ b = none -> b ∉ X.fs -> B.get? b = some o:=fun b o e n nf =>
   ov.old b o (base.keep b o e n nf (by simp)) (base.free b o e n (by simp)) (nL b o e nf)
 have thr : ∀ b o,X.s₀.heap.get? b = some o -> b ∉ X.fs -> ∃ u,B.get? b = some u:=fun b o e nf=>by
   obtain ⟨o',e1⟩:=base.there b o e (by simp)
   exact ov.thr b o' e1 (nL b o e nf)
 refine fly _ fun h' F sm=>⟨ex,C,H',B,rfl,os.trans I.os,bare,⟨fun b o e n nf _=>F.st b o (old b o e n nf),fun b o e n hb _=>?_,fun b o e n _=>?_,fun b o e _=>?_,fun b xs e=>un.tups b xs (base.tups b xs e),
   fun b o u e=>un.frzs b o u (base.frzs b o u e),fun b ps e=>?_⟩,fun a o e=>?_,F,⟨ov.trk,old,thr⟩,q⟩
 . obtain ⟨sl,e1⟩:=base.slot b o e n hb (by simp)
   obtain ⟨sl',e2⟩:=un.any e1 (base.free b o e n (by simp)) (by simp)
   obtain ⟨_,o',ho',nr⟩:=I.ok.funs.mem hb
   rw [e] at ho'
   cases ho'
   obtain ⟨sl2,e3⟩:=sm b _ e2 nr
   exact ⟨sl2,e3⟩
 . obtain ⟨o',e1⟩:=base.there b o e (by simp)
   exact un.free b o' e1 (base.free b o e n (by simp)) (by simp)
 . by_cases hb : b ∈ X.fs
   . obtain ⟨_,o',ho',nr⟩:=I.ok.funs.mem hb
     rw [e] at ho'
     cases ho'
     have n : X.H₀ b = none:=I.ok.frf b hb
     obtain ⟨sl,e1⟩:=base.slot b o e n hb (by simp)
     obtain ⟨sl',e2⟩:=un.any e1 (base.free b o e n (by simp)) (by simp)
     obtain ⟨sl2,e3⟩:=sm b _ e2 nr
     exact ⟨_,e3⟩
   . obtain ⟨u,e1⟩:=thr b o e hb
     exact ⟨u,F.st b u e1⟩
 . obtain ⟨m1,e1⟩:=base.tbls b ps e
   obtain ⟨m2,e2⟩:=un.tbls b _ e1
   exact ⟨m1 ++ m2,by rw [e2,Array.append_assoc]⟩
 . refine (hok a o e).stay (fun b u hb r=>?_) (fun _ z=>z) fun _ _ z=>z
   have : ∃ v,B.get? b = some v:=by
     rcases hb with rfl | hb
     . exact ov.trk _ _ e
     . exact ov.trk _ _ hb
   obtain ⟨v,ev⟩:=this
   have e2:=stB b v ev
   rw [r] at e2
   cases e2
   exact F.st b u ev
theorem zkK {h' : Heap} {vs : List Value} (I : Inv X pins σ H s) (hx : X.ex = []) (hs : X.stack = X.env :: X.outer) (hf : X.env.frame = some X.env.locals) (m : Heap.MadeExcOf s.heap h' ex C vs) (q : E C none H) :
   wpAny (model X.prog X.w) X.A (leaving X.env (.ref ex)) (fun _ s''=>CX1 X.prog X.w X.outer X.H₀ X.s₀ E (.ref ex) s'') E' { s with heap:=h' }:=by
 obtain ⟨B,hB⟩ : ∃ B,B = PySem.W.hideAll s.heap (frs X.stack):=⟨_,rfl⟩
 have hin : ∀ env ∈ X.stack,∀ b,env.frame = some b -> b ∈ frs X.stack:=fun env he b hb=>List.mem_filterMap.mpr ⟨env,he,hb⟩
 have frB : s.heap.FunFrames B X.stack:=by rw [hB]; exact PySem.W.funFrames_hide I.stack hin
 have getB : ∀ {b o},s.heap.get? b = some o -> b ∉ frs X.stack -> B.get? b = some o:=fun e n=>by rw [hB]; exact PySem.W.hideAll_get _ e n
 have ofB : ∀ {b o},B.get? b = some o -> s.heap.get? b = some o:=fun r=>by rw [hB] at r; exact PySem.W.of_hideAll _ r
 have nfr : ∀ a o,H a = some o -> a ∉ frs X.stack:=fun a o e z=>by
   have:=I.stkFree a z
   rw [e] at this
   cases this
 obtain ⟨t,he,_,_⟩:=m.there
 refine zja (B:=B) (s':={ s with heap:=h' }) I hx rfl I.bare (Un.kept m.keeps) (I.hok.kept m.keeps) (fun b o r=>m.keeps b o (ofB r))
   ⟨fun a o e=>?_,fun b o e _ nf=>getB e nf,fun b o e nf=>⟨o,getB e nf⟩⟩ q fun Q k=>?_
 . obtain ⟨u,e1⟩:=(I.hok a o e).there
   exact ⟨u,getB e1 (nfr a o e)⟩
 . rw [hs] at frB
   refine zj7 (s:={ s with heap:=h' }) (I.ok.frames.trans (congrArg some hs)) hf (fun b o r=>m.keeps b o (ofB r)) (frB.of_keeps fun b o hb _=>⟨o,m.keeps b o hb,rfl⟩) ⟨_,_,he,rfl,rfl,rfl,rfl,rfl,?_⟩ k
   cases z : B.get? ex with
   | none=>rfl
   | some o =>
     have:=ofB z
     rw [m.new] at this
     cases this
end
def zqd (X : Cx) (C : Value) (E : XK) : Prop:=∀ (pins : List (Addr × Obj)) (σ : St) (H : Hp) (s : Shared) (h' : Heap) (ex : Addr) (vs : List Value),Inv X pins σ H s -> Heap.MadeExcOf s.heap h' ex C vs -> E C none H -> X.xe (.ref ex) { s with heap:=h' }
theorem ziB {P : Program} {w : World} {K : PySem.W.Frag} {mg : Str -> Option Value} {base : Heap} {N : List Str} {qual : Str} {scope : Scope} {f : Addr} {cd C : Value} {A : Around} {outer : List Env} {s : Shared} {H : Hp} {E : XK} :
   zqd (zbp (CX1 P w) P w K mg base N qual scope f cd A outer s H E) C E:=fun pins σ H1 s1 h' ex vs I m q=>zkK I rfl rfl rfl m q
def zjH : List Value:=[.type "ValueError",.type "Exception",.type "BaseException",.type "object"]
theorem zpJ {K : PySem.W.Frag} {h : Heap} {C : Addr} {bmB : List Value} {newId : String} (X : K.In h) (q : PySem.W.excIn K C bmB newId = true) :
   ∃ bm N nm qn bs hd sn sub ab col dd k0 k1 k2 k3 k5 mN,h.get? C = some (excClassObj nm qn C N bs bm hd sn sub ab col dd k0 k1 k2 k3 k5 newId) /\ h.Ns N mN /\ mN "__init__" = none /\ OwnTail h bmB bm:=by
 unfold PySem.W.excIn at q
 split at q
 case h_2=>cases q
 rename_i dd cd sl ho
 split at q
 case h_2=>cases q
 rename_i C' bm k0 k1 k2 k3 n k5 hm hs
 simp only [Bool.and_eq_true,beq_iff_eq,Bool.not_eq_true'] at q
 obtain ⟨⟨⟨⟨⟨rfl,rfl⟩,hdel⟩,ht⟩,hok⟩,hni⟩:=q
 obtain ⟨nm,bs,mro,ns,qn,hd,sn,sub,ab,col,del⟩:=cd
 dsimp only at hm hdel hok hni
 subst hm hdel
 have e : sl = #[k0,k1,k2,k3,some (.builtin n),k5]:=by
   cases sl
   simp only at hs
   rw [hs]
 subst e
 exact ⟨bm,ns,nm,qn,bs,hd,sn,sub,ab,col,dd,k0,k1,k2,k3,k5,_,X _ _ ho,.of_isNs (PySem.W.isNs_of_in X hok),PySem.W.nsMap_none_of_in X hok hni,PySem.W.tail_of_in X ht⟩
section
variable {X : Cx} {x : Str} {C : Addr} {E : XK} {e : Expr} {es : List Expr} {t : TA} {np cpos pos : Pos}
def zop (C : Value) (E : XK) (t : TA) : TS:=fun _ σ H=>t σ H fun vs H1=>vs.length <= sizeLine /\ E C none H1
theorem zeF (q : PySem.W.excIn X.K C zjH "ValueError.__new__" = true) (hc : X.calm = true) (hg : Gl X x) (hm : X.mg x = some (.ref C)) (Z : zqd X (.ref C) E) (ha : PA X (e :: es) t) (hdb : (x == ("__debug__" : Str)) = false:=by decide)
   (he : starEach (e :: es) X.env = (false,eval e X.env) :: starEach es X.env:=by rfl) (hpl : (backTo cpos (starEach es X.env)).any (·.1) = false:=by rfl) :
   PS X (.Raise (some (.Call (.Name x np) (e :: es) [] cpos)) none pos) (zop (.ref C) E t):=by
 intro pins s σ H D I h
 obtain ⟨bm,N,nm,qn,bs,hd,sn,sub,ab,col,dd,k0,k1,k2,k3,k5,mN,hC,hN,hni,T⟩:=zpJ I.ok.mod.kin q
 refine wpAny_Raise_call_subU (C:=C) (nm:=nm) (q:=qn) (N:=N) (bs:=bs) (bm:=bm) (hdct:=hd) (sn:=sn) (sub:=sub) (ab:=ab) (col:=col) (dd:=dd) (k0:=k0) (k1:=k1) (k2:=k2) (k3:=k3) (k5:=k5)
   F.excBase_ValueError (by decide) F.excBase_ValueError (mN:=mN) (T.hasType (by decide)) (I.ok.hd hc) (by rw [he]; show (false || (backTo cpos (starEach es X.env)).any (·.1)) = false; rw [hpl]; rfl) hni (zim I hg hm ⟨rfl,?_⟩ hdb)
 have ha':=ha cpos pins s σ H _ I h
 rw [he] at ha' ⊢
 refine Calls.evalArgs_plain (wpAny_mono ha' (fun us s2 ⟨vs,H2,I2,r,z,q2⟩=>⟨rfl,by rw [<- r.length]; exact z,I2.bk _ _ hC,hN.keeps I2.bk,T.keeps I2.bk,fun h' ex m=>Z pins σ H2 s2 h' ex us I2 m q2⟩) fun _ _ y=>y)
end
end L2
set_option Elab.async false
set_option linter.all false
set_option maxRecDepth 100000
namespace L2
open PySem PySem.Spec PyProof.Rows GM
abbrev Cx.at (X : Cx) (pn : List (Addr × Obj)) (E : Value -> Shared -> Prop) : Cx:={ X with pn:=pn,xe:=E }
abbrev Cx.inExc (X : Cx) (pn : List (Addr × Obj)) (ex : Addr) (oe : Obj) : Cx:={ X with pn:=pn ++ [(ex,oe)],xe:=fun _ _=>False,A:=X.A.mark (some (.ref ex)),calm:=false }
section
variable {X : Cx} {pins pins' : List (Addr × Obj)} {σ : St} {H : Hp} {s : Shared} {ex : Addr} {oe : Obj}
end
section
variable {X : Cx} {CX : CXT} {k : Nat} {f : Addr} {fd : FuncData} {ps : List Str} {sp : Sp} {W : St -> XK} {x : Str} {p pos : Pos} {e : Expr} {es : List Expr} {t : TA}
end
structure zp8 (C : Value) (oe : Obj) : Prop where
 cls : oe.cls = C
 fld : ∃ vs,oe.data = .fields vs /\ vs[2]? = some .none
 dict : oe.dict = none
section
variable {X : Cx} {x n : Str} {G : Value} {i : Nat} {b₀ : Stmt} {body suite : List Stmt} {np hpos pos : Pos} {tb : (St -> XK) -> TS} {th : Addr -> Value -> TS}
end
structure zst (k : Nat) (A : Around) : Prop where
 dp : A.depth + 3 * k + 5 < recursionLimit
 un : A.units + 16 * k + 200 < cLine
structure zsT (P : Program) (w : World) (K : PySem.W.Frag) (mg : Str -> Option Value) (base : Heap) (k : Nat) (f : Addr) (fd : FuncData) (ps : List Str) (sp : Addr -> Value -> Sp) : Prop where
 len : ∀ ex C vs H Q E,sp ex C vs H Q E -> vs.length = ps.length
 run : ∀ (A : Around) (outer : List Env) (s : Shared) (H : Hp) (args : Args) (us : List Value) (vs : List V) (Q : VK) (E : XK) (ex : Addr) (C : Value) (oe : Obj),zst k A -> A.handled = some (.ref ex) -> s.heap.get? ex = some oe -> zp8 C oe -> H ex = none -> ex ∉ frs outer ->
   znO P w K mg base A outer s H -> BindsTo s fd args (ps.zip us) -> zay vs us -> sp ex C vs H Q E -> codeAny (model P w) A (.call (.ref f) args) (CR CX0 outer P w H s Q E) s
def zbc (P : Program) (w : World) (K : PySem.W.Frag) (mg : Str -> Option Value) (base : Heap) (N : List Str) (qual : Str) (scope : Scope) (f : Addr) (cd : Value) (A : Around) (outer : List Env) (s : Shared) (H : Hp) (ex : Addr) (oe : Obj) : Cx :=
 { zbp CX0 P w K mg base N qual scope f cd A outer s H E0 with calm:=false,pn:=[(ex,oe)],xe:=fun _ _=>False }
structure Hd (X : Cx) (ex : Addr) (C : Value) (oe : Obj) : Prop where
 hd : X.A.handled = some (.ref ex)
 pn : (ex,oe) ∈ X.pn
 ob : zp8 C oe
section
variable {P : Program} {w : World} {K : PySem.W.Frag} {mg : Str -> Option Value} {base : Heap}
end
section
variable {X : Cx} {k : Nat} {f : Addr} {fd : FuncData} {ps : List Str} {sp : Addr -> Value -> Sp} {x : Str} {p pos : Pos} {e : Expr} {es : List Expr} {t : TA} {ex : Addr} {C : Value} {oe : Obj}
end
end L2
set_option Elab.async false
set_option linter.all false
set_option maxRecDepth 100000
namespace L2
open PySem PySem.Spec PyProof.Rows GM
def zfR (cells : List (Str × Addr)) : List (Str × NameKind) -> List (Str × Addr) -> List (Str × Addr)
 | [],acc=>acc
 | (n,k) :: r,acc=>zfR cells r (if (k == NameKind.free) = true then (n,(cells.lookup n).getD 0) :: acc else acc)
theorem ze6 {scope : Scope} {env : Env} (h : ∀ y ∈ scope.names,y.2 = .free -> ∃ c,env.cells.lookup y.1 = some c) : closureFor scope env = pure (zfR env.cells scope.names []):=by
 unfold closureFor
 generalize scope.names = names at h
 suffices g : ∀ (names : List (Str × NameKind)) (acc : List (Str × Addr)),(∀ y ∈ names,y.2 = .free -> ∃ c,env.cells.lookup y.1 = some c) ->
     (forIn names acc fun (x : Str × NameKind) (r : List (Str × Addr))=>if (x.2 == NameKind.free) = true then do let c <- cellOf env x.1; pure (ForInStep.yield ((x.1,c) :: r)) else pure (ForInStep.yield r) : Sem (List (Str × Addr))) = pure (zfR env.cells names acc) by
   have:=g names [] h
   show (_ >>= pure) = _
   rw [bind_pure]
   exact this
 intro names
 induction names with
 | nil=>intro acc _; rfl
 | cons y r ih =>
   intro acc hy
   obtain ⟨n,k⟩:=y
   rw [List.forIn_cons]
   by_cases e : (k == NameKind.free) = true
   . obtain ⟨c,hc⟩:=hy (n,k) List.mem_cons_self (beq_iff_eq.mp e)
     have hcell : cellOf env n = pure c:=by
       unfold cellOf
       rw [hc]
     simp only [e,if_true,hcell,pure_bind]
     rw [ih _ fun z hz=>hy z (List.mem_cons_of_mem _ hz)]
     show _ = pure (zfR env.cells r _)
     simp only [e,if_true,hc,Option.getD_some]
   . simp only [e,pure_bind]
     rw [if_neg (by simp),pure_bind]
     dsimp only
     rw [ih _ fun z hz=>hy z (List.mem_cons_of_mem _ hz)]
     show _ = pure (zfR env.cells r _)
     rw [if_neg e]
theorem zfE {cells : List (Str × Addr)} : ∀ (names : List (Str × NameKind)) (acc : List (Str × Addr)) (x : Str) (c : Addr),(∀ y ∈ names,y.2 = .free -> ∃ c,cells.lookup y.1 = some c) -> (∀ x c,acc.lookup x = some c -> cells.lookup x = some c) ->
   (zfR cells names acc).lookup x = some c -> cells.lookup x = some c
 | [],acc,x,c,_,ha,h=>ha x c h
 | (n,k) :: r,acc,x,c,hy,ha,h=>by
   unfold zfR at h
   refine zfE r _ x c (fun z hz=>hy z (List.mem_cons_of_mem _ hz)) (fun x' c' h'=>?_) h
   split at h'
   . rename_i e
     obtain ⟨c0,hc0⟩:=hy (n,k) List.mem_cons_self (beq_iff_eq.mp e)
     rw [List.lookup_cons] at h'
     split at h'
     . rename_i e2
       rw [beq_iff_eq.mp e2,hc0]
       rw [hc0] at h'
       exact h'
     . exact ha x' c' h'
   . exact ha x' c' h'
theorem zjU {cells : List (Str × Addr)} : ∀ (names : List (Str × NameKind)) (acc : List (Str × Addr)) (x : Str),(∃ c,acc.lookup x = some c) -> ∃ c,(zfR cells names acc).lookup x = some c
 | [],acc,x,h=>h
 | (n,k) :: r,acc,x,h=>by
   unfold zfR
   refine zjU r _ x ?_
   split
   . rw [List.lookup_cons]
     split
     . exact ⟨_,rfl⟩
     . exact h
   . exact h
theorem zjt {cells : List (Str × Addr)} : ∀ (names : List (Str × NameKind)) (acc : List (Str × Addr)) (x : Str),(x,NameKind.free) ∈ names -> ∃ c,(zfR cells names acc).lookup x = some c
 | [],acc,x,h=>nomatch h
 | (n,k) :: r,acc,x,h=>by
   unfold zfR
   rcases List.mem_cons.mp h with e | e
   . cases e
     rw [if_pos (by decide)]
     refine zjU r _ _ ?_
     rw [List.lookup_cons]
     simp
   . exact zjt r _ x e
theorem zfw (g : Str -> NameKind -> NameKind) : ∀ (names : List (Str × NameKind)) (x : Str),(names.map fun y=>(y.1,g y.1 y.2)).lookup x = (names.lookup x).map (g x)
 | [],x=>rfl
 | (n,k) :: r,x=>by
   rw [List.map_cons,List.lookup_cons,List.lookup_cons]
   dsimp only
   by_cases e : (x == n) = true
   . have e':=beq_iff_eq.mp e
     subst e'
     simp
   . rw [Bool.not_eq_true] at e
     simp only [e]
     exact zfw g r x
def zpA (env : Env) (x : Str) (k : NameKind) : NameKind:=if (k == .free && env.scope.kind == .function && env.kindOf x == some .cell) = true then .cell else k
theorem zgP {scope : Scope} {env : Env} (x : Str) : (relabel scope env).names.lookup x = (scope.names.lookup x).map (zpA env x):=by
 rw [<- zfw]
 show (scope.names.map _).lookup x = _
 congr 2
 funext ⟨n,k⟩
 dsimp only [zpA]
 split <;> rfl
def zaF (inner outer : List (Str × NameKind)) (N N' : List Str) (src : List (Option Nat)) : Bool :=
 (inner.all fun y=>(y.2 != .cell) && (y.2 != .local || inner.lookup y.1 == some .local) && (y.2 != .free || outer.lookup y.1 == some .cell)) &&
 (N'.length == src.length) && ((N'.zip src).all fun p=>match p.2 with
   | none=>true
   | some j=>N[j]? == some p.1 && outer.lookup p.1 == some .cell && inner.lookup p.1 == some .free)
theorem zaL.by {X : Cx} {N' : List Str} {scope : Scope} {src : List (Option Nat)} (hk : scope.kind = .function) (hc : zaF scope.names X.env.scope.names X.N N' src = true) (hf : ∀ x,X.env.scope.names.lookup x = some .cell -> ∃ c,X.env.cells.lookup x = some c:=by exact fun x h=>zg7 h) :
   zaL X N' scope (zfR X.env.cells scope.names []) src:=by
 unfold zaF at hc
 simp only [Bool.and_eq_true,List.all_eq_true,beq_iff_eq,Bool.or_eq_true,bne_iff_ne,ne_eq] at hc
 obtain ⟨⟨h1,h2⟩,h3⟩:=hc
 have fr : ∀ y ∈ scope.names,y.2 = .free -> ∃ c,X.env.cells.lookup y.1 = some c:=fun y hy e=>hf _ (((h1 y hy).2).elim (fun z=>absurd e z) id)
 have at3 : ∀ (i : Nat) (x : Str) (j : Nat),N'[i]? = some x -> src[i]? = some (some j) -> X.N[j]? = some x /\ X.env.scope.names.lookup x = some .cell /\ scope.names.lookup x = some .free:=fun i x j e1 e2=>by
   have m : (x,some j) ∈ N'.zip src:=by
     rw [List.mem_iff_getElem?]
     exact ⟨i,by rw [List.getElem?_zip_eq_some]; exact ⟨e1,e2⟩⟩
   have:=h3 _ m
   simp only [Bool.and_eq_true,beq_iff_eq] at this
   exact ⟨this.1.1,this.1.2,this.2⟩
 refine ⟨hk,fun y hy=>((h1 y hy).1).1,fun y hy e=>(((h1 y hy).1).2).elim (fun z=>absurd e z) id,⟨ze6 fr,fun x c e=>zfE _ _ x c fr (fun _ _ z=>by simp at z) e,fun x e=>?_⟩,⟨h2,fun i j x e1 e2=>⟨(at3 i x j e1 e2).1,(at3 i x j e1 e2).2.1⟩⟩,fun i x e1 e2=>?_⟩
 . rw [zgP] at e
   cases q : scope.names.lookup x with
   | none=>rw [q] at e; simp at e
   | some k =>
     have hm:=PySem.mem_of_lookup q
     have hk : k = .free:=by
       rw [q] at e
       simp only [Option.map_some,Option.some.injEq,zpA] at e
       have nc : k ≠ .cell:=((h1 _ hm).1).1
       rcases e with e | e
       . split at e
         . rename_i z; simp only [Bool.and_eq_true,beq_iff_eq] at z; exact z.1.1
         . exact absurd e nc
       . split at e
         . cases e
         . exact e
     subst hk
     exact zjt _ _ x hm
 . obtain ⟨o,ho⟩ : ∃ o,src[i]? = some o:=by
     have : i < src.length:=by rw [<- h2]; exact (List.getElem?_eq_some_iff.mp e1).1
     exact ⟨src[i],by simp [this]⟩
   cases o with
   | none=>exact absurd ho e2
   | some j =>
     have:=(at3 i x j e1 ho).2.2
     rw [zgP,this]
     simp only [Option.map_some,Option.some.injEq,zpA]
     split
     . exact .inl rfl
     . exact .inr rfl
section
variable {prog : Program} {w : World} {A : Around} {E : Value -> Shared -> Prop} {s : Shared}
structure zsW (A : Around) (h : Heap) (ex : Addr) : Prop where
 hd : A.handled = some (.ref ex)
 ob : ∃ oe vs,h.get? ex = some oe /\ oe.data = .fields vs /\ vs[2]? = some .none
end
section
variable {X : Cx} {ex : Addr} {C : Value} {oe : Obj} {pins : List (Addr × Obj)} {σ : St} {H : Hp} {s : Shared} {pos : Pos}
variable {tg l : Expr} {tl : TE}
variable {N' : List Str} {scope : Scope} {cl : List (Str × Addr)} {src : List (Option Nat)} {elt tgt iter : Expr} {ifs : List Expr} {wi : TI} {g : TG} {tt : TT} {te : TE}
end
structure zsF (K : PySem.W.Frag) (C : Addr) : Prop where
 ga : PySem.W.findIn K (.ref C) "__getattribute__" = some (some (.builtin "BaseException.__getattribute__"))
 gh : PySem.W.findIn K (.ref C) "__getattr__" = some none
 cl : (PySem.W.clsIn K C).isSome = true
 at_ : PySem.W.findIn K (.ref C) "__class__" = some (some (.builtin "object.__class__"))
 gt : PySem.W.specialIn K (.builtin "object.__class__") "__get__" = some (some (.builtin "getset_descriptor.__get__"))
 tk : PySem.W.takesIn K (.builtin "object.__class__") = some true
 mr : PySem.W.mroIn K C (.type "object") = some true
 be : PySem.W.mroIn K C (.type "BaseException") = some true
end L2
set_option Elab.async false
set_option linter.all false
set_option maxRecDepth 100000
namespace L2
open PySem PySem.Spec PyProof.Rows GM
def zgt (K : PySem.W.Frag) (g : TG) (tt : TT) (te : TE) (src : List (Option Nat)) (σ : St) (x : V) (H1 : Hp) (Q : VK) : Prop :=
 ∃ a,x = .ref a /\ (∃ xs,SqL K H1 a xs) /\ ∀ D,H1 D = none -> zdB g tt te (Itl K a) D (zaO src σ) (upd H1 D (.lst [])) (fun H'=>Q (.ref D) H')
def zhA (K : PySem.W.Frag) (g : TG) (tt : TT) (te : TE) (src : List (Option Nat)) (σ : St) (x : V) (H1 : Hp) (Q : VK) : Prop :=
 ∃ a,x = .ref a /\ (∃ xs,SqT K H1 a xs) /\ ∀ D,H1 D = none -> zdB g tt te (Itt K a) D (zaO src σ) (upd H1 D (.lst [])) (fun H'=>Q (.ref D) H')
def znB (g : TG) (tt : TT) (te : TE) (src : List (Option Nat)) (σ : St) (vs : List V) (H1 : Hp) (Q : VK) : Prop :=
 ∃ j : Int,vs = [.int j] /\ -(2 ^ 62) <= j /\ j < 2 ^ 62 /\ ∀ D,H1 D = none -> zdB g tt te (Itr 0 j.toNat) D (zaO src σ) (upd H1 D (.lst [])) (fun H'=>Q (.ref D) H')
section
variable {K : PySem.W.Frag} {g : TG} {tt : TT} {te ta : TE} {tA : TA} {src : List (Option Nat)} {σ : St} {H : Hp} {Q : VK} {a : Addr} {xs : List V} {n : Int}
theorem zoA (h : ta σ H fun x H1=>zgt K g tt te src σ x H1 Q) : ze4 src (znz K ta) g tt te σ H Q:=h
theorem zmO (h : ta σ H fun x H1=>zhA K g tt te src σ x H1 Q) : ze4 src (zq7 K ta) g tt te σ H Q:=h
theorem zow (h : tA σ H fun vs H1=>znB g tt te src σ vs H1 Q) : ze4 src (zoo tA) g tt te σ H Q:=h
def zjB (Pv : Addr -> Nat -> List V -> St -> Hp -> Prop) (D : Addr) (i : Nat) (σ3 : St) (y : V) (H5 : Hp) : Prop :=
 ∃ ys,H5 D = some (.lst ys) /\ ys.length < sizeLine /\ ∃ ys',Pv D (i + 1) ys' σ3 (upd H5 D (.lst (ys ++ [y])))
def zdI (Pv : Addr -> Nat -> List V -> St -> Hp -> Prop) (g : TG) (tt : TT) (te : TE) (D : Addr) (i : Nat) (x : V) (σ' : St) (H' : Hp) : Prop :=
 g x σ' H' fun σ3 H3=>tt σ3 H3 fun ok H4=>if ok = true then te σ3 H4 fun y H5=>zjB Pv D i σ3 y H5 else ∃ ys',Pv D (i + 1) ys' σ3 H4
theorem zbA {Pv : Addr -> Nat -> List V -> St -> Hp -> Prop} {D : Addr} {i : Nat} {σ3 : St} {y : V} {H5 : Hp} {ys : List V} (h : H5 D = some (.lst ys)) (z : ys.length <= 1000) (q : ∀ H6,Exc D H5 H6 -> H6 D = some (.lst (ys ++ [y])) -> Pv D (i + 1) (ys ++ [y]) σ3 H6) : zjB Pv D i σ3 y H5 :=
 ⟨ys,h,zbH z,_,q _ (Exc.upd D H5 _) zar⟩
theorem zgd {J : It} {N : Nat} {D : Addr} {σ0 : St} {H0 : Hp} {R : Hp -> Prop} (Pv : Addr -> Nat -> List V -> St -> Hp -> Prop) (item : Nat -> V -> Prop) (h0 : Pv D 0 [] σ0 H0)
   (stop : ∀ i ys σ' H',Pv D i ys σ' H' -> N <= i -> J.stop i H') (go : ∀ i ys σ' H',Pv D i ys σ' H' -> i < N -> J.go i H') (yld : ∀ i ys σ' H' x H2,Pv D i ys σ' H' -> J.yld i H' x H2 -> H2 = H' /\ item i x)
   (hs : ∀ i x ys σ' H',i < N -> item i x -> Pv D i ys σ' H' -> zdI Pv g tt te D i x σ' H') (hd : ∀ ys σ' H',Pv D N ys σ' H' -> R H') : zdB g tt te J D σ0 H0 R:=by
 refine ⟨fun i m σ' H'=>i + m = N /\ ∃ ys,Pv D i ys σ' H',⟨N,by omega,[],h0⟩,?_⟩
 rintro i m σ' H' ⟨him,ys,hp⟩
 by_cases hm : m = 0
 . subst hm
   have e : i = N:=by omega
   subst e
   exact .inl ⟨stop _ _ _ _ hp (Nat.le_refl _),hd _ _ _ hp⟩
 . refine .inr ⟨go _ _ _ _ hp (by omega),fun σ2 H2=>∃ ys,Pv D (i + 1) ys σ2 H2,fun σ2 H2 h=>⟨m - 1,by omega,by omega,h⟩,fun x H2 hy2=>?_⟩
   obtain ⟨e,hit⟩:=yld _ _ _ _ _ _ hp hy2
   subst e
   exact hs i x ys σ' H2 (by omega) hit hp
theorem zcT (hx : SqL K H a xs) (Pv : Addr -> Nat -> List V -> St -> Hp -> Prop) (h0 : ∀ D H',H D = none -> zaf H H' -> H' D = some (.lst []) -> Pv D 0 [] (zaO src σ) H') (hl : ∀ D i ys σ' H',Pv D i ys σ' H' -> SqL K H' a xs)
   (hs : ∀ D i x ys σ' H',xs[i]? = some x -> Pv D i ys σ' H' -> zdI Pv g tt te D i x σ' H') (hd : ∀ D ys σ' H',Pv D xs.length ys σ' H' -> Q (.ref D) H') : zgt K g tt te src σ (.ref a) H Q:=by
 refine ⟨a,rfl,⟨xs,hx⟩,fun D hD=>zgd (N:=xs.length) Pv (fun i x=>xs[i]? = some x) (h0 D _ hD (zaf.upd hD) zar) (fun i ys σ' H' hp hi=>⟨xs,hl _ _ _ _ _ hp,hi⟩) (fun i ys σ' H' hp hi=>?_) (fun i ys σ' H' x H2 hp hy=>?_)
   (fun i x ys σ' H' _ hit hp=>hs D i x ys σ' H' hit hp) (hd D)⟩
 . exact ⟨xs,xs[i],hl _ _ _ _ _ hp,by simp [hi]⟩
 . obtain ⟨e,hy⟩:=hy
   exact ⟨e,hy xs (hl _ _ _ _ _ hp)⟩
theorem zeo (hx : SqT K H a xs) (Pv : Addr -> Nat -> List V -> St -> Hp -> Prop) (h0 : ∀ D H',H D = none -> zaf H H' -> H' D = some (.lst []) -> Pv D 0 [] (zaO src σ) H') (hl : ∀ D i ys σ' H',Pv D i ys σ' H' -> SqT K H' a xs)
   (hs : ∀ D i x ys σ' H',xs[i]? = some x -> Pv D i ys σ' H' -> zdI Pv g tt te D i x σ' H') (hd : ∀ D ys σ' H',Pv D xs.length ys σ' H' -> Q (.ref D) H') : zhA K g tt te src σ (.ref a) H Q:=by
 refine ⟨a,rfl,⟨xs,hx⟩,fun D hD=>zgd (N:=xs.length) Pv (fun i x=>xs[i]? = some x) (h0 D _ hD (zaf.upd hD) zar) (fun i ys σ' H' hp hi=>⟨xs,hl _ _ _ _ _ hp,hi⟩) (fun i ys σ' H' hp hi=>?_) (fun i ys σ' H' x H2 hp hy=>?_)
   (fun i x ys σ' H' _ hit hp=>hs D i x ys σ' H' hit hp) (hd D)⟩
 . exact ⟨xs,xs[i],hl _ _ _ _ _ hp,by simp [hi]⟩
 . obtain ⟨e,hy⟩:=hy
   exact ⟨e,hy xs (hl _ _ _ _ _ hp)⟩
theorem zch (h0' : -1000000000 <= n) (h1 : n < 1000000000) (Pv : Addr -> Nat -> List V -> St -> Hp -> Prop) (h0 : ∀ D H',H D = none -> zaf H H' -> H' D = some (.lst []) -> Pv D 0 [] (zaO src σ) H')
   (hs : ∀ D (i : Nat) ys σ' H',i < n.toNat -> Pv D i ys σ' H' -> zdI Pv g tt te D i (.int (i : Int)) σ' H') (hd : ∀ D ys σ' H',Pv D n.toNat ys σ' H' -> Q (.ref D) H') : znB g tt te src σ [.int n] H Q:=by
 refine ⟨n,rfl,by omega,by omega,fun D hD=>zgd (N:=n.toNat) Pv (fun i x=>x = .int (i : Int)) (h0 D _ hD (zaf.upd hD) zar) (fun i ys σ' H' hp hi=>hi) (fun i ys σ' H' hp hi=>hi) (fun i ys σ' H' x H2 hp hy=>?_)
   (fun i x ys σ' H' hi hit hp=>?_) (hd D)⟩
 . obtain ⟨e,hy⟩:=hy
   exact ⟨e,by rw [hy,Int.zero_add]⟩
 . subst hit
   exact hs D i ys σ' H' hi hp
end
structure zh8 (u' u : TS) : Prop where
 e : u' = u
theorem zoL {t u : TS} {D : zbR} {σ : St} {H : Hp} (h : ∀ u',zh8 u' u -> t { D with nx:=u' D } σ H) : zrU t u D σ H:=h u ⟨rfl⟩
theorem zh8.go {u' u : TS} {D : zbR} {σ : St} {H : Hp} (e : zh8 u' u) (h : u D σ H) : u' D σ H:=by rw [e.e]; exact h
end L2
set_option Elab.async false
set_option linter.all false
set_option maxRecDepth 100000
namespace L2
open PySem PySem.Spec PyProof.Rows GM
theorem znE {P : Program} {w : World} {X : Cx} : ziz (CX1 P w) X E0:=fun _ _ _ _ _ _ _ h=>by
 obtain ⟨_,_,_,_,_,_,_,_,_,_,_,q⟩:=h
 exact q.elim
theorem Fun.ok1 {P : Program} {w : World} {K : PySem.W.Frag} {mg : Str -> Option Value} {base : Heap} {x qual : Str} {st : Stmt} {f : Addr} {fd : FuncData} {N ps : List Str} {k : Nat} {sp : Sp} (F : Fun K x qual st f fd) (S : zav N ps (zac st)) (len : ∀ vs H Q E,sp vs H Q E -> vs.length = ps.length)
   (hbody : ∀ (cdv : Value) (A : Around) (outer : List Env) (s : Shared) (H : Hp) (vs : List V) (Q : VK) (E : XK),zdJ k (A.deeper (envOfC qual (zac st) s.heap.objs.size f cdv)) -> sp vs H Q E ->
     ∃ t,PSs (zbp (CX1 P w) P w K mg base N qual (zac st) f cdv A outer s H E) (zau st) t /\ t { nx:=fun _ H'=>Q .non H',rt:=Q } (start N vs) H) : zbr P w K mg base (CX1 P w) (k + 1) f fd ps sp:=by
 obtain ⟨oc,od,kV,doc,pm,an,cdv,ct,osl,rfl,lk,hcd⟩:=F.ex
 exact zpT lk hcd S len fun A outer s H vs Q E hr hsp=>hbody cdv A outer s H vs Q E hr hsp
theorem zpi {X : Cx} {i j v : Int} {k1 k2 : Nat} {p1 p2 pos : Pos} (hc : zsn i j) (hv : i ^ j.toNat = v) : PE X (.BinOp (.Constant (.int i) k1 p1) .Pow (.Constant (.int j) k2 p2) pos) (tC (.int v)):=by
 subst hv
 exact fun pins s σ H Q I h=>(zaq zrD zad zad : PE X _ _) pins s σ H Q I ⟨i,j,rfl,rfl,hc,h⟩
theorem zmk {α : Type} [DecidableEq α] {x : α} {A B : Prop} (h : B) : if (!decide (x = x)) = true then A else B:=by simpa using h
theorem zmw {α : Type} [DecidableEq α] {x : α} {A B : Prop} (h : A) : if decide (x = x) = true then A else B:=by simpa using h
section
variable {K : PySem.W.Frag} {σ : St} {H H' : Hp} {Q : VK} {QB : Bool -> Hp -> Prop} {D : zbR} {t : TA} {v w : V} {xs ys : List V} {m n : Int} {r : Rat} {p : Addr}
theorem zr0 {A B : Prop} (h : B) : if (!true) = true then A else B:=by simpa using h
theorem zsd {A B : Prop} (h : A) : if (!false) = true then A else B:=by simpa using h
theorem zmp {b : Bool} (q : Q (.bl true) H) : zgZ K [.bl b,.ty "bool"] H Q:=zi5 (zdv.mpr rfl) q
theorem zoZ {a b : V} (h : H p = some (.lst [a,b])) (h0 : 0 <= m) (h1 : m < 2) (q : ∀ z,z = a \/ z = b -> Q z H) : rIx K (.ref p) (.int m) H Q :=
 zf3 (fun z=>z = a \/ z = b) (SqL.of h) h0 (by simpa using h1) (by simp) q
theorem zo9 {a b : Int} (h : H p = some (.lst [.int a,.int b])) (h0 : 0 <= m) (h1 : m < 2) (q : ∀ z,z = a \/ z = b -> Q (.int z) H) : rIx K (.ref p) (.int m) H Q :=
 zoZ h h0 h1 fun z hz=>by rcases hz with rfl | rfl; exact q _ (.inl rfl); exact q _ (.inr rfl)
theorem zo8 {a b c d : Int} (h : H p = some (.lst [.int a,.int b,.int c,.int d])) (h0 : 0 <= m) (h1 : m < 4) (q : ∀ z,z = a \/ z = b \/ z = c \/ z = d -> Q (.int z) H) : rIx K (.ref p) (.int m) H Q:=by
 refine zf3 (fun v=>∃ z,v = .int z /\ (z = a \/ z = b \/ z = c \/ z = d)) (SqL.of h) h0 (by simpa using h1) (fun x hx=>?_) fun x hx=>?_
 . simp only [List.mem_cons,List.not_mem_nil,or_false] at hx
   rcases hx with rfl | rfl | rfl | rfl
   . exact ⟨_,rfl,by simp⟩
   . exact ⟨_,rfl,by simp⟩
   . exact ⟨_,rfl,by simp⟩
   . exact ⟨_,rfl,by simp⟩
 . obtain ⟨z,rfl,hz⟩:=hx
   exact q z hz
theorem zoQ {a b c d e f : Int} (h : H p = some (.lst [.int a,.int b,.int c,.int d,.int e,.int f])) (h0 : 0 <= m) (h1 : m < 6) (q : ∀ z,z = a \/ z = b \/ z = c \/ z = d \/ z = e \/ z = f -> Q (.int z) H) : rIx K (.ref p) (.int m) H Q:=by
 refine zf3 (fun v=>∃ z,v = .int z /\ (z = a \/ z = b \/ z = c \/ z = d \/ z = e \/ z = f)) (SqL.of h) h0 (by simpa using h1) (fun x hx=>?_) fun x hx=>?_
 . simp only [List.mem_cons,List.not_mem_nil,or_false] at hx
   rcases hx with rfl | rfl | rfl | rfl | rfl | rfl
   all_goals exact ⟨_,rfl,by simp⟩
 . obtain ⟨z,rfl,hz⟩:=hx
   exact q z hz
theorem zlr (a b : Int) : PyData.eqv (.int a) (.int b) = decide (a = b):=by rw [PyData.eqv,Bool.beq_eq_decide_eq]
end
theorem znV {X : Cx} : OpR X (compareOp .In) (rIn X.K false):=zmi
theorem zh4 {X : Cx} : OpR X (compareOp .NotIn) (rIn X.K true):=ziG
def R (a b : Rat) : PyData:=.tuple [N a,N b]
structure zsK (a b : Rat) : Prop where
 a0 : 0 < a
 a4 : a <= 4
 ad : a.den <= 8
 b0 : 0 <= b
 b1 : b <= 1
 bd : b.den <= 12
 ab : 1 <= a + b
section
variable {K : PySem.W.Frag} {H : Hp} {Q : VK} {v : V} {a b : Rat} {σ : St} {gs : TGs} {QS : St -> Hp -> Prop}
end
section
variable {K : PySem.W.Frag} {H H' H2 : Hp} {Q : VK} {v w : V} {a b c d : Rat} {D : Addr}
theorem zaf.grow (s : zaf H H') (n : H D = none) (e : Exc D H' H2) : zaf H H2:=fun b o h=>e b o (zaz h n) (s b o h)
end
theorem zjl {σ : St} {H : Hp} {Q : Bool -> Hp -> Prop} (q : Q true H) : zj1 σ H Q:=q
theorem zcN {Pv : Addr -> Nat -> List V -> St -> Hp -> Prop} {g : TG} {tt : TT} {te : TE} {D : Addr} {i : Nat} {x : V} {σ' : St} {H' : Hp} (h : g x σ' H' fun σ3 H3=>tt σ3 H3 fun ok H4=>if ok = true then te σ3 H4 fun y H5=>zjB Pv D i σ3 y H5 else ∃ ys',Pv D (i + 1) ys' σ3 H4) :
   zdI Pv g tt te D i x σ' H':=h
section
variable {K : PySem.W.Frag} {σ : St} {H : Hp} {Q : VK} {E : XK} {D : zbR} {t : TA} {C G : Value} {i : Nat} {tb : (St -> XK) -> TS} {th : Addr -> Value -> TS} {sp : Sp} {W : St -> XK} {ex C' : Addr} {b : Bool}
theorem zn2 (h : t σ H fun vs H1=>vs.length <= sizeLine /\ E C none H1) : zop C E t D σ H:=h
end
inductive zgE (K : PySem.W.Frag) (H : Hp) : List V -> List (Str × Bool) -> Prop
 | nil : zgE K H [] []
 | cons {x : V} {xs : List V} {w : Str} {b : Bool} {ws : List (Str × Bool)} : Is K H x (.tuple [.str w,.bool b]) -> zgE K H xs ws -> zgE K H (x :: xs) ((w,b) :: ws)
inductive zok (X : Cx) : List Expr -> List TE -> Prop
 | nil : zok X [] []
 | cons {e : Expr} {es : List Expr} {te : TE} {ts : List TE} : (∀ env,starEach (e :: es) env = (false,eval e env) :: starEach es env) -> PE X e te -> zok X es ts -> zok X (e :: es) (te :: ts)
end L2
set_option Elab.async false
set_option linter.all false
set_option maxRecDepth 100000
namespace L2
open PySem PySem.Spec PyProof.Rows GM
theorem zh2 : bootBuiltins "sorted" = some (.builtin "sorted"):=by decide +kernel
section
variable {K : PySem.W.Frag} {H H' H2 : Hp} {Q : VK} {R : Prop} {v w y : V} {p l : Addr} {xs ys zs : List V} {ns : List Int} {m : Int} {σ : St}
end
section
variable {K : PySem.W.Frag} {H H' H2 : Hp} {Q : VK} {R : Prop} {v w y : V} {p l : Addr} {xs ys zs : List V} {ns : List Int} {m : Int} {σ : St} {to : TE} {t : TA} {T : String} {r : V -> List V -> Hp -> VK -> Prop}
theorem zrJ (h : to σ H fun x H1=>tyV K T x H1 /\ t σ H1 fun xs H2=>r x xs H2 Q) : tBM K T r to t σ H Q:=h
theorem zdC (h : SqL K H p xs) (q : R) : tyV K "list" (.ref p) H /\ R:=⟨.inl ⟨rfl,xs,h⟩,q⟩
theorem zb0 (h : H l = some (.lst xs)) (z : xs.length <= 1000) (q : ∀ H',Exc l H H' -> H' l = some (.lst (xs ++ [y])) -> Q .non H') : zly (.ref l) [y] H Q:=⟨l,xs,y,rfl,rfl,h,zbH z,q _ (Exc.upd l H _) zar⟩
end
def zas (K : PySem.W.Frag) : List V -> Hp -> VK -> Prop:=fun xs H Q=>∃ p ys,xs = [.ref p] /\ ((SqL K H p ys /\ ∀ l,H l = none -> Q (.ref l) (upd H l (.tup ys))) \/ (SqT K H p ys /\ Q (.ref p) H))
def zsx (K : PySem.W.Frag) : List V -> Hp -> VK -> Prop:=fun xs H Q=>∃ p ys,xs = [.ref p] /\ (SqL K H p ys \/ SqT K H p ys) /\ ∀ l,H l = none -> Q (.ref l) (upd H l (.lst ys))
theorem zao {X : Cx} : zaj X (.type "tuple") (zas X.K):=zhf
def zmS (K : PySem.W.Frag) : V -> Option Int -> Option Int -> Hp -> VK -> Prop:=fun x lo hi H Q=>zrO K x lo hi H Q \/ zrY K x lo hi H Q
theorem zoh {X : Cx} : SlR X (zmS X.K):=zpO.or zqD
section
variable {K : PySem.W.Frag} {H H' H2 : Hp} {Q : VK} {QO : Option Int -> Hp -> Prop} {R : Prop} {v w y : V} {p l : Addr} {xs ys zs : List V} {ds es : List PyData} {m : Int} {σ : St} {te : TE} {tl th : TO} {r : V -> Option Int -> Option Int -> Hp -> VK -> Prop} {lo hi : Option Int}
theorem zbN (h : SqL K H p ys) (q : ∀ l H',H l = none -> zaf H H' -> H' l = some (.tup ys) -> Q (.ref l) H') : zas K [.ref p] H Q:=⟨p,ys,rfl,.inl ⟨h,fun l hl=>q l _ hl (zaf.upd hl) zar⟩⟩
theorem za5 (h : Is K H v (.list ds)) (q : ∀ w H',zaf H H' -> Is K H' w (.tuple ds) -> Q w H') : zas K [v] H Q:=by
 obtain ⟨a,xs,rfl,hs,t⟩:=zaM.mp h
 exact zbN hs fun l H' _ s e=>q _ H' s (zaH.mpr ⟨l,xs,rfl,.of e,IsAll.same s ds xs t⟩)
theorem zgC (h : Is K H v (.tuple ds)) (q : Q v H) : zas K [v] H Q:=by
 obtain ⟨a,xs,rfl,hs,t⟩:=zaH.mp h
 exact ⟨a,xs,rfl,.inr ⟨hs,q⟩⟩
theorem zmZ (h : te σ H fun x H1=>tl σ H1 fun l H2=>th σ H2 fun u H3=>r x l u H3 Q) : tSl r te tl th σ H Q:=h
theorem zmC (q : QO none H) : zlx σ H QO:=q
theorem zpI (h : te σ H fun x H1=>∃ i,x = .int i /\ QO (some i) H1) : zp5 te σ H QO:=h
theorem znK {RI : Int -> Prop} (q : RI m) : ∃ i,V.int m = V.int i /\ RI i:=⟨m,rfl,q⟩
def zj6 {α : Type} (xs : List α) (lo hi : Option Int) : List α:=(xs.drop (HT.sIx xs.length 0 lo)).take (HT.sIx xs.length xs.length hi - HT.sIx xs.length 0 lo)
theorem IsAll.take : ∀ {ds : List PyData} {xs : List V} (n : Nat),IsAll K H xs ds -> IsAll K H (xs.take n) (ds.take n)
 | _,_,0,h=>by simp [IsAll.nil]
 | [],_,n + 1,h=>by rw [za4.mp h]; simp [IsAll.nil]
 | d :: ds,_,n + 1,h=>by
   obtain ⟨x,r,rfl,q,t⟩:=zaA.mp h
   rw [List.take_succ_cons,List.take_succ_cons]
   exact .cons q (IsAll.take n t)
theorem IsAll.drop : ∀ {ds : List PyData} {xs : List V} (n : Nat),IsAll K H xs ds -> IsAll K H (xs.drop n) (ds.drop n)
 | _,_,0,h=>by simpa using h
 | [],_,n + 1,h=>by rw [za4.mp h]; simp [IsAll.nil]
 | d :: ds,_,n + 1,h=>by
   obtain ⟨x,r,rfl,q,t⟩:=zaA.mp h
   rw [List.drop_succ_cons,List.drop_succ_cons]
   exact IsAll.drop n t
theorem IsAll.cut (h : IsAll K H xs ds) : IsAll K H (ziv xs lo hi) (zj6 ds lo hi):=by
 unfold ziv zj6
 rw [h.length]
 exact (h.drop _).take _
theorem zqq (h : SqL K H p xs) (q : ∀ l H',H l = none -> zaf H H' -> H' l = some (.lst (ziv xs lo hi)) -> Q (.ref l) H') : zmS K (.ref p) lo hi H Q:=.inl ⟨p,xs,rfl,h,fun l hl=>q l _ hl (zaf.upd hl) zar⟩
theorem zpD (h : Is K H v (.list ds)) (q : ∀ l H' ys,H l = none -> zaf H H' -> H' l = some (.lst ys) -> IsAll K H' ys (zj6 ds lo hi) -> Q (.ref l) H') : zmS K v lo hi H Q:=by
 obtain ⟨a,xs,rfl,hs,t⟩:=zaM.mp h
 exact zqq hs fun l H' hl s e=>q l H' _ hl s e (IsAll.same s _ _ t.cut)
theorem zlw (h : Is K H v (.tuple ds)) (hw : ¬ (HT.sIx ds.length 0 lo = 0 /\ HT.sIx ds.length ds.length hi = ds.length)) (q : ∀ w H',zaf H H' -> Is K H' w (.tuple (zj6 ds lo hi)) -> Q w H') : zmS K v lo hi H Q:=by
 obtain ⟨a,xs,rfl,hs,t⟩:=zaH.mp h
 refine .inr ⟨a,xs,rfl,hs,by rw [t.length]; exact hw,fun l hl=>q _ _ (zaf.upd hl) (zaH.mpr ⟨l,_,rfl,.of zar,IsAll.same (zaf.upd hl) _ _ t.cut⟩)⟩
theorem zmo {α : Type} (xs : List α) : zj6 xs (some 1) none = xs.tail:=by
 unfold zj6
 show (xs.drop (min 1 xs.length)).take (xs.length - min 1 xs.length) = _
 cases xs with
 | nil=>rfl
 | cons x xs =>
   have e : min 1 (x :: xs).length = 1:=by rw [List.length_cons]; omega
   rw [e,List.drop_succ_cons,List.drop_zero,List.length_cons,Nat.add_sub_cancel,List.take_length,List.tail_cons]
end
section
variable {K : PySem.W.Frag} {H H' H2 : Hp} {Q : VK} {v w y : V} {p l : Addr} {vs : List V} {xs ys : List Rat} {m : Int} {σ : St}
end
section
variable {K : PySem.W.Frag} {g : TG} {tt : TT} {te : TE} {src : List (Option Nat)} {σ : St} {H : Hp} {Q : VK} {a : Addr} {vs : List V} {n : Int} {tl : St} {o0 : Option V}
def zbG (H : Hp) (tl : St) (Rel : Nat -> V -> Hp -> Prop) (D : Addr) (i : Nat) (ys : List V) (σ' : St) (H' : Hp) : Prop :=
 (∃ o,σ' = o :: tl) /\ H D = none /\ zaf H H' /\ H' D = some (.lst ys) /\ ys.length = i /\ ∀ j y,ys[j]? = some y -> Rel j y H'
theorem zbG.same {Rel : Nat -> V -> Hp -> Prop} {D : Addr} {i : Nat} {ys : List V} {σ' : St} {H' : Hp} (h : zbG H tl Rel D i ys σ' H') : zaf H H':=h.2.2.1
theorem zbE {Rel : Nat -> V -> Hp -> Prop} {D : Addr} {i : Nat} {ys : List V} {σ' σ3 : St} {H1 H5 : Hp} {y : V} (inv : zbG H tl Rel D i ys σ' H1) (hi : i <= 1000) (hk : ∀ i v H1 H2,za7 H1 H2 -> Rel i v H1 -> Rel i v H2) (hσ : ∃ o,σ3 = o :: tl) (s : zaf H1 H5) (r : Rel i y H5) : zjB (zbG H tl Rel) D i σ3 y H5:=by
 obtain ⟨_,hn,s1,hD,hl,hr⟩:=inv
 have hD5:=s _ _ hD
 refine zbA hD5 (by omega) fun H6 E6 e6=>⟨hσ,hn,(s1.trans s).grow hn E6,e6,by simp [hl],fun j z hz=>?_⟩
 have k6 : za7 H5 H6:=E6.keep hD5
 rcases Nat.lt_or_ge j ys.length with hj | hj
 . rw [List.getElem?_append_left hj] at hz
   exact hk _ _ _ _ (s.keep.trans k6) (hr j z hz)
 . have hj' : j = ys.length:=by
     rcases Nat.lt_or_ge ys.length j with q | q
     . rw [List.getElem?_eq_none (by simp; omega)] at hz; cases hz
     . omega
   subst hj'
   rw [List.getElem?_append_right (Nat.le_refl _),Nat.sub_self] at hz
   cases hz
   rw [hl]
   exact hk _ _ _ _ k6 r
theorem zeR (hx : SqL K H a vs) (hsrc : zaO src σ = o0 :: tl) (Rel : Nat -> V -> Hp -> Prop) (hs : ∀ D i x ys o H1,vs[i]? = some x -> zbG H tl Rel D i ys (o :: tl) H1 -> zdI (zbG H tl Rel) g tt te D i x (o :: tl) H1)
   (hd : ∀ D ys H',H D = none -> zaf H H' -> H' D = some (.lst ys) -> ys.length = vs.length -> (∀ j y,ys[j]? = some y -> Rel j y H') -> Q (.ref D) H') : zgt K g tt te src σ (.ref a) H Q:=by
 refine zcT hx (zbG H tl Rel) (fun D H' n s e=>⟨⟨o0,hsrc⟩,n,s,e,rfl,fun j y z=>by simp at z⟩) (fun D i ys σ' H' h=>h.same.seq hx) ?_ fun D ys σ' H' ⟨_,n,s,e,hl,r⟩=>hd D ys H' n s e hl r
 rintro D i x ys σ' H' hx' h
 obtain ⟨⟨o,rfl⟩,_⟩:=id h
 exact hs D i x ys o H' hx' h
theorem zf0 (hx : SqT K H a vs) (hsrc : zaO src σ = o0 :: tl) (Rel : Nat -> V -> Hp -> Prop) (hs : ∀ D i x ys o H1,vs[i]? = some x -> zbG H tl Rel D i ys (o :: tl) H1 -> zdI (zbG H tl Rel) g tt te D i x (o :: tl) H1)
   (hd : ∀ D ys H',H D = none -> zaf H H' -> H' D = some (.lst ys) -> ys.length = vs.length -> (∀ j y,ys[j]? = some y -> Rel j y H') -> Q (.ref D) H') : zhA K g tt te src σ (.ref a) H Q:=by
 refine zeo hx (zbG H tl Rel) (fun D H' n s e=>⟨⟨o0,hsrc⟩,n,s,e,rfl,fun j y z=>by simp at z⟩) (fun D i ys σ' H' h=>h.same.sqT hx) ?_ fun D ys σ' H' ⟨_,n,s,e,hl,r⟩=>hd D ys H' n s e hl r
 rintro D i x ys σ' H' hx' h
 obtain ⟨⟨o,rfl⟩,_⟩:=id h
 exact hs D i x ys o H' hx' h
theorem zpH (h0 : 0 <= n) (h1 : n < 1000000000) (hsrc : zaO src σ = o0 :: tl) (Rel : Nat -> V -> Hp -> Prop) (hs : ∀ D (i : Nat) ys o H1,i < n.toNat -> zbG H tl Rel D i ys (o :: tl) H1 -> zdI (zbG H tl Rel) g tt te D i (.int (i : Int)) (o :: tl) H1)
   (hd : ∀ D ys H',H D = none -> zaf H H' -> H' D = some (.lst ys) -> ys.length = n.toNat -> (∀ j y,ys[j]? = some y -> Rel j y H') -> Q (.ref D) H') : znB g tt te src σ [.int n] H Q:=by
 refine zch (by omega) h1 (zbG H tl Rel) (fun D H' n s e=>⟨⟨o0,hsrc⟩,n,s,e,rfl,fun j y z=>by simp at z⟩) ?_ fun D ys σ' H' ⟨_,n,s,e,hl,r⟩=>hd D ys H' n s e hl r
 rintro D i ys σ' H' hi h
 obtain ⟨⟨o,rfl⟩,_⟩:=id h
 exact hs D i ys o H' hi h
end
theorem zfn {H H' : Hp} {l : Addr} (s : zaf H H') (h : H' l = none) : H l = none:=by
 cases e : H l with
 | none=>rfl
 | some o=>rw [s _ _ e] at h; cases h
def TZ (ns : List Int) : PyData:=.tuple (ns.map PyData.int)
theorem ziU : ∀ ns : List Int,ImmAll (ns.map PyData.int) = true
 | []=>by simp [ImmAll]
 | n :: ns=>by rw [List.map_cons,ImmAll,ziU ns]; rfl
theorem zgv (ns : List Int) : Imm (TZ ns) = true:=by rw [TZ,Imm]; exact ziU ns
section
variable {K : PySem.W.Frag} {H H' H2 : Hp} {Q : VK} {v w y : V} {p l : Addr} {vs : List V} {ns : List Int} {rss : List (List Rat)} {m : Int} {σ : St}
theorem zcn : ∀ {ns : List Int} {vs : List V},IsAll K H vs (ns.map PyData.int) ↔ vs = ns.map V.int
 | [],vs=>by rw [List.map_nil,za4]; rfl
 | n :: ns,vs=>by
   rw [List.map_cons,zaA,List.map_cons]
   constructor
   . rintro ⟨x,r,rfl,h,t⟩
     rw [zaT.mp h,zcn.mp t]
   . rintro rfl
     exact ⟨_,_,rfl,zaT.mpr rfl,zcn.mpr rfl⟩
theorem zdp : Is K H v (TZ ns) ↔ ∃ a,v = .ref a /\ SqT K H a (ns.map V.int):=by
 unfold TZ
 rw [zaH]
 constructor
 . rintro ⟨a,xs,e,h,t⟩
   rw [zcn.mp t] at h
   exact ⟨a,e,h⟩
 . rintro ⟨a,e,h⟩
   exact ⟨a,_,e,h,zcn.mpr rfl⟩
theorem Is.thruI (h : Is K H v (TZ ns)) (s : za7 H H') : Is K H' v (TZ ns):=Is.keep s _ v (zgv ns) h
theorem zgj (h : Is K H v (TZ ns)) (q : Q (.int ns.length) H) : zcb K [v] H Q:=zfY h (by rw [List.length_map]; exact q)
theorem zcG (h : Is K H v (TZ ns)) (h0 : 0 <= m) (h1 : m < ns.length) (q : Q (.int (ns.getD m.toNat 0)) H) : rIx K v (.int m) H Q:=by
 obtain ⟨a,rfl,hs⟩:=zdp.mp h
 obtain ⟨n,rfl⟩ : ∃ n : Nat,m = (n : Int):=⟨m.toNat,by omega⟩
 refine zik hs (zc1 (j:=n) (v:=.int (ns.getD n 0)) ?_) q
 rw [List.getElem?_map,List.getD_eq_getElem?_getD,List.getElem?_eq_getElem (by omega)]
 rfl
end
def zdE (K : PySem.W.Frag) : R2:=fun x y H Q=>zpS K x y H Q \/ ∃ a b ys,x = .ref a /\ y = .ref b /\ SqT K H a [] /\ SqT K H b ys /\ Q (.ref b) H
theorem zcr {X : Cx} : OpR X (binaryOp .Add) (zdE X.K):=by
 intro pins s σ H x y v u Q I rx ry h
 rcases h with h | ⟨a,b,ys,rfl,rfl,ha,hb,q⟩
 . exact zoT pins s σ H x y v u Q I rx ry h
 . cases rx
   cases ry
   obtain ⟨its,r1,p1,_⟩:=I.tuple ha
   cases r1
   obtain ⟨its2,r2,p2,_⟩:=I.tuple hb
   obtain ⟨⟨cls,dd,data,sl⟩,ho,hc,n,hd⟩:=id p1
   obtain ⟨⟨cls2,dd2,data2,sl2⟩,ho2,hc2,n2,hd2⟩:=id p2
   simp only at hc hd hc2 hd2
   subst hc hd hc2 hd2
   exact concat_meets ⟨_,ho,rfl⟩ ⟨_,ho2,rfl⟩ noFill_tuple_add seq_tuple_add PySem.F.slot_tuple_add PySem.F.entry_tuple_add (PySem.F.args_tuple_add_2 _ _) (tuple_addW0 a b _ its2.toArray n n2 dd dd2 sl sl2 rfl) ⟨ho,ho2,⟨.ref b,H,I,rfl,q⟩⟩
theorem zbS {K : PySem.W.Frag} {H : Hp} {Q : VK} {v w : V} {ds es : List PyData} (h1 : Is K H v (.tuple ds)) (h2 : Is K H w (.tuple es)) (z : ds.length + es.length <= 1000) (q : ∀ u H',zaf H H' -> Is K H' u (.tuple (ds ++ es)) -> Q u H') : zdE K v w H Q:=by
 obtain ⟨a,xs,rfl,ha,ta⟩:=zaH.mp h1
 obtain ⟨b,ys,rfl,hb,tb⟩:=zaH.mp h2
 have la:=ta.length
 have lb:=tb.length
 cases xs with
 | nil =>
   obtain rfl : ds = []:=List.eq_nil_of_length_eq_zero (by simpa using la.symm)
   exact .inr ⟨a,b,ys,rfl,rfl,ha,hb,q _ H (zaf.refl _) h2⟩
 | cons x xs =>
   refine .inl ⟨a,b,x :: xs,ys,rfl,rfl,ha,hb,by simp,Nat.le_of_lt (zbH (by omega)),fun hy=>?_,fun hy p hp=>?_⟩
   . obtain rfl : es = []:=List.eq_nil_of_length_eq_zero (by rw [hy] at lb; simpa using lb.symm)
     exact q _ H (zaf.refl _) (by rw [List.append_nil]; exact h1)
   . exact q _ _ (zaf.upd hp) (zaH.mpr ⟨p,_,rfl,.of zar,(IsAll.same (zaf.upd hp) _ _ ta).append (IsAll.same (zaf.upd hp) _ _ tb)⟩)
end L2
set_option Elab.async false
set_option linter.all false
set_option maxRecDepth 100000
namespace L2
open PySem PySem.Spec PyProof.Rows GM
theorem Inv.turnedL {X : Cx} {pins : List (Addr × Obj)} {σ : St} {H : Hp} {s : Shared} {h' : Heap} {t' : Nat} {ch : List Addr} (I : Inv X pins σ H s) (k : ∀ b o,b ∉ ch -> s.heap.get? b = some o -> h'.get? b = some o) (hf : ∀ b ∈ ch,zdD X pins H b) : Inv X pins σ H { s with heap:=h',toks:=t' }:=by
 have nit : ∀ b u,H b = some u -> b ∉ ch:=fun b u e z=>by rw [(hf b z).1] at e; cases e
 refine I.step (g':=s.gens) (d':=s.drawn) (ch:=ch) (fun b hb=>⟨(hf b hb).2.2.2.1,(hf b hb).2.1,(hf b hb).2.2.2.2.1,(hf b hb).2.2.2.2.2⟩) (fun b o _ _ hc e _=>k b o hc e)
   (fun b o _ _ hc e _=>⟨o.slots,k b o hc e⟩) (fun _ _ _ _ n=>n) (fun b o hc e=>⟨o,k b o hc e⟩) (fun _ _ e=>e) (fun _ _ _ e=>e) (fun b ps e=>⟨#[],by rw [e]; simp⟩) (fun m hm=>?_) (fun b u e=>?_) I.bare
 . obtain ⟨o,es,ep,ho,r⟩:=hm
   exact ⟨o,es,ep,k _ o (fun z=>(hf _ z).2.1 rfl) ho,r⟩
 . refine (I.hok b u e).stay (fun c v hc q=>k c v ?_ q) (fun _ q=>q) fun _ _ q=>q
   rcases hc with z | z
   . rw [z]; exact nit b u e
   . exact nit c _ z
section
variable {prog : Program} {w : World} {A : Around} {E : Value -> Shared -> Prop} {s : Shared}
theorem zfA {it tu : Addr} {i : Nat} {its : Array Value} {x : Value} {Q : Value -> Shared -> Prop} (ei : s.heap.IsTupleIter it tu i) (et : s.heap.IsTuple tu its) (ex : its[i]? = some x)
   (fin : ∀ h',h'.IsTupleIter it tu (i + 1) -> Heap.SameBut it s.heap h' -> Q x { s with heap:=h' }) : wpAny (model prog w) A (Builtin.SmallTypes.nextOf (.ref it)) Q E s:=by
 obtain ⟨ob,eo,ec,ed⟩:=id ei
 obtain ⟨ot,eot,_,nt,edt⟩:=et
 unfold Builtin.SmallTypes.nextOf
 refine wpAny_bind (wpAny_callSpecial?_slot (name:=Str.ofString "__next__") ei.typeIs F.slot_tuple_iterator_next (wpAny_call_entry F.slot_tuple_iterator_next ei.typeIs F.entry_tuple_iterator_next ?_ (F.args_tuple_iterator_next_1 _)))
 show wpAny _ _ (field (.ref it) 0 >>= _) _ _ s; refine wpAny_bind (wpAny_field eo ed (x:=.ref tu) rfl ?_)
 show wpAny _ _ (if (Value.ref tu == Value.none) = true then _ else _) _ _ s; rw [if_neg (show ¬ ((Value.ref tu == Value.none) = true) from Bool.false_ne_true)]
 show wpAny _ _ (field (.ref it) 1 >>= _) _ _ s; refine wpAny_bind (wpAny_field eo ed (x:=.int i 0) rfl ?_)
 show wpAny _ _ (seqItems? (.ref tu) >>= _) _ _ s; refine wpAny_bind (wpAny_seqItems eot edt ?_)
 simp only [Int.toNat_natCast,ex]
 refine wpAny_bind (wpAny_setField eo ed (by simp) (wpAny_pure ⟨x,rfl,wpAny_pure (fin _ ?_ (Heap.SameBut.update ..))⟩))
 exact ⟨_,Heap.get?_update_self _ eo (Obj.isFreed_of_fields (Obj.data_mapFields ed _)),(Obj.cls_mapFields ..).trans ec,by rw [Obj.data_mapFields ed]; simp [rawInt]⟩
theorem zc6 {it tu : Addr} {i : Nat} {its : Array Value} {Q : Value -> Shared -> Prop} (hh : A.handled = none) (ei : s.heap.IsTupleIter it tu i) (et : s.heap.IsTuple tu its) (ex : its[i]? = none)
   (fin : ∀ h' e,Heap.ExtBut it s.heap h' -> (∃ o,h'.get? e = some o /\ o.cls = .type "StopIteration") -> E (.ref e) { s with heap:=h' }) : wpAny (model prog w) A (Builtin.SmallTypes.nextOf (.ref it)) Q E s:=by
 obtain ⟨ob,eo,ec,ed⟩:=id ei
 obtain ⟨ot,eot,_,nt,edt⟩:=et
 unfold Builtin.SmallTypes.nextOf
 refine wpAny_bind (wpAny_callSpecial?_slot (name:=Str.ofString "__next__") ei.typeIs F.slot_tuple_iterator_next (wpAny_call_entry F.slot_tuple_iterator_next ei.typeIs F.entry_tuple_iterator_next ?_ (F.args_tuple_iterator_next_1 _)))
 show wpAny _ _ (field (.ref it) 0 >>= _) _ _ s; refine wpAny_bind (wpAny_field eo ed (x:=.ref tu) rfl ?_)
 show wpAny _ _ (if (Value.ref tu == Value.none) = true then _ else _) _ _ s; rw [if_neg (show ¬ ((Value.ref tu == Value.none) = true) from Bool.false_ne_true)]
 show wpAny _ _ (field (.ref it) 1 >>= _) _ _ s; refine wpAny_bind (wpAny_field eo ed (x:=.int i 0) rfl ?_)
 show wpAny _ _ (seqItems? (.ref tu) >>= _) _ _ s; refine wpAny_bind (wpAny_seqItems eot edt ?_)
 simp only [Int.toNat_natCast,ex]
 refine wpAny_bind (wpAny_rule (wpAny_bind (wpAny_setField eo ed (by simp) ?_)))
 show wpAny _ _ (newExc (.type "StopIteration") [] >>= _) _ _ _; refine wpAny_bind ?_; simp only [newExc,newTuple]
 refine wpAny_bind (wpAny_newObj_type ?_ (by size_fits)); refine wpAny_bind (m:=firstArgMember _ _) (wpAny_of_eq (a:=Value.none) (by first | rfl | (simp only [firstArgMember]; rfl)) ?_)
 refine wpAny_newObj_type ?_ (by size_fits); simp only [raiseNew]; refine wpAny_bind (wpAny_handled ?_)
 first | rw [hh] | rw [show A.in1.handled = none from hh]
 exact wpAny_bind (wpAny_pure (wpAny_throw (fin _ _ (((Heap.SameBut.update ..).extBut.push _).push _) ⟨_,Heap.get?_push_size _ rfl,rfl⟩)))
theorem zmP (hh : A.handled = none) (it tu : Addr) (hne : tu ≠ it) (its : Array Value) : Draws prog w A it [it,tu] its.size (fun i v=>its[i]? = some v) (fun i h=>h.IsTupleIter it tu i /\ h.IsTuple tu its) where
 live:=fun _ _ st=>let ⟨o,ho,_⟩:=st.1; ⟨o,ho⟩
 frame:=fun _ _ _ st hk=>⟨st.1.at fun o e=>hk it (by simp) o e,st.2.at fun o e=>hk tu (by simp) o e⟩
 item:=fun i s Q E hi st hQ=>zfA st.1 st.2 (x:=its[i]) (by simp [hi]) fun h' hit' hs'=>hQ _ h' s.toks (by simp [hi]) ⟨hit',st.2.extBut hs'.extBut hne⟩ hs'
 done:=fun s Q E st hE=>zc6 hh st.1 st.2 (by simp) hE
open AutoSeq1 (wpAny_loadPart') in
theorem zjY (tu : Addr) (its : Array Value) (n : Nat) (dct : Option Addr) (sl : Array (Option Value)) : Meets (Builtin.«enumerate.__new__» ⟨[.type "enumerate",.ref tu],[]⟩) (fun _ R s=>s.heap.get? tu = some { cls:=.type "tuple",dict:=dct,data:=.seq its n,slots:=sl } /\
   R (.ok (.ret (.ref (s.heap.push { cls:=.type "tuple_iterator",data:=.fields #[.ref tu,.int 0 0] }).objs.size))) { s with heap:=(s.heap.push { cls:=.type "tuple_iterator",data:=.fields #[.ref tu,.int 0 0] }).push { cls:=.type "enumerate",data:=.fields #[.none,.bool false,.ref s.heap.objs.size,rawInt 0,.none,.none] } }) :=
 .of_wp fun prog w A R s h=>by
   obtain ⟨hp,g,d,tk,os⟩:=s
   obtain ⟨et,h⟩:=h
   have hsub:=sub_enumerate
   have hT : Heap.IsTuple (Shared.heap ⟨hp,g,d,tk,os⟩) tu its:=⟨_,et,rfl,n,rfl⟩
   wp_walk using wpAny_loadPart' et
   refine wpAny_stack_any fun st=>wpAny_pure ?_
   split
   . rename_i c _ _ _ _ _
     cases (c == Value.type "enumerate") <;> (wp_walk using wpAny_loadPart' et,wpAny_pyIter_tuple hT; exact ⟨_,rfl,h⟩)
   . wp_walk using wpAny_loadPart' et,wpAny_pyIter_tuple hT
     exact ⟨_,rfl,h⟩
theorem zkV {tu : Addr} {its : Array Value} {Q : Value -> Shared -> Prop} (hT : s.heap.IsTuple tu its) (fin : ∀ h',IsEnum h' (s.heap.objs.size + 1) s.heap.objs.size 0 .none -> h'.IsTupleIter s.heap.objs.size tu 0 -> (∀ b o,s.heap.get? b = some o -> h'.get? b = some o) -> Q (.ref (s.heap.objs.size + 1)) { s with heap:=h' }) :
   wpAny (model prog w) A (call (.type "enumerate") [.ref tu]) Q E s:=by
 obtain ⟨⟨c,dct,dt,sl⟩,et,hc,n,hd⟩:=hT
 obtain rfl : c = .type "tuple":=hc
 obtain rfl : dt = .seq its n:=hd
 refine callType_new F.called_enumerate (by decide) (F.typeCall_enumerate_1 _) (F.newCall_enumerate_1 _) (fun obj=>F.args_object_init_2 obj _) F.entry_enumerate_new (zjY tu its n dct sl) ⟨et,?_⟩
 have hz : (s.heap.push { cls:=.type "tuple_iterator",data:=.fields #[.ref tu,.int 0 0] }).objs.size = s.heap.objs.size + 1:=Heap.size_push ..
 show _ /\ _
 rw [hz]
 have he : IsEnum ((s.heap.push { cls:=.type "tuple_iterator",data:=.fields #[.ref tu,.int 0 0] }).push { cls:=.type "enumerate",data:=.fields #[.none,.bool false,.ref s.heap.objs.size,rawInt 0,.none,.none] }) (s.heap.objs.size + 1) s.heap.objs.size 0 .none:=by
   rw [<- hz]; exact Heap.get?_push_size _ rfl
 exact ⟨⟨_,he,rfl⟩,fin _ he ⟨_,Heap.get?_push_of_some _ (Heap.get?_push_size _ rfl),rfl,rfl⟩ fun b o x=>Heap.get?_push_of_some _ (Heap.get?_push_of_some _ x)⟩
end
def Ite (K : PySem.W.Frag) (a : Addr) : It :=
 ⟨fun i H=>∃ xs x,SqT K H a xs /\ xs[i]? = some x,fun i H y H'=>∃ t x,y = .ref t /\ H t = none /\ (∀ xs,SqT K H a xs -> xs[i]? = some x) /\ H' = upd H t (.tup [.int (i : Int),x]),fun i H=>∃ xs,SqT K H a xs /\ xs.length <= i⟩
theorem zkL {P : Program} {w : World} {K : PySem.W.Frag} {elts : List Expr} {k1} {tpos : Pos} (a e it : Addr) (hne : e ≠ it) : zhi P w K (.Tuple elts k1 tpos) (Ite K a) [e,it] e (fun i h=>(∃ old,IsEnum h e it (i : Int) old) /\ h.IsTupleIter it a i) where
 mem:=by simp
 obj:=fun i h st b hb=>by
   obtain ⟨⟨old,he⟩,o,eo,c,d⟩:=st
   rcases List.mem_cons.mp hb with rfl | hb
   . exact ⟨_,he,fun v z=>by cases (show Data.fields _ = Data.cell v from z)⟩
   . rw [List.mem_singleton.mp hb]
     exact ⟨o,eo,fun v z=>by rw [d] at z; cases z⟩
 keep:=fun i h h' st k=>⟨let ⟨old,he⟩:=st.1; ⟨old,k e (by simp) _ he⟩,st.2.at fun o eo=>k it (by simp) o eo⟩
 item:=by
   intro X hP hw hK hc i pins s σ H E I hf st hg
   subst hP hw hK
   obtain ⟨⟨old,he⟩,st⟩:=st
   obtain ⟨xs,x,hq,hx⟩:=hg
   obtain ⟨its,rv,p,hz⟩:=I.tuple hq
   obtain ⟨u,hu,ru⟩:=rv.get hx
   have p' : s.heap.IsTuple a its.toArray:=p
   have hai : a ≠ it:=fun z=>by
     subst z
     obtain ⟨o,e1,c1,_⟩:=st
     obtain ⟨o',e2,c2,_⟩:=p'
     rw [e1] at e2; cases e2
     rw [c1] at c2; exact absurd c2 (by decide)
   have hae : e ≠ a:=fun z=>by
     subst z
     obtain ⟨o',e2,c2,_⟩:=p'
     rw [he] at e2; cases e2
     exact absurd (show Value.type "enumerate" = Value.type "tuple" from c2) (by decide)
   have hlt : i < its.toArray.size:=by
     rcases Nat.lt_or_ge i its.length with z | z
     . simpa using z
     . rw [List.getElem?_eq_none z] at hu; cases hu
   refine wpAny_pyNext_enum_itemD (zmP (A:=X.A.in1) (I.ok.hd hc) it a hai its.toArray) he ⟨st,p'⟩ hlt hne (by simp [hne,hae]) fun v h1 tk hv ho hs1 hT hsz hk=>?_
   have hvu : v = u:=by
     have hv' : its[i]? = some v:=by simpa using hv
     rw [hu] at hv'; exact (Option.some.inj hv').symm
   subst hvu
   have I1 : Inv X pins σ (upd H s.heap.objs.size (.tup [.int (i : Int),x])) { s with heap:=s.heap.push { cls:=.type "tuple",data:=.seq ([.int (i : Int) tk,v] : List Value).toArray },toks:=tk + 1 } :=
     I.laid (fun b o q=>Heap.get?_push_of_some _ q) (Nat.le_refl _) (show za9 X.prog X.w _ _ _ (.tup [.int (i : Int),x]) from ⟨zdk (by simp),_,.cons ⟨_,rfl⟩ (.cons ru .nil),IsTup.new _ _⟩)
   have lt1 : ∀ b ∈ [e,it],b < s.heap.objs.size:=fun b hb=>by
     rcases List.mem_cons.mp hb with rfl | hb
     . exact Heap.lt_size he
     . rw [List.mem_singleton.mp hb]
       obtain ⟨o,eo,_⟩:=st
       exact Heap.lt_size eo
   have hf1 : ∀ b ∈ [e,it],zdD X pins (upd H s.heap.objs.size (.tup [.int (i : Int),x])) b:=fun b hb=>⟨by rw [zbj (Nat.ne_of_lt (lt1 b hb))]; exact (hf b hb).1,(hf b hb).2⟩
   refine ⟨_,rfl,wpAny_letOwnedTupleGo_enum ho fun h2 he2 hs2=>?_⟩
   refine ⟨.ref s.heap.objs.size,_,Inv.turnedL (s:={ s with heap:=s.heap.push { cls:=.type "tuple",data:=.seq ([.int (i : Int) tk,v] : List Value).toArray },toks:=tk + 1 }) (ch:=[e,it]) I1 (fun b o hb q=>?_) hf1,rfl,⟨_,x,rfl,I.hok.fresh (Nat.le_refl _),fun ys hy=>by rw [I.tuple_inj hy hq]; exact hx,rfl⟩,⟨⟨_,by simpa using he2⟩,hs1.1.at fun o eo=>(hs2.2 it (Ne.symm hne)).trans eo⟩,fun b hb=>(hf1 b hb).1⟩
   have hbe : b ≠ e:=fun z=>hb (by simp [z])
   have hbi : b ≠ it:=fun z=>hb (by simp [z])
   refine (hs2.2 b hbe).trans ?_
   by_cases hb2 : b = s.heap.objs.size
   . subst hb2
     rw [Heap.get?_push_size _ rfl] at q
     cases q
     exact hT
   . exact hk b o hbe hbi (by rw [Heap.get?_push_ne _ _ _ hb2] at q; exact q)
 done:=by
   intro X hP hw hK hc i pins s σ H E I hf st hg
   subst hP hw hK
   obtain ⟨⟨old,he⟩,st⟩:=st
   obtain ⟨xs,hq,hx⟩:=hg
   obtain ⟨its,rv,p,hz⟩:=I.tuple hq
   have p' : s.heap.IsTuple a its.toArray:=p
   have hai : a ≠ it:=fun z=>by
     subst z
     obtain ⟨o,e1,c1,_⟩:=st
     obtain ⟨o',e2,c2,_⟩:=p'
     rw [e1] at e2; cases e2
     rw [c1] at c2; exact absurd c2 (by decide)
   have hl:=rv.length
   have hT : s.TypeIs (.ref e) "enumerate":=⟨_,he,rfl⟩
   unfold pyNext
   refine wpAny_bind (wpAny_attempt (wpAny_callSpecial?_slot (name:=Str.ofString "__next__") hT F.slot_enumerate_next (wpAny_call_entry F.slot_enumerate_next hT F.entry_enumerate_next ?_ (F.args_enumerate_next_1 _))))
   show wpAny _ _ (field (.ref e) 2 >>= _) _ _ _; refine wpAny_bind (wpAny_field he rfl (x:=.ref it) rfl ?_)
   refine wpAny_bind (zc6 (A:=X.A.in1) (I.ok.hd hc) st p' (by simp; omega) fun h' y he' hx'=>?_)
   obtain ⟨o,ho,hcl⟩:=hx'
   refine wpAny_bind (wpAny_isInstance (T:="StopIteration") (b:=true) ⟨o,ho,hcl⟩ isSubtype_stop (wpAny_pure ⟨rfl,?_⟩))
   obtain ⟨f0,f1,f2,f3,f4,f5⟩:=hf it (by simp)
   exact I.turned (t':=s.toks) (fun b o hb e=>he' b o hb e) f0 f1 f3 f4 f5
 self:=fun _ _ _ _ _ st h=>let ⟨_,he⟩:=st.1; wpAny_pyIter_enum he h
def zks (K : PySem.W.Frag) (ta : TA) : TI:=fun σ H R=>ta σ H fun vs H1=>∃ a,vs = [.ref a] /\ (∃ xs,SqT K H1 a xs) /\ R (Ite K a) H1
theorem zeO : bootBuiltins "enumerate" = some (.type "enumerate"):=by decide +kernel
theorem zjV {X : Cx} {elts : List Expr} {k1} {tpos p pos : Pos} {l : Expr} {ta : TA} (hg : Gl X "enumerate") (hm : X.mg "enumerate" = none) (ha : PA X [l] ta) (hs : starEach [l] X.env = [(false,eval l X.env)]:=by rfl) :
   PI X (.Tuple elts k1 tpos) (.Call (.Name "enumerate" p) [l] [] pos) (zks X.K ta):=by
 intro pins s σ H R I h
 refine Call_ (zcW I hg hm zeO (PyProof.Rows.callWith_type1 (thn (ha pos pins s σ H _ I h) fun us s1 ⟨vs,H1,I1,r1,q1⟩=>?_) hs rfl))
 obtain ⟨a,rfl,⟨xs,hq⟩,q⟩:=q1
 obtain ⟨u,rfl,ru⟩:=zcR r1
 cases ru
 obtain ⟨its,rv,p,hz⟩:=I1.tuple hq
 refine zkV (show s1.heap.IsTuple a its.toArray from p) fun h' he hit kp=>?_
 refine wpAny_pyIter_enum he ?_
 refine ⟨s1.heap.objs.size + 1,[s1.heap.objs.size + 1,s1.heap.objs.size],_,_,H1,rfl,I1.kept (t':=s1.toks) kp,zkL a (s1.heap.objs.size + 1) s1.heap.objs.size (Nat.succ_ne_self _),⟨⟨_,he⟩,hit⟩,fun b hb=>?_,q⟩
 have hb' : s1.heap.objs.size <= b:=by
   rcases List.mem_cons.mp hb with rfl | hb
   . omega
   . rw [List.mem_singleton.mp hb]; exact Nat.le_refl _
 exact I1.fpOk hb' (I1.hok.fresh hb')
def zsu (K : PySem.W.Frag) (g : TG) (tb : TS) (D : zbR) (σ : St) (vs : List V) (H1 : Hp) : Prop:=∃ a,vs = [.ref a] /\ (∃ xs,SqT K H1 a xs) /\
 ∃ W : Nat -> Nat -> St -> Hp -> Prop,(∃ m,W 0 m σ H1) /\ ∀ i m σ H,W i m σ H ->
   ((Ite K a).stop i H /\ D.nx σ H) \/ ((Ite K a).go i H /\ ∃ M : St -> Hp -> Prop,(∀ σ' H',M σ' H' -> ∃ m',m' < m /\ W (i + 1) m' σ' H') /\ ∀ x H',(Ite K a).yld i H x H' -> g x σ H' fun σ2 H2=>tb { D with nx:=M,ct:=M,bk:=D.nx } σ2 H2)
section
variable {K : PySem.W.Frag} {ta : TA} {g : TG} {tb : TS} {D : zbR} {σ : St} {H : Hp} {a : Addr} {xs : List V}
theorem zpy (h : ta σ H fun vs H1=>zsu K g tb D σ vs H1) : zjP (zks K ta) g tb D σ H:=h
theorem zlU (hx : SqT K H a xs) (Pv : Nat -> St -> Hp -> Prop) (h0 : Pv 0 σ H) (hl : ∀ i σ H,i <= xs.length -> Pv i σ H -> SqT K H a xs)
   (hs : ∀ i x σ H t H',xs[i]? = some x -> Pv i σ H -> H t = none -> zaf H H' -> H' t = some (.tup [.int (i : Int),x]) -> g (.ref t) σ H' fun σ2 H2=>tb { D with nx:=Pv (i + 1),ct:=Pv (i + 1),bk:=D.nx } σ2 H2) (hd : ∀ σ H,Pv xs.length σ H -> D.nx σ H) : zsu K g tb D σ [.ref a] H:=by
 refine ⟨a,rfl,⟨xs,hx⟩,fun i m σ H=>i + m = xs.length /\ Pv i σ H,⟨xs.length,by omega,h0⟩,?_⟩
 rintro i m σ H ⟨him,hp⟩
 have hq:=hl i σ H (by omega) hp
 by_cases hm : m = 0
 . have e : i = xs.length:=by omega
   subst e
   exact .inl ⟨⟨xs,hq,Nat.le_refl _⟩,hd _ _ hp⟩
 . have hi : i < xs.length:=by omega
   refine .inr ⟨⟨xs,xs[i],hq,by simp [hi]⟩,fun σ' H'=>Pv (i + 1) σ' H',fun σ' H' h=>⟨m - 1,by omega,by omega,h⟩,?_⟩
   rintro y H' ⟨t,x,rfl,hn,hx',rfl⟩
   exact hs i x σ H t _ (hx' xs hq) hp hn (zaf.upd hn) zar
end
end L2
set_option Elab.async false
set_option linter.all false
set_option maxRecDepth 100000
namespace L2
open PySem PySem.Spec PyProof.Rows GM
structure ZA (z TI TO i1 i2 : Addr) (f1 f2 : List Addr) : Prop where
 a1 : TI ≠ z
 a2 : TO ≠ z
 a3 : i1 ≠ z
 a4 : i2 ≠ z
 a5 : TI ≠ TO
 a6 : TI ≠ i1
 a7 : TI ≠ i2
 a8 : TO ≠ i1
 a9 : TO ≠ i2
 b0 : i1 ≠ i2
 b1 : z ∉ f1
 b2 : z ∉ f2
 b3 : TO ∉ f1
 b4 : TO ∉ f2
 b5 : i1 ∉ f2
 b6 : i2 ∉ f1
section
variable {prog : Program} {w : World} {A : Around} {E : Value -> Shared -> Prop} {s : Shared} {z TI TO i1 i2 : Addr} {f1 f2 : List Addr} {n1 n2 k : Nat} {P1 P2 : Nat -> Value -> Prop} {S1 S2 : Nat -> Heap -> Prop} {a b : Value}
theorem zsA {Q : Value -> Shared -> Prop} (D1 : Draws prog w A i1 f1 n1 P1 S1) (D2 : Draws prog w A i2 f2 n2 P2 S2) (ap : ZA z TI TO i1 i2 f1 f2) (hz : IsZip s.heap z TI TO .none) (hi : IsPair s.heap TI (.ref i1) (.ref i2)) (ho : IsPair s.heap TO a b)
   (h1 : S1 k s.heap) (h2 : S2 k s.heap) (l1 : k < n1) (l2 : k < n2)
   (fin : ∀ x y h' tk,P1 k x -> P2 k y -> IsZip h' z TI TO (rawInt s.heap.objs.size) -> IsPair h' TO x y -> S1 (k + 1) h' -> S2 (k + 1) h' -> IsPair h' s.heap.objs.size x y ->
     (∀ c o,c ≠ z -> c ≠ TO -> c ≠ i1 -> c ≠ i2 -> s.heap.get? c = some o -> h'.get? c = some o) -> Q (.ref s.heap.objs.size) { s with heap:=h',toks:=tk }) :
   wpAny (model prog w) A (Builtin.«zip.__next__» ⟨[.ref z],[]⟩) (fun r s'=>∃ v,r = .done (.ret v) /\ Q v s') E s:=by
 show wpAny _ _ (field (.ref z) 2 >>= _) _ _ _; refine wpAny_bind (wpAny_field hz rfl (x:=.bool false) rfl ?_)
 show wpAny _ _ (field (.ref z) 3 >>= _) _ _ _; refine wpAny_bind (wpAny_field hz rfl (x:=.ref TI) rfl ?_)
 refine wpAny_bind (wpAny_seqItems hi rfl ?_); show wpAny _ _ (Builtin.SmallTypes.ownedTupleIsFree (.ref z) >>= _) _ _ _
 refine wpAny_bind ?_; unfold Builtin.SmallTypes.ownedTupleIsFree
 refine wpAny_bind (wpAny_field hz rfl (x:=.none) rfl (wpAny_pure ?_)); simp only [if_true]
 refine wpAny_bind (wpAny_rule ?_); refine wpAny_bind (wpAny_field hz rfl (x:=.ref TO) rfl ?_)
 refine wpAny_bind (wpAny_setField_rec hz (by simp) fun g1 zz1 sb1=>?_)
 have zz1 : IsZip g1 z TI TO .ellipsis:=zz1
 refine wpAny_bind ?_; simp only [List.zipIdx_cons,List.zipIdx_nil,List.forIn_cons,List.forIn_nil]
 refine wpAny_bind (wpAny_bind (wpAny_onRaise ?_)); show wpAny _ _ (Builtin.SmallTypes.nextOf (.ref i1) >>= _) _ _ _
 have h1a : S1 k g1:=D1.frame _ _ _ h1 fun c hc o e=>sb1.extBut c o (fun q=>ap.b1 (q ▸ hc)) e
 have h2a : S2 k g1:=D2.frame _ _ _ h2 fun c hc o e=>sb1.extBut c o (fun q=>ap.b2 (q ▸ hc)) e
 refine wpAny_bind (D1.item k _ _ _ l1 h1a fun x g2 t2 px h1b sb2=>wpAny_pure ?_)
 have ho2 : IsPair g2 TO a b:=sb2.extBut _ _ ap.a8 (sb1.extBut _ _ ap.a2 ho)
 have h2b : S2 k g2:=D2.frame _ _ _ h2a fun c hc o e=>sb2.extBut c o (fun q=>ap.b5 (q ▸ hc)) e
 refine wpAny_bind (wpAny_seqItems ho2 rfl ?_); refine wpAny_bind (wpAny_updateSeq_pair ho2 fun g3 ho3 sb3=>?_)
 have ho3 : IsPair g3 TO x b:=ho3
 have sb3 : Heap.SameBut TO g2 g3:=sb3
 have h1c : S1 (k + 1) g3:=D1.frame _ _ _ h1b fun c hc o e=>sb3.extBut c o (fun q=>ap.b3 (q ▸ hc)) e
 have h2c : S2 k g3:=D2.frame _ _ _ h2b fun c hc o e=>sb3.extBut c o (fun q=>ap.b4 (q ▸ hc)) e
 refine wpAny_bind (wpAny_letGo (wpAny_pure ?_)); refine wpAny_bind (wpAny_bind (wpAny_onRaise ?_))
 show wpAny _ _ (Builtin.SmallTypes.nextOf (.ref i2) >>= _) _ _ _; refine wpAny_bind (D2.item k _ _ _ l2 h2c fun y g4 t4 py h2d sb4=>wpAny_pure ?_)
 have sb4 : Heap.SameBut i2 g3 g4:=sb4
 have ho4 : IsPair g4 TO x b:=sb4.extBut _ _ ap.a9 ho3
 have h1d : S1 (k + 1) g4:=D1.frame _ _ _ h1c fun c hc o e=>sb4.extBut c o (fun q=>ap.b6 (q ▸ hc)) e
 refine wpAny_bind (wpAny_seqItems ho4 rfl ?_); refine wpAny_bind (wpAny_updateSeq_pair ho4 fun g5 ho5 sb5=>?_)
 have ho5 : IsPair g5 TO x y:=ho5
 have sb5 : Heap.SameBut TO g4 g5:=sb5
 have h1e : S1 (k + 1) g5:=D1.frame _ _ _ h1d fun c hc o e=>sb5.extBut c o (fun q=>ap.b3 (q ▸ hc)) e
 have h2e : S2 (k + 1) g5:=D2.frame _ _ _ h2d fun c hc o e=>sb5.extBut c o (fun q=>ap.b4 (q ▸ hc)) e
 refine wpAny_bind (wpAny_letGo (wpAny_pure (wpAny_pure ?_))); refine wpAny_bind (wpAny_seqItems ho5 rfl ?_); refine wpAny_bind (wpAny_newTuple ?_)
 have sb2 : Heap.SameBut i1 g1 g2:=sb2
 have sb1 : Heap.SameBut z s.heap g1:=sb1
 have hsz : g5.objs.size = s.heap.objs.size:=by rw [sb5.1,sb4.1,sb3.1,sb2.1,sb1.1]
 have zz5 : IsZip g5 z TI TO .ellipsis:=sb5.extBut _ _ ap.a2.symm (sb4.extBut _ _ ap.a4.symm (sb3.extBut _ _ ap.a2.symm (sb2.extBut _ _ ap.a3.symm zz1)))
 have kept : ∀ c o,c ≠ z -> c ≠ TO -> c ≠ i1 -> c ≠ i2 -> s.heap.get? c = some o -> g5.get? c = some o:=fun c o c1 c2 c3 c4 e=>sb5.extBut _ _ c2 (sb4.extBut _ _ c4 (sb3.extBut _ _ c2 (sb2.extBut _ _ c3 (sb1.extBut _ _ c1 e))))
 have zlt : z < g5.objs.size:=Heap.lt_size zz5
 show wpAny _ _ (Builtin.SmallTypes.ownedTupleHandOut (.ref z) (.ref g5.objs.size) >>= _) _ _ _; refine wpAny_bind ?_; unfold Builtin.SmallTypes.ownedTupleHandOut
 have zz6 : IsZip (g5.push { cls:=.type "tuple",data:=.seq #[x,y] }) z TI TO .ellipsis:=Heap.get?_push_of_some _ zz5
 refine wpAny_bind (wpAny_setField_rec zz6 (by simp) fun g7 zz7 sb7=>?_)
 have zz7 : IsZip g7 z TI TO (rawInt g5.objs.size):=zz7
 refine wpAny_setField_rec zz7 (by simp) fun g8 zz8 sb8=>?_
 have zz8 : IsZip g8 z TI TO (rawInt g5.objs.size):=zz8
 have sb7 : Heap.SameBut z (g5.push { cls:=.type "tuple",data:=.seq #[x,y] }) g7:=sb7
 have sb8 : Heap.SameBut z g7 g8:=sb8
 have up : ∀ c o,c ≠ z -> g5.get? c = some o -> g8.get? c = some o:=fun c o c1 e=>sb8.extBut _ _ c1 (sb7.extBut _ _ c1 (Heap.get?_push_of_some _ e))
 have new8 : IsPair g8 g5.objs.size x y:=sb8.extBut _ _ (Nat.ne_of_gt zlt) (sb7.extBut _ _ (Nat.ne_of_gt zlt) (Heap.get?_push_size _ rfl))
 rw [hsz] at zz8 new8
 refine wpAny_pure ⟨_,rfl,?_⟩
 show Q (.ref g5.objs.size) _
 rw [hsz]
 exact fin x y g8 _ px py zz8 (up _ _ ap.a2 ho5) (D1.frame _ _ _ h1e fun c hc o e=>up c o (fun q=>ap.b1 (q ▸ hc)) e) (D2.frame _ _ _ h2e fun c hc o e=>up c o (fun q=>ap.b2 (q ▸ hc)) e) new8 fun c o c1 c2 c3 c4 e=>up c o c1 (kept c o c1 c2 c3 c4 e)
theorem zsC {Q : Fin -> Shared -> Prop} (D1 : Draws prog w A i1 f1 n1 P1 S1) (D2 : Draws prog w A i2 f2 n2 P2 S2) (ap : ZA z TI TO i1 i2 f1 f2) (hz : IsZip s.heap z TI TO .none) (hi : IsPair s.heap TI (.ref i1) (.ref i2)) (ho : IsPair s.heap TO a b)
   (h1 : S1 k s.heap) (h2 : S2 k s.heap) (hk : k = n1 \/ (k < n1 /\ k = n2))
   (fin : ∀ h' e tk,(∀ c o,c ≠ z -> c ≠ TO -> c ≠ i1 -> c ≠ i2 -> s.heap.get? c = some o -> h'.get? c = some o) -> (∃ o,h'.get? e = some o /\ o.cls = .type "StopIteration") -> E (.ref e) { s with heap:=h',toks:=tk }) :
   wpAny (model prog w) A (Builtin.«zip.__next__» ⟨[.ref z],[]⟩) Q E s:=by
 show wpAny _ _ (field (.ref z) 2 >>= _) _ _ _; refine wpAny_bind (wpAny_field hz rfl (x:=.bool false) rfl ?_)
 show wpAny _ _ (field (.ref z) 3 >>= _) _ _ _; refine wpAny_bind (wpAny_field hz rfl (x:=.ref TI) rfl ?_)
 refine wpAny_bind (wpAny_seqItems hi rfl ?_); show wpAny _ _ (Builtin.SmallTypes.ownedTupleIsFree (.ref z) >>= _) _ _ _
 refine wpAny_bind ?_; unfold Builtin.SmallTypes.ownedTupleIsFree
 refine wpAny_bind (wpAny_field hz rfl (x:=.none) rfl (wpAny_pure ?_)); simp only [if_true]
 refine wpAny_bind (wpAny_rule ?_); refine wpAny_bind (wpAny_field hz rfl (x:=.ref TO) rfl ?_)
 refine wpAny_bind (wpAny_setField_rec hz (by simp) fun g1 zz1 sb1=>?_)
 have zz1 : IsZip g1 z TI TO .ellipsis:=zz1
 have sb1 : Heap.SameBut z s.heap g1:=sb1
 refine wpAny_bind ?_; simp only [List.zipIdx_cons,List.zipIdx_nil,List.forIn_cons,List.forIn_nil]
 refine wpAny_bind (wpAny_bind (wpAny_onRaise ?_)); show wpAny _ _ (Builtin.SmallTypes.nextOf (.ref i1) >>= _) _ _ _
 have h1a : S1 k g1:=D1.frame _ _ _ h1 fun c hc o e=>sb1.extBut c o (fun q=>ap.b1 (q ▸ hc)) e
 have h2a : S2 k g1:=D2.frame _ _ _ h2 fun c hc o e=>sb1.extBut c o (fun q=>ap.b2 (q ▸ hc)) e
 rcases hk with rfl | ⟨l1,rfl⟩
 . refine wpAny_bind (D1.done _ _ _ h1a fun g2 e sb2 he=>?_)
   obtain ⟨oe,hoe,hce⟩:=he
   have zz2 : IsZip g2 z TI TO .ellipsis:=sb2 _ _ ap.a3.symm zz1
   have hez : e ≠ z:=fun q=>by subst q; rw [zz2] at hoe; cases hoe; simp at hce
   exact wpAny_setField_rec zz2 (by simp) fun g3 _ sb3=>fin g3 e _ (fun c o c1 _ c3 _ q=>sb3.extBut _ _ c1 (sb2 _ _ c3 (sb1.extBut _ _ c1 q))) ⟨oe,sb3.extBut _ _ hez hoe,hce⟩
 . refine wpAny_bind (D1.item k _ _ _ l1 h1a fun x g2 t2 px h1b sb2=>wpAny_pure ?_)
   have sb2 : Heap.SameBut i1 g1 g2:=sb2
   have ho2 : IsPair g2 TO a b:=sb2.extBut _ _ ap.a8 (sb1.extBut _ _ ap.a2 ho)
   have h2b : S2 k g2:=D2.frame _ _ _ h2a fun c hc o e=>sb2.extBut c o (fun q=>ap.b5 (q ▸ hc)) e
   refine wpAny_bind (wpAny_seqItems ho2 rfl ?_); refine wpAny_bind (wpAny_updateSeq_pair ho2 fun g3 ho3 sb3=>?_)
   have sb3 : Heap.SameBut TO g2 g3:=sb3
   have h2c : S2 k g3:=D2.frame _ _ _ h2b fun c hc o e=>sb3.extBut c o (fun q=>ap.b4 (q ▸ hc)) e
   refine wpAny_bind (wpAny_letGo (wpAny_pure ?_)); refine wpAny_bind (wpAny_bind (wpAny_onRaise ?_))
   show wpAny _ _ (Builtin.SmallTypes.nextOf (.ref i2) >>= _) _ _ _; refine wpAny_bind (D2.done _ _ _ h2c fun g4 e sb4 he=>?_)
   obtain ⟨oe,hoe,hce⟩:=he
   have zz4 : IsZip g4 z TI TO .ellipsis:=sb4 _ _ ap.a4.symm (sb3.extBut _ _ ap.a2.symm (sb2.extBut _ _ ap.a3.symm zz1))
   have hez : e ≠ z:=fun q=>by subst q; rw [zz4] at hoe; cases hoe; simp at hce
   exact wpAny_setField_rec zz4 (by simp) fun g5 _ sb5=>fin g5 e _ (fun c o c1 c2 c3 c4 q=>sb5.extBut _ _ c1 (sb4 _ _ c4 (sb3.extBut _ _ c2 (sb2.extBut _ _ c3 (sb1.extBut _ _ c1 q))))) ⟨oe,sb5.extBut _ _ hez hoe,hce⟩
end
def SqK (t : Bool) (K : PySem.W.Frag) (H : Hp) (a : Addr) (xs : List V) : Prop:=match t with
 | true=>SqT K H a xs
 | false=>SqL K H a xs
def zeg (t : Bool) (h : Heap) (it a : Addr) (i : Nat) : Prop:=match t with
 | true=>h.IsTupleIter it a i
 | false=>h.IsListIter it a i
def zr5 (t : Bool) (h : Heap) (a : Addr) (its : Array Value) : Prop:=match t with
 | true=>h.IsTuple a its
 | false=>h.IsList a its
theorem zh7 {prog : Program} {w : World} {A : Around} (t : Bool) (hh : A.handled = none) (it a : Addr) (hne : a ≠ it) (its : Array Value) : Draws prog w A it [it,a] its.size (fun i v=>its[i]? = some v) (fun i h=>zeg t h it a i /\ zr5 t h a its):=by
 cases t
 . exact Draws.list hh it a hne its
 . exact zmP hh it a hne its
theorem Inv.seqK {X : Cx} {pins : List (Addr × Obj)} {σ : L2.St} {H : Hp} {s : Shared} {t : Bool} {a : Addr} {xs : List V} (I : Inv X pins σ H s) (h : SqK t X.K H a xs) : ∃ its : List Value,zay xs its /\ zr5 t s.heap a its.toArray:=by
 cases t
 . obtain ⟨its,r,p,_⟩:=I.list h
   exact ⟨its,r,p.isList⟩
 . obtain ⟨its,r,p,_⟩:=I.tuple h
   exact ⟨its,r,p⟩
theorem Inv.seqK_inj {X : Cx} {pins : List (Addr × Obj)} {σ : L2.St} {H : Hp} {s : Shared} {t : Bool} {a : Addr} {xs ys : List V} (I : Inv X pins σ H s) (h : SqK t X.K H a xs) (k : SqK t X.K H a ys) : xs = ys:=by
 cases t
 . exact I.list_inj h k
 . exact I.tuple_inj h k
theorem zeg.obj {t : Bool} {h : Heap} {it a : Addr} {i : Nat} (st : zeg t h it a i) : ∃ o,h.get? it = some o /\ ∀ v,o.data ≠ .cell v:=by
 cases t
 . obtain ⟨o,e,_,d⟩:=st
   exact ⟨o,e,fun v z=>by rw [d] at z; cases z⟩
 . obtain ⟨o,e,_,d⟩:=st
   exact ⟨o,e,fun v z=>by rw [d] at z; cases z⟩
theorem zeg.at {t : Bool} {h h' : Heap} {it a : Addr} {i : Nat} (st : zeg t h it a i) (k : ∀ o,h.get? it = some o -> h'.get? it = some o) : zeg t h' it a i:=by
 cases t
 . exact Heap.IsListIter.at st k
 . exact Heap.IsTupleIter.at st k
def Itz (t u : Bool) (K : PySem.W.Frag) (a b : Addr) : It :=
 ⟨fun i H=>∃ xs x ys y,SqK t K H a xs /\ xs[i]? = some x /\ SqK u K H b ys /\ ys[i]? = some y,
  fun i H v H'=>∃ (c : Addr) (x y : V),v = .ref c /\ H c = none /\ (∀ xs,SqK t K H a xs -> xs[i]? = some x) /\ (∀ ys,SqK u K H b ys -> ys[i]? = some y) /\ H' = upd H c (.tup [x,y]),
  fun i H=>∃ xs ys,SqK t K H a xs /\ SqK u K H b ys /\ (xs.length = i \/ (i < xs.length /\ ys.length = i))⟩
theorem zov {P : Program} {w : World} {K : PySem.W.Frag} {elts : List Expr} {k1} {tpos : Pos} {t u : Bool} (a b z TI TO i1 i2 : Addr) (ap : ZA z TI TO i1 i2 [i1,a] [i2,b]) (na : a ≠ i1) (nb : b ≠ i2) :
   zhi P w K (.Tuple elts k1 tpos) (Itz t u K a b) [z,TI,TO,i1,i2] z (fun i h=>IsZip h z TI TO .none /\ IsPair h TI (.ref i1) (.ref i2) /\ (∃ p q,IsPair h TO p q) /\ zeg t h i1 a i /\ zeg u h i2 b i) where
 mem:=by simp
 obj:=fun i h st c hc=>by
   obtain ⟨hz,hi,⟨p,q,ho⟩,s1,s2⟩:=st
   simp only [List.mem_cons,List.not_mem_nil,or_false] at hc
   rcases hc with rfl | rfl | rfl | rfl | rfl
   . exact ⟨_,hz,fun v z=>by cases (show Data.fields _ = Data.cell v from z)⟩
   . exact ⟨_,hi,fun v z=>by cases (show Data.seq _ _ = Data.cell v from z)⟩
   . exact ⟨_,ho,fun v z=>by cases (show Data.seq _ _ = Data.cell v from z)⟩
   . exact s1.obj
   . exact s2.obj
 keep:=fun i h h' st k=>by
   obtain ⟨hz,hi,⟨p,q,ho⟩,s1,s2⟩:=st
   exact ⟨k z (by simp) _ hz,k TI (by simp) _ hi,⟨p,q,k TO (by simp) _ ho⟩,s1.at fun o e=>k i1 (by simp) o e,s2.at fun o e=>k i2 (by simp) o e⟩
 item:=by
   intro X hP hw hK hc i pins s σ H E I hf st hg
   subst hP hw hK
   obtain ⟨hz,hi,⟨p,q,ho⟩,s1,s2⟩:=st
   obtain ⟨xs,x,ys,y,hq1,hx,hq2,hy⟩:=hg
   obtain ⟨its,r1,p1⟩:=I.seqK hq1
   obtain ⟨jts,r2,p2⟩:=I.seqK hq2
   obtain ⟨ux,hux,rux⟩:=r1.get hx
   obtain ⟨uy,huy,ruy⟩:=r2.get hy
   have lt1 : i < its.toArray.size:=by
     rcases Nat.lt_or_ge i its.length with q | q
     . simpa using q
     . rw [List.getElem?_eq_none q] at hux; cases hux
   have lt2 : i < jts.toArray.size:=by
     rcases Nat.lt_or_ge i jts.length with q | q
     . simpa using q
     . rw [List.getElem?_eq_none q] at huy; cases huy
   have hT : s.TypeIs (.ref z) "zip":=⟨_,hz,rfl⟩
   unfold pyNext
   refine wpAny_bind (wpAny_attempt (wpAny_callSpecial?_slot (name:=Str.ofString "__next__") hT F.slot_zip_next (wpAny_call_entry F.slot_zip_next hT F.entry_zip_next
     (zsA (zh7 (A:=X.A.in1) t (I.ok.hd hc) i1 a na its.toArray) (zh7 (A:=X.A.in1) u (I.ok.hd hc) i2 b nb jts.toArray) ap hz hi ho ⟨s1,p1⟩ ⟨s2,p2⟩ lt1 lt2 fun v1 v2 h1 tk e1 e2 hz1 ho1 st1 st2 hT1 hk=>wpAny_pure ?_) (F.args_zip_next_1 _))))
   have ev1 : v1 = ux:=by
     have e1' : its[i]? = some v1:=by simpa using e1
     rw [hux] at e1'; exact (Option.some.inj e1').symm
   have ev2 : v2 = uy:=by
     have e2' : jts[i]? = some v2:=by simpa using e2
     rw [huy] at e2'; exact (Option.some.inj e2').symm
   subst ev1 ev2
   have I1 : Inv X pins σ (upd H s.heap.objs.size (.tup [x,y])) { s with heap:=s.heap.push { cls:=.type "tuple",data:=.seq ([v1,v2] : List Value).toArray },toks:=tk } :=
     I.laid (fun c o q=>Heap.get?_push_of_some _ q) (Nat.le_refl _) (show za9 X.prog X.w _ _ _ (.tup [x,y]) from ⟨zdk (by simp),_,.cons rux (.cons ruy .nil),IsTup.new _ _⟩)
   have ltf : ∀ c ∈ [z,TI,TO,i1,i2],c < s.heap.objs.size:=fun c hc=>by
     simp only [List.mem_cons,List.not_mem_nil,or_false] at hc
     rcases hc with rfl | rfl | rfl | rfl | rfl
     . exact Heap.lt_size hz
     . exact Heap.lt_size hi
     . exact Heap.lt_size ho
     . obtain ⟨o,e,_⟩:=s1.obj; exact Heap.lt_size e
     . obtain ⟨o,e,_⟩:=s2.obj; exact Heap.lt_size e
   have hf1 : ∀ c ∈ [z,TI,TO,i1,i2],zdD X pins (upd H s.heap.objs.size (.tup [x,y])) c:=fun c hc=>⟨by rw [zbj (Nat.ne_of_lt (ltf c hc))]; exact (hf c hc).1,(hf c hc).2⟩
   refine ⟨_,rfl,wpAny_letOwnedTupleGo_zip hz1 fun h2 hz2 hs2=>?_⟩
   have hs2 : Heap.SameBut z h1 h2:=hs2
   refine ⟨.ref s.heap.objs.size,_,Inv.turnedL (s:={ s with heap:=s.heap.push { cls:=.type "tuple",data:=.seq ([v1,v2] : List Value).toArray },toks:=tk }) (ch:=[z,TI,TO,i1,i2]) I1 (fun c o hc q=>?_) hf1,rfl,
     ⟨_,x,y,rfl,I.hok.fresh (Nat.le_refl _),fun zs hzs=>by rw [I.seqK_inj hzs hq1]; exact hx,fun zs hzs=>by rw [I.seqK_inj hzs hq2]; exact hy,rfl⟩,
     ⟨hz2,hs2.extBut _ _ ap.a1 (hk _ _ ap.a1 ap.a5 ap.a6 ap.a7 hi),⟨_,_,hs2.extBut _ _ ap.a2 ho1⟩,st1.1.at fun o e=>hs2.extBut _ _ ap.a3 e,st2.1.at fun o e=>hs2.extBut _ _ ap.a4 e⟩,fun c hc=>(hf1 c hc).1⟩
   have c1 : c ≠ z:=fun q=>hc (by simp [q])
   have c2 : c ≠ TO:=fun q=>hc (by simp [q])
   have c3 : c ≠ i1:=fun q=>hc (by simp [q])
   have c4 : c ≠ i2:=fun q=>hc (by simp [q])
   refine hs2.extBut _ _ c1 ?_
   by_cases hcs : c = s.heap.objs.size
   . subst hcs
     rw [Heap.get?_push_size _ rfl] at q
     cases q
     exact hT1
   . exact hk c o c1 c2 c3 c4 (by rw [Heap.get?_push_ne _ _ _ hcs] at q; exact q)
 done:=by
   intro X hP hw hK hc i pins s σ H E I hf st hg
   subst hP hw hK
   obtain ⟨hz,hi,⟨p,q,ho⟩,s1,s2⟩:=st
   obtain ⟨xs,ys,hq1,hq2,hend⟩:=hg
   obtain ⟨its,r1,p1⟩:=I.seqK hq1
   obtain ⟨jts,r2,p2⟩:=I.seqK hq2
   have e1:=r1.length
   have e2:=r2.length
   have hT : s.TypeIs (.ref z) "zip":=⟨_,hz,rfl⟩
   unfold pyNext
   refine wpAny_bind (wpAny_attempt (wpAny_callSpecial?_slot (name:=Str.ofString "__next__") hT F.slot_zip_next (wpAny_call_entry F.slot_zip_next hT F.entry_zip_next
     (zsC (k:=i) (zh7 (A:=X.A.in1) t (I.ok.hd hc) i1 a na its.toArray) (zh7 (A:=X.A.in1) u (I.ok.hd hc) i2 b nb jts.toArray) ap hz hi ho ⟨s1,p1⟩ ⟨s2,p2⟩ (by simp only [List.size_toArray]; omega) fun h' y tk hk hx'=>?_) (F.args_zip_next_1 _))))
   obtain ⟨o,ho',hcl⟩:=hx'
   refine wpAny_bind (wpAny_isInstance (T:="StopIteration") (b:=true) ⟨o,ho',hcl⟩ isSubtype_stop (wpAny_pure ⟨rfl,?_⟩))
   exact Inv.turnedL (ch:=[z,TI,TO,i1,i2]) I (fun c o hc e=>hk c o (fun q=>hc (by simp [q])) (fun q=>hc (by simp [q])) (fun q=>hc (by simp [q])) (fun q=>hc (by simp [q])) e) hf
 self:=fun _ _ _ _ _ st h=>wpAny_pyIter_zip st.1 h
abbrev zT1 (h : Heap) (a : Addr) : Heap:=h.push { cls:=.type "tuple_iterator",data:=.fields #[.ref a,.int 0 0] }
abbrev zT2 (h : Heap) (a b : Addr) : Heap:=(zT1 h a).push { cls:=.type "tuple_iterator",data:=.fields #[.ref b,.int 0 0] }
abbrev zT3 (h : Heap) (a b : Addr) : Heap:=(zT2 h a b).push { cls:=.type "tuple",data:=.seq #[.ref h.objs.size,.ref (zT1 h a).objs.size] }
abbrev zT4 (h : Heap) (a b : Addr) : Heap:=(zT3 h a b).push { cls:=.type "tuple",data:=.seq #[.none,.none] }
abbrev zT5 (h : Heap) (a b : Addr) : Heap:=(zT4 h a b).push { cls:=.type "zip",data:=.fields #[.none,.bool false,.bool false,.ref (zT2 h a b).objs.size,.ref (zT3 h a b).objs.size] }
theorem zkQ (a b : Addr) (xs ys : Array Value) : Meets (Builtin.«zip.__new__» ⟨[.type "zip",.ref a,.ref b],[]⟩) (fun _ R s=>s.heap.IsTuple a xs /\ s.heap.IsTuple b ys /\ R (.ok (.ret (.ref (zT4 s.heap a b).objs.size))) { s with heap:=zT5 s.heap a b }) :=
 .of_wp fun prog w A R s h=>by
   obtain ⟨hp,g,d,tk,os⟩:=s
   obtain ⟨ha,hb,h⟩:=h
   have hsub:=sub_zip
   have hA : Heap.IsTuple (Shared.heap ⟨hp,g,d,tk,os⟩) a xs:=ha
   have hB : Heap.IsTuple (Shared.heap ⟨hp.push { cls:=.type "tuple_iterator",data:=.fields #[.ref a,.int 0 0] },g,d,tk,os⟩) b ys:=hb.at fun o e=>Heap.get?_push_of_some _ e
   wp_walk using wpAny_pyIter_tuple hA,wpAny_pyIter_tuple hB
   exact ⟨_,rfl,h⟩
section
variable {prog : Program} {w : World} {A : Around} {E : Value -> Shared -> Prop} {s : Shared}
theorem zhP {a b : Addr} {xs ys : Array Value} {Q : Value -> Shared -> Prop} (ha : s.heap.IsTuple a xs) (hb : s.heap.IsTuple b ys)
   (fin : ∀ h',IsZip h' (s.heap.objs.size + 4) (s.heap.objs.size + 2) (s.heap.objs.size + 3) .none -> IsPair h' (s.heap.objs.size + 2) (.ref s.heap.objs.size) (.ref (s.heap.objs.size + 1)) -> IsPair h' (s.heap.objs.size + 3) .none .none ->
     h'.IsTupleIter s.heap.objs.size a 0 -> h'.IsTupleIter (s.heap.objs.size + 1) b 0 -> (∀ c o,s.heap.get? c = some o -> h'.get? c = some o) -> Q (.ref (s.heap.objs.size + 4)) { s with heap:=h' }) : wpAny (model prog w) A (call (.type "zip") [.ref a,.ref b]) Q E s:=by
 refine callType_new F.called_zip (by decide) (F.typeCall_zip_2 _ _) (F.newCall_zip_2 _ _) (fun obj=>F.args_object_init_3 obj _ _) F.entry_zip_new (zkQ a b xs ys) ⟨ha,hb,?_⟩
 have z1 : (zT1 s.heap a).objs.size = s.heap.objs.size + 1:=Heap.size_push ..
 have z2 : (zT2 s.heap a b).objs.size = s.heap.objs.size + 2:=by rw [Heap.size_push,z1]
 have z3 : (zT3 s.heap a b).objs.size = s.heap.objs.size + 3:=by rw [Heap.size_push,z2]
 have z4 : (zT4 s.heap a b).objs.size = s.heap.objs.size + 4:=by rw [Heap.size_push,z3]
 have g5 : (zT5 s.heap a b).get? (zT4 s.heap a b).objs.size = some _:=Heap.get?_push_size _ rfl
 have g4 : (zT5 s.heap a b).get? (zT3 s.heap a b).objs.size = some _:=Heap.get?_push_of_some _ (Heap.get?_push_size _ rfl)
 have g3 : (zT5 s.heap a b).get? (zT2 s.heap a b).objs.size = some _:=Heap.get?_push_of_some _ (Heap.get?_push_of_some _ (Heap.get?_push_size _ rfl))
 have g2 : (zT5 s.heap a b).get? (zT1 s.heap a).objs.size = some _:=Heap.get?_push_of_some _ (Heap.get?_push_of_some _ (Heap.get?_push_of_some _ (Heap.get?_push_size _ rfl)))
 have g1 : (zT5 s.heap a b).get? s.heap.objs.size = some _:=Heap.get?_push_of_some _ (Heap.get?_push_of_some _ (Heap.get?_push_of_some _ (Heap.get?_push_of_some _ (Heap.get?_push_size _ rfl))))
 show _ /\ _
 rw [z2,z3,z4] at g5; rw [z1,z2] at g3; rw [z3] at g4; rw [z1] at g2; rw [z4]
 exact ⟨⟨_,g5,rfl⟩,fin _ g5 g3 g4 ⟨_,g1,rfl,rfl⟩ ⟨_,g2,rfl,rfl⟩ fun c o x=>Heap.get?_push_of_some _ (Heap.get?_push_of_some _ (Heap.get?_push_of_some _ (Heap.get?_push_of_some _ (Heap.get?_push_of_some _ x))))⟩
end
def zqO (t u : Bool) (K : PySem.W.Frag) (ta : TA) : TI:=fun σ H R=>ta σ H fun vs H1=>∃ a b,vs = [.ref a,.ref b] /\ (∃ xs,SqK t K H1 a xs) /\ (∃ ys,SqK u K H1 b ys) /\ R (Itz t u K a b) H1
theorem znT : bootBuiltins "zip" = some (.type "zip"):=by decide +kernel
theorem zd5 {x a b : Addr} (h : x ≠ a) (k : x ≠ b) : x ∉ [a,b]:=by simp [h,k]
theorem zsf {n a b : Nat} (la : a < n) (lb : b < n) : ZA (n + 4) (n + 2) (n + 3) n (n + 1) [n,a] [n + 1,b] where
 a1:=Nat.ne_of_lt (by omega)
 a2:=Nat.ne_of_lt (by omega)
 a3:=Nat.ne_of_lt (by omega)
 a4:=Nat.ne_of_lt (by omega)
 a5:=Nat.ne_of_lt (by omega)
 a6:=Nat.ne_of_gt (by omega)
 a7:=Nat.ne_of_gt (by omega)
 a8:=Nat.ne_of_gt (by omega)
 a9:=Nat.ne_of_gt (by omega)
 b0:=Nat.ne_of_lt (by omega)
 b1:=zd5 (Nat.ne_of_gt (by omega)) (Nat.ne_of_gt (by omega))
 b2:=zd5 (Nat.ne_of_gt (by omega)) (Nat.ne_of_gt (by omega))
 b3:=zd5 (Nat.ne_of_gt (by omega)) (Nat.ne_of_gt (by omega))
 b4:=zd5 (Nat.ne_of_gt (by omega)) (Nat.ne_of_gt (by omega))
 b5:=zd5 (Nat.ne_of_lt (by omega)) (Nat.ne_of_gt (by omega))
 b6:=zd5 (Nat.ne_of_gt (by omega)) (Nat.ne_of_gt (by omega))
theorem zgJ {X : Cx} {elts : List Expr} {k1} {tpos : Pos} {pins : List (Addr × Obj)} {σ : L2.St} {H : Hp} {s : Shared} {R : It -> Hp -> Prop} {h' : Heap} {E : Value -> Shared -> Prop} {t u : Bool} {a b : Addr} (I : Inv X pins σ H s) (la : a < s.heap.objs.size) (lb : b < s.heap.objs.size)
   (hz : IsZip h' (s.heap.objs.size + 4) (s.heap.objs.size + 2) (s.heap.objs.size + 3) .none) (hi : IsPair h' (s.heap.objs.size + 2) (.ref s.heap.objs.size) (.ref (s.heap.objs.size + 1))) (ho : IsPair h' (s.heap.objs.size + 3) .none .none)
   (s1 : zeg t h' s.heap.objs.size a 0) (s2 : zeg u h' (s.heap.objs.size + 1) b 0) (kp : ∀ c o,s.heap.get? c = some o -> h'.get? c = some o) (q : R (Itz t u X.K a b) H) : wpAny (model X.prog X.w) X.A (pyIter (.ref (s.heap.objs.size + 4))) (PIE X pins σ (.Tuple elts k1 tpos) R) E { s with heap:=h' }:=by
 refine wpAny_pyIter_zip hz ?_
 refine ⟨s.heap.objs.size + 4,[s.heap.objs.size + 4,s.heap.objs.size + 2,s.heap.objs.size + 3,s.heap.objs.size,s.heap.objs.size + 1],_,_,H,rfl,I.kept (t':=s.toks) kp,zov a b _ (s.heap.objs.size + 2) (s.heap.objs.size + 3) s.heap.objs.size (s.heap.objs.size + 1) (zsf la lb) (Nat.ne_of_lt la) (Nat.ne_of_lt (Nat.lt_succ_of_lt lb)),⟨hz,hi,⟨_,_,ho⟩,s1,s2⟩,fun c hc=>?_,q⟩
 . have hb' : s.heap.objs.size <= c:=by
     simp only [List.mem_cons,List.not_mem_nil,or_false] at hc
     rcases hc with rfl | rfl | rfl | rfl | rfl
     . exact Nat.le_add_right _ 4
     . exact Nat.le_add_right _ 2
     . exact Nat.le_add_right _ 3
     . exact Nat.le_refl _
     . exact Nat.le_add_right _ 1
   exact I.fpOk hb' (I.hok.fresh hb')
theorem zoH {X : Cx} {elts : List Expr} {k1} {tpos p pos : Pos} {l m : Expr} {ta : TA} (hg : Gl X "zip") (hm : X.mg "zip" = none) (ha : PA X [l,m] ta) (hs : starEach [l,m] X.env = [(false,eval l X.env),(false,eval m X.env)]:=by rfl) (hs2 : starEach [m] X.env = [(false,eval m X.env)]:=by rfl) :
   PI X (.Tuple elts k1 tpos) (.Call (.Name "zip" p) [l,m] [] pos) (zqO true true X.K ta):=by
 intro pins s σ H R I h
 refine Call_ (zcW I hg hm znT (PyProof.Rows.callWith_type1 (thn (ha pos pins s σ H _ I h) fun us s1 ⟨vs,H1,I1,r1,q1⟩=>?_) (by rw [hs,hs2]) (by rw [hs2]; rfl)))
 obtain ⟨a,b,rfl,⟨xs,hq1⟩,⟨ys,hq2⟩,q⟩:=q1
 obtain ⟨u,v,rfl,ru,rv⟩:=zgB r1
 cases ru
 cases rv
 obtain ⟨its,_,p1⟩:=I1.seqK hq1
 obtain ⟨jts,_,p2⟩:=I1.seqK hq2
 have la : a < s1.heap.objs.size:=by obtain ⟨o,e,_⟩:=(show s1.heap.IsTuple a its.toArray from p1); exact Heap.lt_size e
 have lb : b < s1.heap.objs.size:=by obtain ⟨o,e,_⟩:=(show s1.heap.IsTuple b jts.toArray from p2); exact Heap.lt_size e
 exact zhP p1 p2 fun h' hz hi ho t1 t2 kp=>zgJ (t:=true) (u:=true) I1 la lb hz hi ho t1 t2 kp q
theorem SqK.same {t : Bool} {K : PySem.W.Frag} {H H' : Hp} {a : Addr} {xs : List V} (s : zaf H H') (h : SqK t K H a xs) : SqK t K H' a xs:=by
 cases t
 . exact s.seq h
 . exact s.sqT h
def zsz (t u : Bool) (K : PySem.W.Frag) (g : TG) (tb : TS) (D : zbR) (σ : L2.St) (vs : List V) (H1 : Hp) : Prop:=∃ a b,vs = [.ref a,.ref b] /\ (∃ xs,SqK t K H1 a xs) /\ (∃ ys,SqK u K H1 b ys) /\
 ∃ W : Nat -> Nat -> L2.St -> Hp -> Prop,(∃ m,W 0 m σ H1) /\ ∀ i m σ H,W i m σ H ->
   ((Itz t u K a b).stop i H /\ D.nx σ H) \/ ((Itz t u K a b).go i H /\ ∃ M : L2.St -> Hp -> Prop,(∀ σ' H',M σ' H' -> ∃ m',m' < m /\ W (i + 1) m' σ' H') /\ ∀ x H',(Itz t u K a b).yld i H x H' -> g x σ H' fun σ2 H2=>tb { D with nx:=M,ct:=M,bk:=D.nx } σ2 H2)
def zld (t u : Bool) (K : PySem.W.Frag) (g : TG) (tt : TT) (te : TE) (src : List (Option Nat)) (σ : L2.St) (vs : List V) (H1 : Hp) (Q : VK) : Prop:=∃ a b,vs = [.ref a,.ref b] /\ (∃ xs,SqK t K H1 a xs) /\ (∃ ys,SqK u K H1 b ys) /\
 ∀ D,H1 D = none -> zdB g tt te (Itz t u K a b) D (zaO src σ) (upd H1 D (.lst [])) (fun H'=>Q (.ref D) H')
section
variable {t u : Bool} {K : PySem.W.Frag} {ta : TA} {g : TG} {tb : TS} {tt : TT} {te : TE} {D : zbR} {σ : L2.St} {H : Hp} {Q : VK} {a b : Addr} {xs ys : List V} {src : List (Option Nat)} {o0 o0' : Option V} {tl : L2.St}
theorem zo2 (h : ta σ H fun vs H1=>zsz t u K g tb D σ vs H1) : zjP (zqO t u K ta) g tb D σ H:=h
theorem zn6 (h : ta σ H fun vs H1=>zld t u K g tt te src σ vs H1 Q) : ze4 src (zqO t u K ta) g tt te σ H Q:=h
def zeb (H : Hp) (tl : L2.St) (Rel : Nat -> V -> Hp -> Prop) (D : Addr) (i : Nat) (zs : List V) (σ' : L2.St) (H' : Hp) : Prop :=
 (∃ o1 o2,σ' = o1 :: o2 :: tl) /\ H D = none /\ zaf H H' /\ H' D = some (.lst zs) /\ zs.length = i /\ ∀ j y,zs[j]? = some y -> Rel j y H'
theorem ze9 {Rel : Nat -> V -> Hp -> Prop} {D : Addr} {i : Nat} {zs : List V} {σ' σ3 : L2.St} {H1 H5 : Hp} {y : V} (inv : zeb H tl Rel D i zs σ' H1) (hi : i <= 1000) (hk : ∀ i v H1 H2,za7 H1 H2 -> Rel i v H1 -> Rel i v H2) (hσ : ∃ o1 o2,σ3 = o1 :: o2 :: tl) (s : zaf H1 H5) (r : Rel i y H5) : zjB (zeb H tl Rel) D i σ3 y H5:=by
 obtain ⟨_,hn,s1,hD,hl,hr⟩:=inv
 have hD5:=s _ _ hD
 refine zbA hD5 (by omega) fun H6 E6 e6=>⟨hσ,hn,(s1.trans s).grow hn E6,e6,by simp [hl],fun j z hz=>?_⟩
 have k6 : za7 H5 H6:=E6.keep hD5
 rcases Nat.lt_or_ge j zs.length with hj | hj
 . rw [List.getElem?_append_left hj] at hz
   exact hk _ _ _ _ (s.keep.trans k6) (hr j z hz)
 . have hj' : j = zs.length:=by
     rcases Nat.lt_or_ge zs.length j with q | q
     . rw [List.getElem?_eq_none (by simp; omega)] at hz; cases hz
     . omega
   subst hj'
   rw [List.getElem?_append_right (Nat.le_refl _),Nat.sub_self] at hz
   cases hz
   rw [hl]
   exact hk _ _ _ _ k6 r
theorem ziA (hx : SqK t K H a xs) (hy : SqK u K H b ys) (hxy : xs.length = ys.length) (hsrc : zaO src σ = o0 :: o0' :: tl) (Rel : Nat -> V -> Hp -> Prop) (hk : ∀ i v H1 H2,za7 H1 H2 -> Rel i v H1 -> Rel i v H2)
   (hs : ∀ D i x y zs o1 o2 H1 c,xs[i]? = some x -> ys[i]? = some y -> zeb H tl Rel D i zs (o1 :: o2 :: tl) H1 -> H1 c = some (.tup [x,y]) -> zdI (zeb H tl Rel) g tt te D i (.ref c) (o1 :: o2 :: tl) H1)
   (hd : ∀ D zs H',H D = none -> zaf H H' -> H' D = some (.lst zs) -> zs.length = xs.length -> (∀ j y,zs[j]? = some y -> Rel j y H') -> Q (.ref D) H') : zld t u K g tt te src σ [.ref a,.ref b] H Q:=by
 refine ⟨a,b,rfl,⟨xs,hx⟩,⟨ys,hy⟩,fun D hD=>⟨fun i m σ' H'=>i + m = xs.length /\ ∃ zs,zeb H tl Rel D i zs σ' H',⟨xs.length,by omega,[],⟨o0,o0',hsrc⟩,hD,zaf.upd hD,zar,rfl,fun j y z=>by simp at z⟩,?_⟩⟩
 rintro i m σ' H' ⟨him,zs,inv⟩
 have hq1:=SqK.same inv.2.2.1 hx
 have hq2:=SqK.same inv.2.2.1 hy
 by_cases hm : m = 0
 . have e : i = xs.length:=by omega
   subst e
   obtain ⟨_,n,s,e,hl,r⟩:=inv
   exact .inl ⟨⟨xs,ys,hq1,hq2,.inl rfl⟩,hd D zs H' n s e hl r⟩
 . have hi : i < xs.length:=by omega
   have hj : i < ys.length:=by omega
   refine .inr ⟨⟨xs,xs[i],ys,ys[i],hq1,by simp [hi],hq2,by simp [hj]⟩,fun σ2 H2=>∃ zs,zeb H tl Rel D (i + 1) zs σ2 H2,fun σ2 H2 h=>⟨m - 1,by omega,by omega,h⟩,?_⟩
   rintro v H2 ⟨c,x,y,rfl,hn,hx',hy',rfl⟩
   obtain ⟨⟨o1,o2,rfl⟩,n,s,e,hl,r⟩:=inv
   have su:=zaf.upd (o:=.tup [x,y]) hn
   exact hs D i x y zs o1 o2 _ c (hx' xs hq1) (hy' ys hq2) ⟨⟨o1,o2,rfl⟩,n,s.trans su,su _ _ e,hl,fun j y hy=>hk _ _ _ _ su.keep (r j y hy)⟩ zar
end
end L2
set_option Elab.async false
set_option linter.all false
set_option maxRecDepth 100000
namespace L2
open PySem PySem.Spec PyProof.Rows GM
end L2
set_option Elab.async false
set_option linter.all false
set_option maxRecDepth 100000
namespace L2
open PySem PySem.Spec PyProof.Rows GM
def zhT (K : PySem.W.Frag) : List V -> Hp -> VK -> Prop:=fun xs H Q=>∃ (p : Addr) (bs : List Bool),xs = [.ref p] /\ SqL K H p (bs.map V.bl) /\ Q (.bl (bs.all id)) H
theorem zic : bootBuiltins "all" = some (.builtin "all"):=by decide +kernel
theorem znj {bs : List Bool} : ∀ {us : List Value},zay (bs.map V.bl) us -> us = bs.map Value.bool:=by
 induction bs with
 | nil=>intro us r; rw [List.map_nil] at r; cases r; rfl
 | cons b bs ih =>
   intro us r
   rw [List.map_cons] at r
   cases r with
   | cons r1 r2 =>
     cases r1
     rw [List.map_cons,ih r2]
theorem zkb (bs : List Bool) : ((List.range bs.length).all fun i=>(bs[i]?).getD true) = bs.all id:=by
 rw [Bool.eq_iff_iff,List.all_eq_true,List.all_eq_true]
 constructor
 . intro h b hb
   obtain ⟨i,hi,rfl⟩:=List.getElem_of_mem hb
   have:=h i (List.mem_range.mpr hi)
   rw [List.getElem?_eq_getElem hi] at this
   exact this
 . intro h i hi
   rw [List.mem_range] at hi
   rw [List.getElem?_eq_getElem hi]
   exact h _ (List.getElem_mem hi)
open PyProof.V PySem.Calls in
theorem zd7 {X : Cx} (hc : X.calm = true) : zaj X (.builtin "all") (zhT X.K):=by
 intro pins s σ H xs us Q I r h
 obtain ⟨p,bs,rfl,hq,q⟩:=h
 obtain ⟨u,rfl,rx⟩:=zcR r
 cases rx
 obtain ⟨its,r',pl,hz⟩:=I.list hq
 have hi : its = bs.map Value.bool:=znj r'
 have hl : s.heap.IsList p its.toArray:=pl.isList
 have hlt : p < s.heap.objs.size:=by obtain ⟨_,e,_⟩:=hl; exact Heap.lt_size e
 refine call_all_walk (wpAny_pyIter_list hl ?_)
 refine ⟨s.heap.objs.size,[s.heap.objs.size,p],[s.heap.objs.size],its.toArray.size,_,_,fun i=>(bs[i]?).getD true,rfl,Walks.list (A:=X.A.in1) (I.ok.hd hc) _ p (Nat.ne_of_lt hlt) its.toArray,
   ⟨⟨_,Heap.get?_push_size _ rfl,rfl,rfl⟩,hl.push _⟩,fun i v s' Q' E' hP hQ=>?_,fun h' tk hk=>?_⟩
 . have hP : its.toArray[i]? = some v:=hP
   rw [hi] at hP
   simp only [List.getElem?_toArray,List.getElem?_map,Option.map_eq_some_iff] at hP
   obtain ⟨b,e,rfl⟩:=hP
   simp only [e,Option.getD_some] at hQ
   exact wpAny_truthy_bool hQ
 . have e : ((List.range its.toArray.size).all fun i=>(bs[i]?).getD true) = bs.all id:=by
     rw [List.size_toArray,hi,List.length_map]; exact zkb bs
   rw [e]
   exact ⟨.bl (bs.all id),H,I.kept (t':=tk) (fun b x e=>hk b x (fun hm=>by rw [List.mem_singleton.mp hm] at e; exact Nat.lt_irrefl _ (Heap.lt_size e)) (Heap.get?_push_of_some _ e)),rfl,q⟩
theorem zfX {K : PySem.W.Frag} {H : Hp} {Q : VK} {p : Addr} {bs : List Bool} (h : SqL K H p (bs.map V.bl)) (q : Q (.bl (bs.all id)) H) : zhT K [.ref p] H Q:=⟨p,bs,rfl,h,q⟩
section
variable {t u : Bool} {K : PySem.W.Frag} {g : TG} {tt : TT} {te : TE} {σ : L2.St} {H : Hp} {Q : VK} {a b : Addr} {xs ys : List V} {src : List (Option Nat)} {o0 o0' : Option V} {tl : L2.St}
end
def zqh (g : TG) (tb : TS) (D : zbR) (σ : L2.St) (vs : List V) (H1 : Hp) : Prop:=∃ i j : Int,vs = [.int i,.int j] /\ (-(2 ^ 62) <= i /\ i < 2 ^ 62 /\ -(2 ^ 62) <= j /\ j < 2 ^ 62) /\
 ∃ W : Nat -> Nat -> L2.St -> Hp -> Prop,(∃ m,W 0 m σ H1) /\ ∀ k m σ H,W k m σ H ->
   ((Itr i (j - i).toNat).stop k H /\ D.nx σ H) \/ ((Itr i (j - i).toNat).go k H /\ ∃ M : L2.St -> Hp -> Prop,(∀ σ' H',M σ' H' -> ∃ m',m' < m /\ W (k + 1) m' σ' H') /\ ∀ x H',(Itr i (j - i).toNat).yld k H x H' -> g x σ H' fun σ2 H2=>tb { D with nx:=M,ct:=M,bk:=D.nx } σ2 H2)
theorem znW {ta : TA} {g : TG} {tb : TS} {D : zbR} {σ : L2.St} {H : Hp} (h : ta σ H fun vs H1=>zqh g tb D σ vs H1) : zjP (zp4 ta) g tb D σ H:=h
theorem zkq {g : TG} {tb : TS} {D : zbR} {σ : L2.St} {H : Hp} {lo hi : Int} (h0 : -1000000000 <= lo) (h1 : lo < 1000000000) (h2 : -1000000000 <= hi) (h3 : hi < 1000000000) (Pv : Nat -> L2.St -> Hp -> Prop) (p : Pv 0 σ H)
   (hs : ∀ (i : Nat) σ H,i < (hi - lo).toNat -> Pv i σ H -> g (.int (lo + (i : Int))) σ H fun σ2 H2=>tb { D with nx:=Pv (i + 1),ct:=Pv (i + 1),bk:=D.nx } σ2 H2)
   (hd : ∀ σ H,Pv (hi - lo).toNat σ H -> D.nx σ H) : zqh g tb D σ [.int lo,.int hi] H :=
 ⟨lo,hi,rfl,⟨by omega,by omega,by omega,by omega⟩,zhv (lo:=lo) Pv p hs hd⟩
end L2
set_option Elab.async false
set_option linter.all false
set_option maxRecDepth 100000
namespace L2
open PySem PySem.Spec PyProof.Rows GM
def zkh (K : PySem.W.Frag) : List V -> Hp -> VK -> Prop:=fun xs H Q=>∃ x tp S T d b,xs = [x,.ref tp] /\ SqT K H tp [.ty S,.ty T] /\ Is K H x d /\ PySem.W.kitAny K (.type (kindOf d)) [.type S,.type T] = some b /\ Q (.bl b) H
theorem zj2 {X : Cx} : zaj X (.builtin "isinstance") (zkh X.K):=by
 intro pins s σ H xs us Q I r h
 obtain ⟨x,tp,S,T,d,b,rfl,ht,hd,e,q⟩:=h
 obtain ⟨u,w',rfl,rx,rt⟩:=zgB r
 cases (show w' = Value.ref tp from rt)
 obtain ⟨tts,rv,⟨ot,ht1,ht2,n,ht3⟩,_⟩:=I.tuple ht
 obtain ⟨t1,t2,rfl,r1,r2⟩:=zgB rv
 cases (show t1 = Value.type S from r1)
 cases (show t2 = Value.type T from r2)
 obtain ⟨c,dd,da,sl⟩:=ot
 cases ht2
 cases ht3
 have fin : ∀ tk,EP X pins σ Q (.bool b) { s with toks:=tk }:=fun tk=>⟨.bl b,H,I.tok _,rfl,q⟩
 cases d with
 | none =>
   cases zed.mp hd
   cases (show u = Value.none from rx)
   exact PySem.W.kia_tup PySem.W.kitx_none I.kIn True.intro ht1 e (fun z=>nomatch z) fin
 | bool y =>
   cases zdv.mp hd
   cases (show u = Value.bool y from rx)
   exact PySem.W.kia_tup PySem.W.kitx_bool I.kIn True.intro ht1 e (fun z=>nomatch z) fin
 | int i =>
   cases zaT.mp hd
   obtain ⟨t,q⟩:=(show ∃ t,u = Value.int i t from rx)
   cases q
   exact PySem.W.kia_tup PySem.W.kitx_int I.kIn True.intro ht1 e (fun z=>nomatch z) fin
 | str y =>
   cases ze7.mp hd
   obtain ⟨t,q⟩:=(show ∃ t,u = Value.str y t from rx)
   cases q
   exact PySem.W.kia_tup PySem.W.kitx_str I.kIn True.intro ht1 e (fun z=>nomatch z) fin
 | tuple ds =>
   obtain ⟨a,xs,e1,hq,_⟩:=zaH.mp hd
   subst e1
   cases (show u = Value.ref a from rx)
   obtain ⟨its,_,⟨o,h1,h2,_⟩,_⟩:=I.tuple hq
   exact PySem.W.kia_tup PySem.W.kitx_tuple I.kIn ⟨o,h1,h2⟩ ht1 e (fun z=>nomatch z) fin
 | list ds =>
   obtain ⟨a,xs,e1,hq,_⟩:=zaM.mp hd
   subst e1
   cases (show u = Value.ref a from rx)
   obtain ⟨its,_,⟨o,n,h1,h2,_⟩,_⟩:=I.list hq
   exact PySem.W.kia_tup PySem.W.kitx_list I.kIn ⟨o,h1,h2⟩ ht1 e (fun z=>nomatch z) fin
 | dict kv =>
   obtain ⟨a,kvs,e1,hq⟩:=zix.mp hd
   subst e1
   cases (show u = Value.ref a from rx)
   obtain ⟨_,_,vs,_,o,es,ep,h1,h2,_⟩:=(show za9 X.prog X.w H s.heap a (.dK kvs) from I.hok a _ hq)
   exact PySem.W.kia_tup PySem.W.kitx_dict I.kIn ⟨o,h1,h2.1⟩ ht1 e (fun z=>nomatch z) fin
theorem zoU {K : PySem.W.Frag} (d : PyData) : PySem.W.kitAny K (.type (kindOf d)) [.type "list",.type "tuple"] = some (znw d || zoq d):=by cases d <;> rfl
theorem zmu {K : PySem.W.Frag} {H : Hp} {Q : VK} {v : V} {tp : Addr} {d : PyData} (h : Is K H v d) (t : H tp = some (.tup [.ty "list",.ty "tuple"])) (q : Q (.bl (znw d || zoq d)) H) : zkh K [v,.ref tp] H Q :=
 ⟨v,tp,"list","tuple",d,_,rfl,.of t,h,zoU d,q⟩
section
variable {X : Cx} {tg : Expr}
def zr1 (K : PySem.W.Frag) (tl : TE) : TI:=fun σ H R=>tl σ H fun x H1=>(∃ a,x = .ref a /\ (∃ xs,SqL K H1 a xs) /\ R (Itl K a) H1) \/ (∃ a,x = .ref a /\ (∃ xs,SqT K H1 a xs) /\ R (Itt K a) H1)
theorem zgf {l : Expr} {tl : TE} (hl : PE X l tl) : PI X tg l (zr1 X.K tl):=by
 intro pins s σ H R I h
 refine thn (hl pins s σ H _ I h) fun v s1 ⟨x,H1,I1,r1,q1⟩=>?_
 rcases q1 with ⟨a,e,⟨xs,hq⟩,q⟩ | ⟨a,e,⟨xs,hq⟩,q⟩
 . subst e
   cases r1
   obtain ⟨its,rv,p,hz⟩:=I1.list hq
   refine wpAny_pyIter_list p.isList ?_
   refine ⟨s1.heap.objs.size,[s1.heap.objs.size],_,_,H1,rfl,I1.kept (t':=s1.toks) fun b o e=>Heap.get?_push_of_some _ e,zhI a _,⟨_,Heap.get?_push_size _ rfl,rfl,rfl⟩,fun b hb=>?_,q⟩
   have e : b = s1.heap.objs.size:=by simpa using hb
   subst e
   exact I1.fpOk (Nat.le_refl _) (I1.hok.fresh (Nat.le_refl _))
 . subst e
   cases r1
   obtain ⟨its,rv,p,hz⟩:=I1.tuple hq
   refine wpAny_pyIter_tuple (show s1.heap.IsTuple a its.toArray from p) ?_
   refine ⟨s1.heap.objs.size,[s1.heap.objs.size],_,_,H1,rfl,I1.kept (t':=s1.toks) fun b o e=>Heap.get?_push_of_some _ e,zgQ a _,⟨_,Heap.get?_push_size _ rfl,rfl,rfl⟩,fun b hb=>?_,q⟩
   have e : b = s1.heap.objs.size:=by simpa using hb
   subst e
   exact I1.fpOk (Nat.le_refl _) (I1.hok.fresh (Nat.le_refl _))
end
section
variable {K : PySem.W.Frag} {g : TG} {tt : TT} {te ta tb' tc : TE} {tb : TS} {D : zbR} {src : List (Option Nat)} {σ : St} {H : Hp} {Q : VK} {r r' : R2}
theorem zm1 (h : ta σ H fun x H1=>zgt K g tt te src σ x H1 Q \/ zhA K g tt te src σ x H1 Q) : ze4 src (zr1 K ta) g tt te σ H Q:=h
theorem zm5 (h : ta σ H fun x H1=>tb' σ H1 fun y H2=>r x y H2 fun z H3=>∃ k,z = .bl k /\ (if k = true then tc σ H3 fun w' H4=>r' y w' H4 Q else Q (.bl false) H3)) : znc r r' ta tb' tc σ H Q:=h
theorem zrw {b : Bool} {P : Bool -> Prop} (h : P b) : ∃ k,V.bl b = .bl k /\ P k:=⟨b,rfl,h⟩
end
theorem zcC {K : PySem.W.Frag} {H : Hp} {us : List V} {ds : List PyData} {i : Nat} {x : V} (t : IsAll K H us ds) (h : us[i]? = some x) : i < ds.length /\ Is K H x (ds.getD i .none):=by
 have hl:=t.length
 have hi : i < ds.length:=by
   rcases Nat.lt_or_ge i ds.length with z | z
   . exact z
   . rw [List.getElem?_eq_none (by omega)] at h; cases h
 obtain ⟨y,e,k⟩:=t.get (i:=i) (d:=ds.getD i .none) (by rw [List.getD_eq_getElem?_getD,List.getElem?_eq_getElem hi]; rfl)
 rw [e] at h
 cases h
 exact ⟨hi,k⟩
def zlk : List V -> Hp -> VK -> Prop:=fun xs H Q=>∃ i j,xs = [.int i,.int j] /\ Q (.int (if j < i then j else i)) H
theorem zhR {X : Cx} (hc : X.calm = true) : zaj X (.builtin "min") zlk:=zmr hc
theorem znm : bootBuiltins "min" = some (.builtin "min"):=by decide +kernel
theorem zpG {i j : Int} {H : Hp} {Q : VK} (q : ∀ m : Int,m <= i -> m <= j -> (m = i \/ m = j) -> Q (.int m) H) : zlk [.int i,.int j] H Q:=⟨i,j,rfl,by
 split
 . exact q j (by omega) (by omega) (.inr rfl)
 . exact q i (by omega) (by omega) (.inl rfl)⟩
end L2
set_option Elab.async false
set_option linter.all false
set_option maxRecDepth 100000
namespace L2
open PySem PySem.Spec PyProof.Rows GM
def zsB (K : PySem.W.Frag) (a : Addr) : It :=
 ⟨fun i H=>∃ xs x,SqL K H a xs /\ xs[i]? = some x,fun i H y H'=>∃ t x,y = .ref t /\ H t = none /\ (∀ xs,SqL K H a xs -> xs[i]? = some x) /\ H' = upd H t (.tup [.int (i : Int),x]),fun i H=>∃ xs,SqL K H a xs /\ xs.length <= i⟩
def zsR (K : PySem.W.Frag) (ta : TA) : TI:=fun σ H R=>ta σ H fun vs H1=>∃ a,vs = [.ref a] /\ (∃ xs,SqL K H1 a xs) /\ R (zsB K a) H1
section
variable {K : PySem.W.Frag} {ta : TA} {g : TG} {tb : TS} {tt c : TT} {te : TE} {D : zbR} {σ : St} {H : Hp} {Q : VK} {a : Addr} {xs : List V} {src : List (Option Nat)} {o0 o0' : Option V} {tl : St}
def zk4 (Pv : Nat -> St -> Hp -> Prop) (m : Nat) (tb : TS) (D : zbR) (σ' : St) (H1 : Hp) : Prop :=
 ∃ M : St -> Hp -> Prop,(∀ σ2 H2,M σ2 H2 -> ∃ m',m' < m /\ Pv m' σ2 H2) /\ tb { D with nx:=M,ct:=M,bk:=D.nx } σ' H1
theorem zmf (Pv : Nat -> St -> Hp -> Prop) (m0 : Nat) (h0 : Pv m0 σ H) (hs : ∀ m σ' H',Pv m σ' H' -> c σ' H' fun b H1=>if b = true then zk4 Pv m tb D σ' H1 else D.nx σ' H1) : znx c tb D σ H:=⟨Pv,⟨m0,h0⟩,hs⟩
theorem zn0 {Pv : Nat -> St -> Hp -> Prop} {m : Nat} {σ' : St} {H1 : Hp} (h : tb { D with nx:=fun σ2 H2=>∃ m',m' < m /\ Pv m' σ2 H2,ct:=fun σ2 H2=>∃ m',m' < m /\ Pv m' σ2 H2,bk:=D.nx } σ' H1) : zk4 Pv m tb D σ' H1:=⟨_,fun _ _ q=>q,h⟩
def zqs (K : PySem.W.Frag) (x : V) (H : Hp) (Q : Bool -> Hp -> Prop) : Prop:=∃ k,zqS K x H k /\ Q k H
def zrZ (K : PySem.W.Frag) (te : TE) : TT:=fun σ H Q=>te σ H fun x H'=>zqs K x H' Q
theorem znk {X : Cx} {e : Expr} {t : TE} (h : PE X e t) (he : ∀ whole,isTrue e X.env whole = (do let v <- whole; standAt e.pos; holding [v] (truthy v)):=by intro _; rfl) : PT X e (zrZ X.K t):=zna h he
theorem zqo {QB : Bool -> Hp -> Prop} (h : te σ H fun x H'=>zqs K x H' QB) : zrZ K te σ H QB:=h
theorem zkZ {QB : Bool -> Hp -> Prop} {v : V} {ds : List PyData} (h : Is K H v (.tuple ds)) (q : QB (!ds.isEmpty) H) : zqs K v H QB:=by
 obtain ⟨p,us,rfl,hs,t⟩:=zaH.mp h
 have hl:=t.length
 refine ⟨_,.inr (.inl ⟨us,hs,rfl⟩),?_⟩
 have e : us.isEmpty = ds.isEmpty:=by
   cases us <;> cases ds <;> simp_all
 rw [e]; exact q
end
theorem zlg : ∀ (ys : List V) (us : List Value),ys.length = us.length -> (∀ (i : Nat) y u,ys[i]? = some y -> us[i]? = some u -> zaJ y u) -> zay ys us
 | [],[],_,_=>.nil
 | [],_ :: _,h,_=>by simp at h
 | _ :: _,[],h,_=>by simp at h
 | y :: ys,u :: us,h,r=>.cons (r 0 y u rfl rfl) (zlg ys us (by simpa using h) fun i y u h1 h2=>r (i + 1) y u h1 h2)
def vz (l : List Nat) : List V:=l.map fun (w : Nat)=>V.int (w : Int)
theorem zck (l : List Nat) : (vz l).length = l.length:=List.length_map ..
def rLR (vs : List V) (H1 : Hp) (Q : VK) : Prop:=∃ j : Int,vs = [.int j] /\ 0 <= j /\ j <= 1000 /\ ∀ l,H1 l = none -> Q (.ref l) (upd H1 l (.lst (vz (List.range j.toNat))))
def zf7 (ta : TA) : TE:=fun σ H Q=>ta σ H fun vs H1=>rLR vs H1 Q
theorem zio {X : Cx} {a : Expr} {ta : TA} {p p2 pos pos2 : Pos} (hc : X.calm = true) (hg : Gl X "list") (hm : X.mg "list" = none) (hg2 : Gl X "range") (hm2 : X.mg "range" = none) (ha : PA X [a] ta) (hs : starEach [a] X.env = [(false,eval a X.env)]:=by rfl)
   (hs2 : starEach [Expr.Call (.Name "range" p2) [a] [] pos2] X.env = [(false,eval (.Call (.Name "range" p2) [a] [] pos2) X.env)]:=by rfl) : PE X (.Call (.Name "list" p) [.Call (.Name "range" p2) [a] [] pos2] [] pos) (zf7 ta):=by
 intro pins s σ H Q I h
 refine Call_ (zcW I hg hm zfZ ?_)
 refine PyProof.Rows.callWith_type1 ?_ hs2 rfl
 rw [hs2]
 show wpAny _ _ (spliced ((false,eval _ X.env) :: backTo pos [])) _ _ s
 refine Calls.spliced_cons ?_
 refine Call_ (zcW I hg2 hm2 boot_range (PyProof.Rows.callWith_type1 (thn (ha pos2 pins s σ H _ I h) fun us s1 ⟨vs,H1,I1,r1,q1⟩=>?_) hs rfl))
 obtain ⟨j,e,j0,j1,q⟩:=q1
 subst e
 obtain ⟨u,rfl,ru⟩:=zcR r1
 obtain ⟨t,rfl⟩:=ru
 refine call_range_1 ?_
 refine Calls.spliced_nil ?_
 have I2 : Inv X pins σ H1 { s1 with heap:=s1.heap.push { cls:=.type "range",data:=.fields #[.int 0 s1.toks,.int j t,.int 1 (s1.toks + 1)] },toks:=s1.toks + 1 + 1 }:=I1.kept fun b o e=>Heap.get?_push_of_some _ e
 refine call_list_range (n:=j.toNat) (I1.ok.hd hc) (IsRange.new ..) (small_one (by omega) (by omega) (by omega) (by omega)) (by rw [rangeSize_one]; split <;> omega) (by omega) fun h' tk acc c hk hD hI=>?_
 refine ⟨.ref _,_,I2.laid (t':=tk) hk (Nat.le_refl _) ?_,rfl,q _ (I2.hok.fresh (Nat.le_refl _))⟩
 refine ⟨zdk (by rw [zck,List.length_range]; omega),acc.toList,c,zlg _ _ (by rw [zck,List.length_range,Array.length_toList,hI.1]) fun i y u hy hu=>?_,by simpa using hD⟩
 have hu' : acc[i]? = some u:=by simpa using hu
 obtain ⟨t',e'⟩:=hI.2 i u hu'
 have hi : i < j.toNat:=by
   have:=(Array.getElem?_eq_some_iff.mp hu').1
   rw [hI.1] at this; exact this
 have hy' : y = V.int (i : Int):=by
   unfold vz at hy
   rw [List.getElem?_map,List.getElem?_range hi] at hy
   exact (Option.some.inj hy).symm
 subst hy'
 exact ⟨t',by rw [e']; congr 1; omega⟩
theorem ziO {ta : TA} {σ : St} {H : Hp} {Q : VK} (h : ta σ H fun vs H1=>rLR vs H1 Q) : zf7 ta σ H Q:=h
theorem zmJ {n : Nat} {H : Hp} {Q : VK} (hn : n <= 1000) (q : ∀ l H',H l = none -> zaf H H' -> H' l = some (.lst (vz (List.range n))) -> Q (.ref l) H') : rLR [V.int (n : Int)] H Q :=
 ⟨_,rfl,by omega,by omega,fun l hl=>q l _ hl (zaf.upd hl) (by rw [Int.toNat_natCast]; exact zar)⟩
theorem zh6 (w : Nat) (l : List Nat) : inV (.int (w : Int)) (vz l) = decide (w ∈ l):=by
 unfold inV vz
 induction l with
 | nil=>rfl
 | cons x l ih =>
   rw [List.map_cons,List.any_cons,ih]
   show ((x : Int) == (w : Int) || _) = _
   by_cases h : w = x
   . subst h; simp
   . have h' : ¬ (x : Int) = (w : Int):=fun z=>h (by omega)
     simp [h,h']
theorem zf4 (l : List Nat) : (vz l).all zeX = true:=by
 unfold vz
 rw [List.all_eq_true]
 intro y hy
 obtain ⟨w,_,rfl⟩:=List.mem_map.mp hy
 rfl
section
variable {K : PySem.W.Frag} {H H' : Hp} {Q : VK} {v : V} {p : Addr} {l : List Nat} {w : Nat}
theorem zoN (h : SqT K H p (vz l)) (q : Q (.bl (decide (w ∈ l))) H) : rIn K false (.int (w : Int)) (.ref p) H Q:=⟨p,vz l,rfl,.inr h,rfl,zf4 l,by rw [zh6]; exact q⟩
theorem zka (h : SqT K H p (vz l)) (q : Q (.bl (!decide (w ∈ l))) H) : rIn K true (.int (w : Int)) (.ref p) H Q:=⟨p,vz l,rfl,.inr h,rfl,zf4 l,by rw [zh6]; exact q⟩
theorem zoO (h : SqL K H p (vz l)) (q : Q (.bl (decide (w ∈ l))) H) : rIn K false (.int (w : Int)) (.ref p) H Q:=⟨p,vz l,rfl,.inl h,rfl,zf4 l,by rw [zh6]; exact q⟩
theorem zj9 (h : SqL K H p (vz l)) (q : Q (.bl (!decide (w ∈ l))) H) : rIn K true (.int (w : Int)) (.ref p) H Q:=⟨p,vz l,rfl,.inl h,rfl,zf4 l,by rw [zh6]; exact q⟩
def TW (l : List Nat) : PyData:=TZ (l.map fun (w : Nat)=>(w : Int))
theorem zk6 : Is K H v (TW l) ↔ ∃ a,v = .ref a /\ SqT K H a (vz l):=by
 unfold TW vz
 rw [zdp,List.map_map]
 exact Iff.rfl
theorem zkC (l : List Nat) : Imm (TW l) = true:=zgv _
def TWs (ws : List (List Nat)) : PyData:=.tuple (ws.map TW)
theorem zdn : ∀ ws : List (List Nat),ImmAll (ws.map TW) = true
 | []=>rfl
 | w :: ws=>by rw [List.map_cons,ImmAll,zkC,zdn ws]; rfl
theorem zoG (ws : List (List Nat)) : Imm (TWs ws) = true:=by rw [TWs,Imm]; exact zdn ws
theorem zga {i : Nat} {x : V} (h : (vz l)[i]? = some x) : ∃ hi : i < l.length,x = .int ((l[i] : Nat) : Int):=by
 have hi : i < l.length:=by
   rcases Nat.lt_or_ge i l.length with z | z
   . exact z
   . rw [List.getElem?_eq_none (by rw [zck]; exact z)] at h; cases h
 refine ⟨hi,?_⟩
 unfold vz at h
 rw [List.getElem?_map,List.getElem?_eq_getElem hi] at h
 exact (Option.some.inj h).symm
theorem zdz {α : Type} (f : α -> PyData) (hf : ∀ x,Imm (f x) = true) : ∀ l : List α,ImmAll (l.map f) = true
 | []=>rfl
 | x :: l=>by rw [List.map_cons,ImmAll,hf,zdz f hf l]; rfl
theorem zjr {l : List Nat} {i : Nat} (h : i < l.length) : l.take (i + 1) = l.take i ++ [l[i]]:=by
 rw [List.take_add_one,List.getElem?_eq_getElem h]; rfl
end
theorem zgL : ∀ ns : List Int,PyData.eqvAll (ns.map PyData.int) (ns.map PyData.int) = true
 | []=>by simp [PyData.eqvAll]
 | n :: ns=>by rw [List.map_cons,PyData.eqvAll,zlr,zgL ns]; simp
theorem zqp (l : List Nat) : PyData.eqv (TW l) (TW l) = true:=by unfold TW TZ; rw [PyData.eqv,zgL]
theorem zdR : ∀ ds : List PyData,(∀ d ∈ ds,PyData.eqv d d = true) -> PyData.eqvAll ds ds = true
 | [],_=>by simp [PyData.eqvAll]
 | d :: ds,h=>by rw [PyData.eqvAll,h d (List.mem_cons_self ..),zdR ds fun e he=>h e (List.mem_cons_of_mem _ he)]; rfl
theorem zgm {ds : List PyData} (h : ∀ d ∈ ds,PyData.eqv d d = true) : PyData.eqv (.tuple ds) (.tuple ds) = true:=by rw [PyData.eqv]; exact zdR ds h
theorem zrh {ds : List PyData} (h : ∀ d ∈ ds,PyData.eqv d d = true) : PyData.eqv (.list ds) (.list ds) = true:=by rw [PyData.eqv]; exact zdR ds h
theorem zrE (ws : List (List Nat)) : PyData.eqv (TWs ws) (TWs ws) = true:=zgm fun d hd=>by
 obtain ⟨w,_,rfl⟩:=List.mem_map.mp hd
 exact zqp w
theorem zpB {P : PyData -> Prop} {a b : PyData} (ha : P a) (hb : P b) : ∀ d ∈ [a,b],P d:=fun d hd=>by
 simp only [List.mem_cons,List.not_mem_nil,or_false] at hd
 rcases hd with rfl | rfl
 . exact ha
 . exact hb
def Sh (n : Nat) (d : PyData) : Prop:=d.canLay0 = true /\ d.depth <= n
theorem zkz {n : Nat} : ∀ ds : List PyData,(∀ d ∈ ds,Sh n d) -> PyData.canLayAll0 ds = true /\ PyData.depthAll ds <= n
 | [],_=>by simp [PyData.canLayAll0,PyData.depthAll]
 | d :: ds,h=>by
   have h1:=h d (List.mem_cons_self ..)
   have h2:=zkz ds fun e he=>h e (List.mem_cons_of_mem _ he)
   rw [PyData.canLayAll0,PyData.depthAll,h1.1,h2.1]
   exact ⟨rfl,by have:=h1.2; have:=h2.2; omega⟩
theorem zfl {n : Nat} {ds : List PyData} (h : ∀ d ∈ ds,Sh n d) : Sh (n + 1) (.tuple ds):=by
 have:=zkz ds h
 unfold Sh
 rw [PyData.canLay0,PyData.depth]
 exact ⟨this.1,by have:=this.2; omega⟩
theorem zrs {n : Nat} {ds : List PyData} (h : ∀ d ∈ ds,Sh n d) : Sh (n + 1) (.list ds):=by
 have:=zkz ds h
 unfold Sh
 rw [PyData.canLay0,PyData.depth]
 exact ⟨this.1,by have:=this.2; omega⟩
theorem Sh.mono {m n : Nat} {d : PyData} (h : Sh m d) (e : m <= n) : Sh n d:=⟨h.1,Nat.le_trans h.2 e⟩
theorem Sh.shaped {n : Nat} {d : PyData} (h : Sh n d) (e : n <= 64) : PySem.SeqAt.shaped d = true:=by
 unfold PySem.SeqAt.shaped
 rw [h.1,Bool.true_and]
 exact decide_eq_true (Nat.le_trans h.2 e)
theorem zkI (i : Int) : Sh 1 (.int i):=⟨by simp [PyData.canLay0],by simp [PyData.depth]⟩
theorem zrk (ws : List (List Nat)) : Sh 4 (TWs ws):=zfl fun d hd=>by
 obtain ⟨w,_,rfl⟩:=List.mem_map.mp hd
 refine (zfl fun e he=>?_ : Sh 2 _).mono (by decide)
 obtain ⟨i,_,rfl⟩:=List.mem_map.mp he
 exact zkI i
theorem zlB {K : PySem.W.Frag} {H : Hp} {Q : VK} {v w : V} {d : PyData} {n : Nat} (h : Is K H v d) (k : Is K H w d) (s : Sh n d) (e : n <= 64) (r : PyData.eqv d d = true) (q : Q (.bl false) H) : zgo K v w H Q:=zrp h k (s.shaped e) (s.shaped e) (by rw [r]; exact q)
theorem zds {K : PySem.W.Frag} {H : Hp} : ∀ {ds : List PyData} {vs : List V},vs.length = ds.length -> (∀ i x,vs[i]? = some x -> Is K H x (ds.getD i .none)) -> IsAll K H vs ds
 | [],[],_,_=>.nil
 | [],_ :: _,h,_=>by simp at h
 | _ :: _,[],h,_=>by simp at h
 | d :: ds,v :: vs,h,e=>.cons (e 0 v rfl) (zds (by simpa using h) fun i x hx=>e (i + 1) x hx)
end L2
set_option Elab.async false
set_option linter.all false
set_option maxRecDepth 100000
namespace L2
open PySem PySem.Spec PyProof.Rows GM
theorem zry : bootBuiltins "max" = some (.builtin "max"):=by decide +kernel
section
variable {K : PySem.W.Frag} {H H' : Hp} {Q : VK} {D : zbR} {σ : St} {td ty tv : TE} {a : Addr} {kvs : List (Key × V)} {k : Int} {v : V}
theorem zo4 (h : tv σ H fun v H1=>td σ H1 fun x H2=>ty σ H2 fun y H3=>∃ a H4,x = .ref a /\ zpq H3 a y v H4 /\ D.nx σ H4) : zsj td ty tv D σ H:=h
theorem zro (h : ty σ H fun y H1=>td σ H1 fun x H2=>∃ a o,x = .ref a /\ zhb H2 a y o /\ Q (.bl o.isSome) H2) : zsH ty td σ H Q:=h
end
theorem zi2 : ∀ {ts : List Int} {ys : List V},ys.length = ts.length -> (∀ (j : Nat) (y : V),ys[j]? = some y -> y = V.int (ts.getD j 0)) -> ys = ts.map V.int
 | [],[],_,_=>rfl
 | [],_ :: _,h,_=>by simp at h
 | _ :: _,[],h,_=>by simp at h
 | t :: ts,y :: ys,h,e=>by
   rw [List.map_cons,e 0 y rfl,zi2 (ts:=ts) (ys:=ys) (by simpa using h) fun j z hz=>e (j + 1) z hz]
   rfl
theorem zdO {α : Type} {ys : List α} {j : Nat} {y : α} (h : ys[j]? = some y) : j < ys.length:=by
 rcases Nat.lt_or_ge j ys.length with z | z
 . exact z
 . rw [List.getElem?_eq_none z] at h; cases h
theorem int_at {ts : List Int} {i : Nat} {x : V} (h : (ts.map V.int)[i]? = some x) : i < ts.length /\ x = .int (ts.getD i 0):=by
 have hi:=zdO h
 rw [List.length_map] at hi
 rw [List.getElem?_map,List.getElem?_eq_getElem hi] at h
 refine ⟨hi,?_⟩
 rw [List.getD_eq_getElem?_getD,List.getElem?_eq_getElem hi]
 exact (Option.some.inj h).symm
end L2
set_option Elab.async false
set_option linter.all false
set_option maxRecDepth 100000
namespace L2
open PySem PySem.Spec PyProof.Rows GM
def znU (K : PySem.W.Frag) (g : TG) (tt : TT) (te : TE) (src : List (Option Nat)) (σ : St) (vs : List V) (H1 : Hp) (Q : VK) : Prop:=∃ a,vs = [.ref a] /\ (∃ xs,SqT K H1 a xs) /\
 ∀ D,H1 D = none -> zdB g tt te (Ite K a) D (zaO src σ) (upd H1 D (.lst [])) (fun H'=>Q (.ref D) H')
section
variable {K : PySem.W.Frag} {ta : TA} {g : TG} {tt : TT} {te : TE} {σ : St} {H : Hp} {Q : VK} {a : Addr} {xs : List V} {src : List (Option Nat)}
theorem zmy (h : ta σ H fun vs H1=>znU K g tt te src σ vs H1 Q) : ze4 src (zks K ta) g tt te σ H Q:=h
theorem zi7 (hx : SqT K H a xs) (Pv : Addr -> Nat -> List V -> St -> Hp -> Prop) (h0 : ∀ D H',H D = none -> zaf H H' -> H' D = some (.lst []) -> Pv D 0 [] (zaO src σ) H') (hl : ∀ D i ys σ' H',Pv D i ys σ' H' -> SqT K H' a xs)
   (hs : ∀ D i x ys σ' H1 c H2,xs[i]? = some x -> Pv D i ys σ' H1 -> H1 c = none -> zaf H1 H2 -> H2 c = some (.tup [.int (i : Int),x]) -> zdI Pv g tt te D i (.ref c) σ' H2) (hd : ∀ D ys σ' H',Pv D xs.length ys σ' H' -> Q (.ref D) H') : znU K g tt te src σ [.ref a] H Q:=by
 refine ⟨a,rfl,⟨xs,hx⟩,fun D hD=>⟨fun i m σ' H'=>i + m = xs.length /\ ∃ ys,Pv D i ys σ' H',⟨xs.length,by omega,[],h0 D _ hD (zaf.upd hD) zar⟩,?_⟩⟩
 rintro i m σ' H' ⟨him,ys,inv⟩
 have hq:=hl _ _ _ _ _ inv
 by_cases hm : m = 0
 . have e : i = xs.length:=by omega
   subst e
   exact .inl ⟨⟨xs,hq,Nat.le_refl _⟩,hd _ _ _ _ inv⟩
 . have hi : i < xs.length:=by omega
   refine .inr ⟨⟨xs,xs[i],hq,by simp [hi]⟩,fun σ2 H2=>∃ ys,Pv D (i + 1) ys σ2 H2,fun σ2 H2 h=>⟨m - 1,by omega,by omega,h⟩,?_⟩
   rintro v H2 ⟨c,x,rfl,hn,hx',rfl⟩
   exact hs D i x ys σ' H' c _ (hx' xs hq) inv hn (zaf.upd hn) zar
end
end L2
set_option Elab.async false
set_option linter.all false
set_option maxRecDepth 100000
namespace L2
open PySem PySem.Spec PyProof.Rows GM
theorem zqi (ns : List Int) : Sh 2 (TZ ns):=zfl fun d hd=>by
 obtain ⟨n,_,rfl⟩:=List.mem_map.mp hd
 exact zkI n
theorem zp2 (ns : List Int) : PyData.eqv (TZ ns) (TZ ns) = true:=zgm fun d hd=>by
 obtain ⟨n,_,rfl⟩:=List.mem_map.mp hd
 rw [zlr]; exact decide_eq_true rfl
section
variable {K : PySem.W.Frag} {H : Hp} {Q : VK} {v w : V} {ds : List PyData} {n : Nat} {l b : Addr} {xs zs : List V}
theorem zls {d : PyData} (h : Is K H v d) (k : Is K H w d) (s : Sh n d) (e : n <= 64) (r : PyData.eqv d d = true) (q : Q (.bl true) H) : zhh K v w H Q:=zqy h k (s.shaped e) (s.shaped e) (by rw [r]; exact q)
theorem znf {i : Int} (h : H l = some (.lst xs)) (h0 : 0 <= i) (h1 : i < xs.length) (hz : xs.length <= 1000) (q : ∀ y H',xs[i.toNat]? = some y -> Exc l H H' -> H' l = some (.lst (xs.eraseIdx i.toNat)) -> Q y H') : zoB (.ref l) [.int i] H Q:=by
 have hi : i.toNat < xs.length:=by omega
 exact ⟨l,xs,i,i.toNat,xs[i.toNat],rfl,rfl,h,by omega,by omega,PySem.StrLaws.seqIndex_nonneg h0 h1,List.getElem?_eq_getElem hi,q _ _ (List.getElem?_eq_getElem hi) (Exc.upd l H _) zar⟩
theorem IsAll.erase : ∀ {ds : List PyData} {vs : List V} (k : Nat),IsAll K H vs ds -> IsAll K H (vs.eraseIdx k) (ds.eraseIdx k)
 | [],_,k,h=>by rw [za4.mp h]; exact .nil
 | d :: ds,_,0,h=>by
   obtain ⟨x,r,rfl,_,t⟩:=zaA.mp h
   exact t
 | d :: ds,_,k + 1,h=>by
   obtain ⟨x,r,rfl,q,t⟩:=zaA.mp h
   exact .cons q (IsAll.erase k t)
end
theorem zfh {α β : Type} (f : α -> β) : ∀ (l : List α) (k : Nat),(l.map f).eraseIdx k = (l.eraseIdx k).map f
 | [],_=>rfl
 | _ :: _,0=>rfl
 | x :: l,k + 1=>by
   show f x :: (l.map f).eraseIdx k = f x :: (l.eraseIdx k).map f
   rw [zfh f l k]
theorem erase_perm {α : Type} : ∀ (l : List α) (k : Nat) (h : k < l.length),(l[k] :: l.eraseIdx k).Perm l
 | x :: l,0,_=>List.Perm.refl _
 | x :: l,k + 1,h=>(List.Perm.swap _ _ _).trans (List.Perm.cons x (erase_perm l k (by simpa using h)))
end L2
set_option Elab.async false
set_option linter.all false
set_option maxRecDepth 100000
namespace L2
open PySem PySem.Spec PyProof.Rows GM
section
open PyProof.V PySem.Calls PySem.W
variable {prog : Program} {w : World} {A : Around} {E : Value -> Shared -> Prop} {s : Shared}
end
abbrev zM1 (h : Heap) (a : Addr) : Heap:=h.push { cls:=.type "tuple_iterator",data:=.fields #[.ref a,.int 0 0] }
abbrev zM2 (h : Heap) (a b : Addr) : Heap:=(zM1 h a).push { cls:=.type "list_iterator",data:=.fields #[.ref b,.int 0 0] }
abbrev zM3 (h : Heap) (a b : Addr) : Heap:=(zM2 h a b).push { cls:=.type "tuple",data:=.seq #[.ref h.objs.size,.ref (zM1 h a).objs.size] }
abbrev zM4 (h : Heap) (a b : Addr) : Heap:=(zM3 h a b).push { cls:=.type "tuple",data:=.seq #[.none,.none] }
abbrev zM5 (h : Heap) (a b : Addr) : Heap:=(zM4 h a b).push { cls:=.type "zip",data:=.fields #[.none,.bool false,.bool false,.ref (zM2 h a b).objs.size,.ref (zM3 h a b).objs.size] }
theorem zkw (a b : Addr) (xs ys : Array Value) : Meets (Builtin.«zip.__new__» ⟨[.type "zip",.ref a,.ref b],[]⟩) (fun _ R s=>s.heap.IsTuple a xs /\ s.heap.IsList b ys /\ R (.ok (.ret (.ref (zM4 s.heap a b).objs.size))) { s with heap:=zM5 s.heap a b }) :=
 .of_wp fun prog w A R s h=>by
   obtain ⟨hp,g,d,tk,os⟩:=s
   obtain ⟨ha,hb,h⟩:=h
   have hsub:=sub_zip
   have hA : Heap.IsTuple (Shared.heap ⟨hp,g,d,tk,os⟩) a xs:=ha
   have hB : Heap.IsList (Shared.heap ⟨hp.push { cls:=.type "tuple_iterator",data:=.fields #[.ref a,.int 0 0] },g,d,tk,os⟩) b ys:=Heap.IsList.push hb _
   wp_walk using wpAny_pyIter_tuple hA,wpAny_pyIter_list hB
   exact ⟨_,rfl,h⟩
section
variable {prog : Program} {w : World} {A : Around} {E : Value -> Shared -> Prop} {s : Shared}
theorem zl0 {a b : Addr} {xs ys : Array Value} {Q : Value -> Shared -> Prop} (ha : s.heap.IsTuple a xs) (hb : s.heap.IsList b ys)
   (fin : ∀ h',IsZip h' (s.heap.objs.size + 4) (s.heap.objs.size + 2) (s.heap.objs.size + 3) .none -> IsPair h' (s.heap.objs.size + 2) (.ref s.heap.objs.size) (.ref (s.heap.objs.size + 1)) -> IsPair h' (s.heap.objs.size + 3) .none .none ->
     h'.IsTupleIter s.heap.objs.size a 0 -> h'.IsListIter (s.heap.objs.size + 1) b 0 -> (∀ c o,s.heap.get? c = some o -> h'.get? c = some o) -> Q (.ref (s.heap.objs.size + 4)) { s with heap:=h' }) : wpAny (model prog w) A (call (.type "zip") [.ref a,.ref b]) Q E s:=by
 refine callType_new F.called_zip (by decide) (F.typeCall_zip_2 _ _) (F.newCall_zip_2 _ _) (fun obj=>F.args_object_init_3 obj _ _) F.entry_zip_new (zkw a b xs ys) ⟨ha,hb,?_⟩
 have z1 : (zM1 s.heap a).objs.size = s.heap.objs.size + 1:=Heap.size_push ..
 have z2 : (zM2 s.heap a b).objs.size = s.heap.objs.size + 2:=by rw [Heap.size_push,z1]
 have z3 : (zM3 s.heap a b).objs.size = s.heap.objs.size + 3:=by rw [Heap.size_push,z2]
 have z4 : (zM4 s.heap a b).objs.size = s.heap.objs.size + 4:=by rw [Heap.size_push,z3]
 have g5 : (zM5 s.heap a b).get? (zM4 s.heap a b).objs.size = some _:=Heap.get?_push_size _ rfl
 have g4 : (zM5 s.heap a b).get? (zM3 s.heap a b).objs.size = some _:=Heap.get?_push_of_some _ (Heap.get?_push_size _ rfl)
 have g3 : (zM5 s.heap a b).get? (zM2 s.heap a b).objs.size = some _:=Heap.get?_push_of_some _ (Heap.get?_push_of_some _ (Heap.get?_push_size _ rfl))
 have g2 : (zM5 s.heap a b).get? (zM1 s.heap a).objs.size = some _:=Heap.get?_push_of_some _ (Heap.get?_push_of_some _ (Heap.get?_push_of_some _ (Heap.get?_push_size _ rfl)))
 have g1 : (zM5 s.heap a b).get? s.heap.objs.size = some _:=Heap.get?_push_of_some _ (Heap.get?_push_of_some _ (Heap.get?_push_of_some _ (Heap.get?_push_of_some _ (Heap.get?_push_size _ rfl))))
 show _ /\ _
 rw [z2,z3,z4] at g5; rw [z1,z2] at g3; rw [z3] at g4; rw [z1] at g2; rw [z4]
 exact ⟨⟨_,g5,rfl⟩,fin _ g5 g3 g4 ⟨_,g1,rfl,rfl⟩ ⟨_,g2,rfl,rfl⟩ fun c o x=>Heap.get?_push_of_some _ (Heap.get?_push_of_some _ (Heap.get?_push_of_some _ (Heap.get?_push_of_some _ (Heap.get?_push_of_some _ x))))⟩
end
section
variable {X : Cx} {x : Str} {G : Value} {b₀ : Stmt} {body suite : List Stmt} {np hpos pos : Pos} {tb : (St -> XK) -> TS} {th : TS}
end
end L2
set_option Elab.async false
set_option linter.all false
set_option maxRecDepth 100000
namespace L2
open PySem PySem.Spec PyProof.Rows GM
theorem zn3 : bootBuiltins "set" = some (.type "set"):=by decide +kernel
section
variable {K : PySem.W.Frag} {H : Hp} {Q : VK} {p : Addr} {ns : List Int}
end
theorem zhq : ∀ {ms ks : List Int},ms.Perm ks -> ms.Pairwise (· <= ·) -> ks.Pairwise (· <= ·) -> ms = ks
 | [],ks,p,_,_=>(List.nil_perm.mp p).symm
 | m :: ms,[],p,_,_=>absurd p.length_eq (by simp)
 | m :: ms,k :: ks,p,hm,hk=>by
   rw [List.pairwise_cons] at hm hk
   have e : m = k:=by
     have h1 : m ∈ k :: ks:=p.mem_iff.mp (List.mem_cons_self ..)
     have h2 : k ∈ m :: ms:=p.mem_iff.mpr (List.mem_cons_self ..)
     rcases List.mem_cons.mp h1 with e | e
     . exact e
     . rcases List.mem_cons.mp h2 with e' | e'
       . exact e'.symm
       . have:=hk.1 m e
         have:=hm.1 k e'
         omega
   subst e
   rw [zhq (List.Perm.cons_inv p) hm.2 hk.2]
end L2
namespace L2
open PySem PySem.Spec PyProof.Rows GM
theorem zkc (l m : List Nat) : vz l ++ vz m = vz (l ++ m):=by unfold vz; rw [List.map_append]
end L2
namespace L2
open PySem PySem.Spec PyProof.Rows GM
end L2
set_option Elab.async false
set_option linter.all false
set_option maxRecDepth 100000
namespace L2
open PySem PySem.Spec PyProof.Rows GM
abbrev zN1 (h : Heap) (a : Addr) : Heap:=h.push { cls:=.type "list_iterator",data:=.fields #[.ref a,.int 0 0] }
abbrev zN2 (h : Heap) (a b : Addr) : Heap:=(zN1 h a).push { cls:=.type "tuple_iterator",data:=.fields #[.ref b,.int 0 0] }
abbrev zN3 (h : Heap) (a b : Addr) : Heap:=(zN2 h a b).push { cls:=.type "tuple",data:=.seq #[.ref h.objs.size,.ref (zN1 h a).objs.size] }
abbrev zN4 (h : Heap) (a b : Addr) : Heap:=(zN3 h a b).push { cls:=.type "tuple",data:=.seq #[.none,.none] }
abbrev zN5 (h : Heap) (a b : Addr) : Heap:=(zN4 h a b).push { cls:=.type "zip",data:=.fields #[.none,.bool false,.bool false,.ref (zN2 h a b).objs.size,.ref (zN3 h a b).objs.size] }
theorem zkn (a b : Addr) (xs ys : Array Value) : Meets (Builtin.«zip.__new__» ⟨[.type "zip",.ref a,.ref b],[]⟩) (fun _ R s=>s.heap.IsList a xs /\ s.heap.IsTuple b ys /\ R (.ok (.ret (.ref (zN4 s.heap a b).objs.size))) { s with heap:=zN5 s.heap a b }) :=
 .of_wp fun prog w A R s h=>by
   obtain ⟨hp,g,d,tk,os⟩:=s
   obtain ⟨ha,hb,h⟩:=h
   have hsub:=sub_zip
   have hA : Heap.IsList (Shared.heap ⟨hp,g,d,tk,os⟩) a xs:=ha
   have hB : Heap.IsTuple (Shared.heap ⟨hp.push { cls:=.type "list_iterator",data:=.fields #[.ref a,.int 0 0] },g,d,tk,os⟩) b ys:=Heap.IsTuple.push hb _
   wp_walk using wpAny_pyIter_list hA,wpAny_pyIter_tuple hB
   exact ⟨_,rfl,h⟩
section
variable {prog : Program} {w : World} {A : Around} {E : Value -> Shared -> Prop} {s : Shared}
theorem zms {a b : Addr} {xs ys : Array Value} {Q : Value -> Shared -> Prop} (ha : s.heap.IsList a xs) (hb : s.heap.IsTuple b ys)
   (fin : ∀ h',IsZip h' (s.heap.objs.size + 4) (s.heap.objs.size + 2) (s.heap.objs.size + 3) .none -> IsPair h' (s.heap.objs.size + 2) (.ref s.heap.objs.size) (.ref (s.heap.objs.size + 1)) -> IsPair h' (s.heap.objs.size + 3) .none .none ->
     h'.IsListIter s.heap.objs.size a 0 -> h'.IsTupleIter (s.heap.objs.size + 1) b 0 -> (∀ c o,s.heap.get? c = some o -> h'.get? c = some o) -> Q (.ref (s.heap.objs.size + 4)) { s with heap:=h' }) : wpAny (model prog w) A (call (.type "zip") [.ref a,.ref b]) Q E s:=by
 refine callType_new F.called_zip (by decide) (F.typeCall_zip_2 _ _) (F.newCall_zip_2 _ _) (fun obj=>F.args_object_init_3 obj _ _) F.entry_zip_new (zkn a b xs ys) ⟨ha,hb,?_⟩
 have z1 : (zN1 s.heap a).objs.size = s.heap.objs.size + 1:=Heap.size_push ..
 have z2 : (zN2 s.heap a b).objs.size = s.heap.objs.size + 2:=by rw [Heap.size_push,z1]
 have z3 : (zN3 s.heap a b).objs.size = s.heap.objs.size + 3:=by rw [Heap.size_push,z2]
 have z4 : (zN4 s.heap a b).objs.size = s.heap.objs.size + 4:=by rw [Heap.size_push,z3]
 have g5 : (zN5 s.heap a b).get? (zN4 s.heap a b).objs.size = some _:=Heap.get?_push_size _ rfl
 have g4 : (zN5 s.heap a b).get? (zN3 s.heap a b).objs.size = some _:=Heap.get?_push_of_some _ (Heap.get?_push_size _ rfl)
 have g3 : (zN5 s.heap a b).get? (zN2 s.heap a b).objs.size = some _:=Heap.get?_push_of_some _ (Heap.get?_push_of_some _ (Heap.get?_push_size _ rfl))
 have g2 : (zN5 s.heap a b).get? (zN1 s.heap a).objs.size = some _:=Heap.get?_push_of_some _ (Heap.get?_push_of_some _ (Heap.get?_push_of_some _ (Heap.get?_push_size _ rfl)))
 have g1 : (zN5 s.heap a b).get? s.heap.objs.size = some _:=Heap.get?_push_of_some _ (Heap.get?_push_of_some _ (Heap.get?_push_of_some _ (Heap.get?_push_of_some _ (Heap.get?_push_size _ rfl))))
 show _ /\ _
 rw [z2,z3,z4] at g5; rw [z1,z2] at g3; rw [z3] at g4; rw [z1] at g2; rw [z4]
 exact ⟨⟨_,g5,rfl⟩,fin _ g5 g3 g4 ⟨_,g1,rfl,rfl⟩ ⟨_,g2,rfl,rfl⟩ fun c o x=>Heap.get?_push_of_some _ (Heap.get?_push_of_some _ (Heap.get?_push_of_some _ (Heap.get?_push_of_some _ (Heap.get?_push_of_some _ x))))⟩
end
def zoa : List V -> Hp -> VK -> Prop:=fun xs H Q=>∃ i j,xs = [.int i,.int j] /\ Q (.int (if i < j then j else i)) H
theorem zkM {X : Cx} (hc : X.calm = true) : zaj X (.builtin "max") zoa:=zmA hc
theorem zpm {i j : Int} {H : Hp} {Q : VK} (q : ∀ m : Int,i <= m -> j <= m -> (m = i \/ m = j) -> Q (.int m) H) : zoa [.int i,.int j] H Q:=⟨i,j,rfl,by
 split
 . exact q j (by omega) (by omega) (.inr rfl)
 . exact q i (by omega) (by omega) (.inl rfl)⟩
end L2
set_option linter.all false
namespace TB
open PySem
def Ris (xs : Array Nat) : Prop:=∀ i j,i < j -> j < xs.size -> xs.getD i 0 < xs.getD j 0
theorem zol {xs : Array Nat} {i : Nat} (h : i < xs.size) (d e : Nat) : xs.getD i d = xs.getD i e:=by
 simp [Array.getD,h]
theorem zh9 (xs : Array Nat) (j : Nat) (R : Ris xs) : ∀ (fuel lo hi : Nat),hi <= xs.size -> lo <= hi -> hi - lo <= fuel -> (∀ k,k < lo -> xs.getD k 0 < j) -> (∀ k,hi <= k -> k < xs.size -> j <= xs.getD k 0) ->
   (SetTable.below.go xs j fuel lo hi <= xs.size /\ (∀ k,k < SetTable.below.go xs j fuel lo hi -> xs.getD k 0 < j) /\ (∀ k,SetTable.below.go xs j fuel lo hi <= k -> k < xs.size -> j <= xs.getD k 0))
 | 0,lo,hi,h1,h2,h3,a,b=>by
   have : lo = hi:=by omega
   subst this
   exact ⟨h1,a,b⟩
 | fuel + 1,lo,hi,h1,h2,h3,a,b=>by
   unfold SetTable.below.go
   by_cases c : lo < hi
   . rw [if_pos c]
     have m1 : (lo + hi) / 2 < hi:=by omega
     have m2 : lo <= (lo + hi) / 2:=by omega
     dsimp only
     rw [zol (Nat.lt_of_lt_of_le m1 h1) j 0]
     by_cases d : xs.getD ((lo + hi) / 2) 0 < j
     . rw [if_pos d]
       refine zh9 xs j R fuel _ hi h1 m1 (by omega) (fun k hk=>?_) b
       rcases Nat.lt_or_ge k ((lo + hi) / 2) with q | q
       . exact Nat.lt_trans (R k _ q (by omega)) d
       . have : k = (lo + hi) / 2:=by omega
         rw [this]; exact d
     . rw [if_neg d]
       refine zh9 xs j R fuel lo _ (by omega) m2 (by omega) a (fun k hk hk'=>?_)
       rcases Nat.eq_or_lt_of_le hk with q | q
       . rw [<- q]; omega
       . have:=R _ k q hk'; omega
   . rw [if_neg c]
     have : lo = hi:=by omega
     subst this
     exact ⟨h1,a,b⟩
theorem zex {xs : Array Nat} (R : Ris xs) (j : Nat) : SetTable.below xs j <= xs.size /\ (∀ k,k < SetTable.below xs j -> xs.getD k 0 < j) /\ (∀ k,SetTable.below xs j <= k -> k < xs.size -> j <= xs.getD k 0) :=
 zh9 xs j R xs.size 0 xs.size (Nat.le_refl _) (Nat.zero_le _) (by omega) (fun k h=>absurd h (Nat.not_lt_zero k)) (fun k h h'=>absurd h' (by omega))
theorem zrF {xs : Array Nat} {i : Nat} (h : i < xs.size) : xs[i]? = some (xs.getD i 0):=by simp [Array.getD,h]
theorem zgl {t : SetTable} (R : Ris t.place) (D : t.dummies = #[]) (j : Nat) :
   (∃ i,i < t.place.size /\ t.place.getD i 0 = j /\ t.slot j = .live i) \/ ((∀ i,i < t.place.size -> t.place.getD i 0 ≠ j) /\ t.slot j = .empty):=by
 obtain ⟨h1,h2,h3⟩:=zex R j
 unfold SetTable.slot
 dsimp only
 have hd : SetTable.has t.dummies j = false:=by rw [D]; rfl
 rw [hd]
 rcases Nat.lt_or_ge (SetTable.below t.place j) t.place.size with q | q
 . rw [zrF q]
   by_cases e : t.place.getD (SetTable.below t.place j) 0 = j
   . exact .inl ⟨_,q,e,by simp [e]⟩
   . refine .inr ⟨fun i hi he=>?_,by generalize t.place.getD (SetTable.below t.place j) 0 = z at e; simp [e]⟩
     rcases Nat.lt_or_ge i (SetTable.below t.place j) with a | a
     . have:=h2 i a; omega
     . rcases Nat.eq_or_lt_of_le a with b | b
       . rw [<- b] at he; exact e he
       . have:=R _ i b hi
         have:=h3 _ (Nat.le_refl _) q
         omega
 . have : t.place[SetTable.below t.place j]? = none:=Array.getElem?_eq_none q
   rw [this]
   refine .inr ⟨fun i hi he=>?_,by simp⟩
   have:=h2 i (by omega); omega
def g (x : Nat) : Nat:=x * 5 + 1
def it (n x : Nat) : Nat:=match n with | 0=>x | n + 1=>g (it n x)
def s : Nat -> Nat | 0=>0 | n + 1=>5 * s n + 1
theorem zp1 (n : Nat) : 5 ^ n = 4 * s n + 1:=by
 induction n with
 | zero=>rfl
 | succ n ih=>rw [Nat.pow_succ,ih]; show _ = 4 * (5 * s n + 1) + 1; omega
theorem zr4 (n x : Nat) : it n x = 5 ^ n * x + s n:=by
 induction n with
 | zero=>show x = 5 ^ 0 * x + 0; simp
 | succ n ih =>
   show g (it n x) = 5 ^ (n + 1) * x + (5 * s n + 1)
   rw [ih,Nat.pow_succ]; unfold g
   rw [Nat.mul_assoc,Nat.mul_left_comm (5 ^ n) 5 x]; omega
theorem zqx (m n x : Nat) : it (m + n) x = it m (it n x):=by
 induction m with
 | zero=>rw [Nat.zero_add]; rfl
 | succ m ih=>rw [Nat.succ_add]; show g (it (m + n) x) = g (it m (it n x)); rw [ih]
theorem zso (m n : Nat) : s (m + n) = 5 ^ m * s n + s m:=by
 induction m with
 | zero=>simp [s]
 | succ m ih =>
   rw [Nat.succ_add]
   show 5 * s (m + n) + 1 = 5 ^ (m + 1) * s n + (5 * s m + 1)
   rw [ih,Nat.pow_succ,Nat.mul_assoc,Nat.mul_left_comm (5 ^ m) 5]; omega
theorem zsq (k : Nat) : ∃ o,s (2 ^ k) = 2 ^ k * (2 * o + 1):=by
 induction k with
 | zero=>exact ⟨0,rfl⟩
 | succ k ih =>
   obtain ⟨o,ho⟩:=ih
   have e : s (2 ^ (k + 1)) = 2 ^ (k + 1) * ((2 * o + 1) * (2 * s (2 ^ k) + 1)):=by
     have : 2 ^ (k + 1) = 2 ^ k + 2 ^ k:=by rw [Nat.pow_succ]; omega
     rw [this,zso,zp1]
     generalize hs : s (2 ^ k) = S at *
     have h2 : (2 ^ k + 2 ^ k) * ((2 * o + 1) * (2 * S + 1)) = 2 * (2 ^ k * (2 * o + 1)) * (2 * S + 1):=by
       rw [<- Nat.two_mul,<- Nat.mul_assoc,Nat.mul_assoc 2]
     rw [h2,<- ho]
     generalize S * S = z at *
     have : (4 * S + 1) * S = 4 * (S * S) + S:=by rw [Nat.add_mul,Nat.mul_assoc,Nat.one_mul]
     rw [this]
     have : 2 * S * (2 * S + 1) = 4 * (S * S) + 2 * S:=by
       rw [Nat.mul_add,Nat.mul_one,Nat.mul_mul_mul_comm]
     rw [this]; omega
   refine ⟨o * (2 * s (2 ^ k) + 1) + s (2 ^ k),?_⟩
   rw [e]
   congr 1
   rw [Nat.add_mul,Nat.one_mul,Nat.mul_assoc]
   omega
theorem zr7 (M c a : Nat) : (4 * (M * c) + 1) * a + M * c = a + M * (c * (4 * a + 1)):=by
 rw [Nat.add_mul,Nat.one_mul,Nat.mul_add c,Nat.mul_one,Nat.mul_add M]
 have : 4 * (M * c) * a = M * (c * (4 * a)):=by rw [Nat.mul_comm 4,Nat.mul_assoc,Nat.mul_assoc]
 omega
theorem zrL (k : Nat) : ∀ x y : Nat,∃ n,n < 2 ^ k /\ it n x % 2 ^ k = y % 2 ^ k:=by
 induction k with
 | zero=>intro x y; exact ⟨0,by decide,by simp [Nat.mod_one]⟩
 | succ k ih =>
   intro x y
   obtain ⟨n,hn,e⟩:=ih x y
   have hp : 0 < 2 ^ k:=Nat.pow_pos (by decide)
   have h2 : 2 ^ (k + 1) = 2 ^ k * 2:=Nat.pow_succ ..
   obtain ⟨o,ho⟩:=zsq k
   generalize hM : 2 ^ k = M at *
   rw [h2]
   by_cases c : it n x / M % 2 = y / M % 2
   . refine ⟨n,by omega,?_⟩
     rw [Nat.mod_mul,Nat.mod_mul,e,c]
   . refine ⟨M + n,by omega,?_⟩
     rw [zqx,zr4,zp1,ho]
     generalize it n x = a at *
     rw [zr7,Nat.mod_mul,Nat.mod_mul,Nat.add_mul_mod_self_left,e,Nat.add_mul_div_left _ _ hp]
     have : (2 * o + 1) * (4 * a + 1) % 2 = 1:=by
       rw [Nat.mul_mod]
       have h1 : (2 * o + 1) % 2 = 1:=by omega
       have h2 : (4 * a + 1) % 2 = 1:=by omega
       rw [h1,h2]
     congr 2
     omega
open SetTable (Probe leap runEnd bits turns)
def adv (mask : Nat) (p : Probe) : Probe :=
 if p.more > 0 then { p with j:=p.j + 1,more:=p.more - 1 } else
 { p with j:=(leap mask p.i p.perturb).1,more:=runEnd mask (leap mask p.i p.perturb).1 - (leap mask p.i p.perturb).1,i:=(leap mask p.i p.perturb).1,perturb:=(leap mask p.i p.perturb).2 }
def way (mask : Nat) (p : Probe) : Nat -> Probe | 0=>p | n + 1=>adv mask (way mask p n)
def zdH (mask i b : Nat) : Probe:={ j:=i,more:=runEnd mask i - i,i:=i,perturb:=b,dummy:=none }
def start (mask : Nat) (h : Int) : Probe:=zdH mask (bits h % (mask + 1)) (bits h)
def lp (mask i b : Nat) : Nat -> Nat × Nat | 0=>(i,b) | n + 1=>leap mask (lp mask i b n).1 (lp mask i b n).2
theorem zf2 (mask : Nat) (p : Probe) (m : Nat) : ∀ n,way mask p (m + n) = way mask (way mask p m) n
 | 0=>rfl
 | n + 1=>by show adv mask (way mask p (m + n)) = adv mask (way mask (way mask p m) n); rw [zf2 mask p m n]
theorem zhF (mask : Nat) (p : Probe) : ∀ n,(way mask p n).dummy = p.dummy
 | 0=>rfl
 | n + 1=>by
   show (adv mask (way mask p n)).dummy = p.dummy
   rw [<- zhF mask p n]; unfold adv; split <;> rfl
theorem zeU (mask i b : Nat) : ∀ n,n <= runEnd mask i - i -> way mask (zdH mask i b) n = { j:=i + n,more:=runEnd mask i - i - n,i:=i,perturb:=b,dummy:=none }
 | 0,_=>rfl
 | n + 1,h=>by
   show adv mask (way mask (zdH mask i b) n) = _
   rw [zeU mask i b n (by omega)]
   unfold adv
   dsimp only
   rw [if_pos (by omega)]
   congr 1
theorem zgD (mask i b : Nat) : way mask (zdH mask i b) (runEnd mask i - i + 1) = zdH mask (leap mask i b).1 (leap mask i b).2:=by
 show adv mask (way mask (zdH mask i b) (runEnd mask i - i)) = _
 rw [zeU mask i b _ (Nat.le_refl _)]
 unfold adv
 dsimp only
 rw [if_neg (by omega)]
 rfl
theorem zrx (mask i : Nat) : runEnd mask i - i <= 9:=by unfold runEnd; split <;> omega
theorem zod (mask i b : Nat) : ∀ m,∃ n,n <= 10 * m /\ way mask (zdH mask i b) n = zdH mask (lp mask i b m).1 (lp mask i b m).2
 | 0=>⟨0,Nat.le_refl _,rfl⟩
 | m + 1=>by
   obtain ⟨n,hn,e⟩:=zod mask i b m
   have:=zrx mask (lp mask i b m).1
   refine ⟨n + (runEnd mask (lp mask i b m).1 - (lp mask i b m).1 + 1),by omega,?_⟩
   rw [zf2,e,zgD]; rfl
theorem znR (mask i b : Nat) : ∀ n,(lp mask i b n).2 = b / 32 ^ n
 | 0=>by simp [lp]
 | n + 1=>by
   show (lp mask i b n).2 / 32 = _
   rw [znR mask i b n,Nat.pow_succ,Nat.div_div_eq_div_mul]
theorem zql (mask i b c : Nat) (h : b / 32 ^ c = 0) : ∀ n,(lp mask i b (c + 1 + n)).1 = it n (lp mask i b (c + 1)).1 % (mask + 1)
 | 0=>by
   show (lp mask i b (c + 1)).1 = (lp mask i b (c + 1)).1 % (mask + 1)
   show _ % _ = _ % _ % _
   rw [Nat.mod_mod]
 | n + 1=>by
   show ((lp mask i b (c + 1 + n)).1 * 5 + 1 + (lp mask i b (c + 1 + n)).2 / 32) % (mask + 1) = g (it n _) % _
   have : (lp mask i b (c + 1 + n)).2 / 32 = 0:=by
     rw [znR]
     have : b / 32 ^ (c + 1 + n) = 0:=by
       rw [Nat.add_assoc,Nat.pow_add,<- Nat.div_div_eq_div_mul,h,Nat.zero_div]
     rw [this]
   rw [this,zql mask i b c h n]
   unfold g
   rw [Nat.add_zero,Nat.add_mod,Nat.mul_mod,Nat.mod_mod,<- Nat.mul_mod,<- Nat.add_mod]
theorem zlf (h : Int) : bits h < 2 ^ 64:=by unfold bits; omega
theorem zqa {mask k : Nat} (hm : mask + 1 = 2 ^ k) {i b : Nat} (hb : b < 2 ^ 64) {j : Nat} (hj : j <= mask) : ∃ m,m <= mask + 14 /\ (lp mask i b m).1 = j:=by
 have h0 : b / 32 ^ 13 = 0:=Nat.div_eq_of_lt (Nat.lt_of_lt_of_le hb (by decide))
 obtain ⟨n,hn,e⟩:=zrL k (lp mask i b 14).1 j
 refine ⟨13 + 1 + n,by omega,?_⟩
 rw [zql mask i b 13 h0,hm,e,Nat.mod_eq_of_lt (by omega)]
theorem zml {mask k : Nat} (hm : mask + 1 = 2 ^ k) {i b : Nat} (hb : b < 2 ^ 64) {j : Nat} (hj : j <= mask) : ∃ n,n < 10 * turns mask /\ (way mask (zdH mask i b) n).j = j:=by
 obtain ⟨m,hm',e⟩:=zqa hm (i:=i) hb hj
 obtain ⟨n,hn,e'⟩:=zod mask i b m
 refine ⟨n,by unfold turns; omega,?_⟩
 rw [e']; exact e
theorem zfi {mask i : Nat} (h : i <= mask) : i <= runEnd mask i /\ runEnd mask i <= mask:=by unfold runEnd; split <;> omega
theorem znN {mask : Nat} {p : Probe} (h : p.j + p.more <= mask) : ∀ n,(way mask p n).j + (way mask p n).more <= mask
 | 0=>h
 | n + 1=>by
   have ih:=znN h n
   show (adv mask (way mask p n)).j + (adv mask (way mask p n)).more <= mask
   unfold adv
   split
   . dsimp only; omega
   . dsimp only
     have : (leap mask (way mask p n).i (way mask p n).perturb).1 <= mask:=by
       unfold leap; dsimp only; exact Nat.le_of_lt_succ (Nat.mod_lt _ (Nat.succ_pos _))
     have:=zfi this
     omega
theorem zmM (mask : Nat) (h : Int) (n : Nat) : (way mask (start mask h) n).j <= mask:=by
 have h1 : bits h % (mask + 1) <= mask:=Nat.le_of_lt_succ (Nat.mod_lt _ (Nat.succ_pos _))
 have h2:=zfi h1
 have:=znN (mask:=mask) (p:=start mask h) (by unfold start zdH; dsimp only; omega) n
 omega
def In (t : SetTable) (j : Nat) : Prop:=∃ i,i < t.place.size /\ t.place.getD i 0 = j
structure Tb (t : SetTable) (hs : List Int) : Prop where
 ris : Ris t.place
 size : t.place.size = hs.length
 dum : t.dummies = #[]
 two : ∃ k,3 <= k /\ t.mask + 1 = 2 ^ k
 le : ∀ i,i < t.place.size -> t.place.getD i 0 <= t.mask
 room : t.place.size <= t.mask
 path : ∀ i,i < t.place.size -> ∃ n,(way t.mask (start t.mask (hs.getD i 0)) n).j = t.place.getD i 0 /\ ∀ m,m < n -> In t (way t.mask (start t.mask (hs.getD i 0)) m).j
theorem zrX {P : Nat -> Prop} {n : Nat} (h : P n) : ∃ m,m <= n /\ P m /\ ∀ k,k < m -> ¬ P k:=by
 induction n using Nat.strongRecOn with
 | _ n ih =>
   by_cases c : ∃ k,k < n /\ P k
   . obtain ⟨k,hk,hp⟩:=c
     obtain ⟨m,h1,h2,h3⟩:=ih k hk hp
     exact ⟨m,by omega,h2,h3⟩
   . exact ⟨n,Nat.le_refl _,h,fun k hk hp=>c ⟨k,hk,hp⟩⟩
theorem zin {xs : Array Nat} (R : Ris xs) {i j : Nat} (hi : i < xs.size) (hj : j < xs.size) (e : xs.getD i 0 = xs.getD j 0) : i = j:=by
 rcases Nat.lt_trichotomy i j with q | q | q
 . have:=R i j q hj; omega
 . exact q
 . have:=R j i q hi; omega
theorem zos {t : SetTable} (R : Ris t.place) : ∀ j,(∀ j',j' <= j -> In t j') -> ∃ i,i < t.place.size /\ t.place.getD i 0 = j /\ j <= i
 | 0,h=>by obtain ⟨i,hi,e⟩:=h 0 (Nat.le_refl _); exact ⟨i,hi,e,Nat.zero_le _⟩
 | j + 1,h=>by
   obtain ⟨i,hi,e,hle⟩:=zos R j fun j' hj'=>h j' (by omega)
   obtain ⟨i',hi',e'⟩:=h (j + 1) (Nat.le_refl _)
   refine ⟨i',hi',e',?_⟩
   rcases Nat.lt_trichotomy i i' with q | q | q
   . omega
   . subst q; omega
   . have:=R i' i q hi; omega
theorem Tb.gap {t : SetTable} {hs : List Int} (b : Tb t hs) : ∃ j,j <= t.mask /\ ¬ In t j:=by
 refine Classical.byContradiction fun c=>?_
 obtain ⟨i,hi,e,hle⟩:=zos b.ris t.place.size fun j' hj'=>Classical.byContradiction fun d=>c ⟨j',Nat.le_trans hj' b.room,d⟩
 omega
theorem Tb.free {t : SetTable} {hs : List Int} (b : Tb t hs) (h : Int) : ∃ n,n < 10 * turns t.mask /\ ¬ In t (way t.mask (start t.mask h) n).j /\ ∀ m,m < n -> In t (way t.mask (start t.mask h) m).j:=by
 obtain ⟨j,hj,hn⟩:=b.gap
 obtain ⟨k,_,hk⟩:=b.two
 obtain ⟨n,hn',e⟩:=zml hk (i:=bits h % (t.mask + 1)) (zlf h) hj
 obtain ⟨m,h1,h2,h3⟩:=zrX (P:=fun n=>¬ In t (way t.mask (start t.mask h) n).j) (n:=n) (by show ¬ In t _; unfold start; rw [e]; exact hn)
 exact ⟨m,by omega,h2,fun k hk=>Classical.byContradiction (h3 k hk)⟩
theorem zgi {t : SetTable} (R : Ris t.place) (D : t.dummies = #[]) (hashAt : Nat -> Int) (h : Int) {p : Probe} (dm : p.dummy = none) {n0 : Nat} (hE : ¬ In t (way t.mask p n0).j) (hF : ∀ m,m < n0 -> In t (way t.mask p m).j) :
   ∀ fuel n,n <= n0 -> n0 - n < fuel ->
     (∃ m i,n <= m /\ m < n0 /\ i < t.place.size /\ t.place.getD i 0 = (way t.mask p m).j /\ hashAt i = h /\ (∀ k,n <= k -> k < m -> ∀ i',i' < t.place.size -> t.place.getD i' 0 = (way t.mask p k).j -> hashAt i' ≠ h) /\
       SetTable.probe.go t hashAt h fuel (way t.mask p n) = some (.candidate (way t.mask p m).j i (way t.mask p (m + 1)))) \/
     ((∀ k,n <= k -> k < n0 -> ∀ i',i' < t.place.size -> t.place.getD i' 0 = (way t.mask p k).j -> hashAt i' ≠ h) /\
       SetTable.probe.go t hashAt h fuel (way t.mask p n) = some (.empty (way t.mask p n0).j none))
 | 0,n,_,hf=>absurd hf (Nat.not_lt_zero _)
 | fuel + 1,n,hn,hf=>by
   unfold SetTable.probe.go
   rcases zgl R D (way t.mask p n).j with ⟨i,hi,e,es⟩ | ⟨no,es⟩
   . rw [es]
     dsimp only
     have hlt : n < n0:=by
       rcases Nat.lt_or_ge n n0 with q | q
       . exact q
       . have : n = n0:=by omega
         subst this
         exact absurd ⟨i,hi,e⟩ hE
     by_cases c : hashAt i = h
     . rw [if_pos (by simpa using c)]
       exact .inl ⟨n,i,Nat.le_refl _,hlt,hi,e,c,fun k h1 h2=>absurd h1 (by omega),rfl⟩
     . rw [if_neg (by simpa using c)]
       have here : ∀ i',i' < t.place.size -> t.place.getD i' 0 = (way t.mask p n).j -> hashAt i' ≠ h:=fun i' hi' e'=>by
         rw [zin R hi' hi (e'.trans e.symm)]; exact c
       rcases zgi R D hashAt h dm hE hF fuel (n + 1) hlt (by omega) with ⟨m,i2,a1,a2,a3,a4,a5,a6,a7⟩ | ⟨a1,a2⟩
       . refine .inl ⟨m,i2,by omega,a2,a3,a4,a5,fun k h1 h2 i' hi' e'=>?_,a7⟩
         rcases Nat.eq_or_lt_of_le h1 with q | q
         . subst q; exact here i' hi' e'
         . exact a6 k q h2 i' hi' e'
       . refine .inr ⟨fun k h1 h2 i' hi' e'=>?_,a2⟩
         rcases Nat.eq_or_lt_of_le h1 with q | q
         . subst q; exact here i' hi' e'
         . exact a1 k q h2 i' hi' e'
   . rw [es]
     dsimp only
     have : n = n0:=by
       rcases Nat.lt_or_ge n n0 with q | q
       . obtain ⟨i,hi,e⟩:=hF n q
         exact absurd e (no i hi)
       . omega
     subst this
     refine .inr ⟨fun k h1 h2=>absurd h1 (by omega),?_⟩
     rw [zhF,dm]
def zdo {α : Type} (l : List α) (p : Nat) (x : α) : List α:=l.take p ++ x :: l.drop p
theorem zeZ {α : Type} {l : List α} {p : Nat} (x : α) (hp : p <= l.length) (i : Nat) : (zdo l p x)[i]? = if i < p then l[i]? else if i = p then some x else l[i - 1]?:=by
 unfold zdo
 have hl : (l.take p).length = p:=by rw [List.length_take]; omega
 by_cases a : i < p
 . rw [if_pos a,List.getElem?_append_left (by omega),List.getElem?_take_of_lt a]
 . rw [if_neg a,List.getElem?_append_right (by omega),hl]
   by_cases b : i = p
   . rw [if_pos b,b,Nat.sub_self]; rfl
   . rw [if_neg b]
     have : i - p = (i - 1 - p) + 1:=by omega
     rw [this,List.getElem?_cons_succ,List.getElem?_drop]
     congr 1; omega
theorem zdt {α : Type} {l : List α} {p : Nat} (x : α) (hp : p <= l.length) : (zdo l p x).length = l.length + 1:=by
 unfold zdo; rw [List.length_append,List.length_take,List.length_cons,List.length_drop]; omega
theorem zbn {α : Type} (xs : Array α) (p : Nat) (x : α) : (SetTable.insertAt xs p x).toList = zdo xs.toList p x:=by
 unfold SetTable.insertAt zdo
 simp
 exact List.take_of_length_le (by simp)
theorem zcJ {xs : Array Nat} {p : Nat} (x : Nat) (hp : p <= xs.size) (i : Nat) : (SetTable.insertAt xs p x).getD i 0 = if i < p then xs.getD i 0 else if i = p then x else xs.getD (i - 1) 0:=by
 rw [Array.getD_eq_getD_getElem?,<- Array.getElem?_toList,zbn,zeZ x (by simpa using hp)]
 split
 . rw [Array.getD_eq_getD_getElem?,<- Array.getElem?_toList]
 . split
   . rfl
   . rw [Array.getD_eq_getD_getElem?,<- Array.getElem?_toList]
theorem zhp {xs : Array Nat} {p : Nat} (x : Nat) (hp : p <= xs.size) : (SetTable.insertAt xs p x).size = xs.size + 1:=by
 rw [<- Array.length_toList,zbn,zdt x (by simpa using hp),Array.length_toList]
theorem zlV {l : List Int} {p : Nat} (x : Int) (hp : p <= l.length) (i : Nat) : (zdo l p x).getD i 0 = if i < p then l.getD i 0 else if i = p then x else l.getD (i - 1) 0:=by
 rw [List.getD_eq_getElem?_getD,zeZ x hp]
 split
 . rw [List.getD_eq_getElem?_getD]
 . split
   . rfl
   . rw [List.getD_eq_getElem?_getD]
theorem Tb.put {t : SetTable} {hs : List Int} (b : Tb t hs) {h : Int} {n : Nat} (hE : ¬ In t (way t.mask (start t.mask h) n).j) (hF : ∀ m,m < n -> In t (way t.mask (start t.mask h) m).j) (hr : t.place.size + 1 <= t.mask) :
   (t.put (way t.mask (start t.mask h) n).j).2 <= hs.length /\ Tb (t.put (way t.mask (start t.mask h) n).j).1 (zdo hs (t.put (way t.mask (start t.mask h) n).j).2 h):=by
 generalize hj : (way t.mask (start t.mask h) n).j = j at *
 have hjm : j <= t.mask:=by rw [<- hj]; exact zmM t.mask h n
 obtain ⟨q1,q2,q3⟩:=zex b.ris j
 have hd : SetTable.has t.dummies j = false:=by rw [b.dum]; rfl
 have e2 : (t.put j).2 = SetTable.below t.place j:=rfl
 have ep : (t.put j).1.place = SetTable.insertAt t.place (SetTable.below t.place j) j:=rfl
 have em : (t.put j).1.mask = t.mask:=rfl
 have edm : (t.put j).1.dummies = #[]:=by
   show (if SetTable.has t.dummies j = true then _ else t.dummies) = _
   rw [hd]; exact b.dum
 rw [e2]
 generalize SetTable.below t.place j = p at *
 have hp : p <= hs.length:=by rw [<- b.size]; exact q1
 have inn : ∀ x,In t x -> In (t.put j).1 x:=fun x ⟨i,hi,e⟩=>by
   unfold In
   rw [ep,zhp j q1]
   rcases Nat.lt_or_ge i p with a | a
   . exact ⟨i,by omega,by rw [zcJ j q1,if_pos a]; exact e⟩
   . exact ⟨i + 1,by omega,by rw [zcJ j q1,if_neg (by omega),if_neg (by omega)]; exact e⟩
 have ns : (t.put j).1.place.size = t.place.size + 1:=by rw [ep,zhp j q1]
 have gt : ∀ k,p <= k -> k < t.place.size -> j < t.place.getD k 0:=fun k h1 h2=>by
   have:=q3 k h1 h2
   have : t.place.getD k 0 ≠ j:=fun e=>hE ⟨k,h2,e⟩
   omega
 refine ⟨hp,⟨?_,?_,edm,em ▸ b.two,?_,?_,?_⟩⟩
 . intro i k hik hk
   rw [ns] at hk
   rw [ep,zcJ j q1,zcJ j q1]
   by_cases a : k < p
   . rw [if_pos (by omega),if_pos a]; exact b.ris i k hik (by omega)
   . rw [if_neg a]
     by_cases c : k = p
     . rw [if_pos c,if_pos (by omega)]; exact q2 i (by omega)
     . rw [if_neg c]
       by_cases d : i < p
       . rw [if_pos d]; exact Nat.lt_trans (q2 i d) (gt (k - 1) (by omega) (by omega))
       . rw [if_neg d]
         by_cases f : i = p
         . rw [if_pos f]; exact gt (k - 1) (by omega) (by omega)
         . rw [if_neg f]; exact b.ris (i - 1) (k - 1) (by omega) (by omega)
 . rw [ns,zdt h hp,b.size]
 . intro i hi
   rw [ns] at hi
   rw [ep,zcJ j q1,em]
   split
   . exact b.le i (by omega)
   . split
     . exact hjm
     . exact b.le (i - 1) (by omega)
 . rw [ns,em]; exact hr
 . intro i hi
   rw [ns] at hi
   rw [ep,zcJ j q1,em,zlV h hp]
   split
   . obtain ⟨m,h1,h2⟩:=b.path i (by omega)
     exact ⟨m,h1,fun k hk=>inn _ (h2 k hk)⟩
   . split
     . exact ⟨n,hj,fun k hk=>inn _ (hF k hk)⟩
     . obtain ⟨m,h1,h2⟩:=b.path (i - 1) (by omega)
       exact ⟨m,h1,fun k hk=>inn _ (h2 k hk)⟩
structure Ow (mask : Nat) (ow : Array (Option Nat)) (hs : List Int) : Prop where
 size : ow.size = mask + 1
 cnt : ow.toList.countP Option.isSome = hs.length
 inj : ∀ j j' k,ow.getD j none = some k -> ow.getD j' none = some k -> j = j'
 lt : ∀ j k,ow.getD j none = some k -> k < hs.length
 has : ∀ k,k < hs.length -> ∃ j,ow.getD j none = some k
 path : ∀ k j,ow.getD j none = some k -> ∃ n,(way mask (start mask (hs.getD k 0)) n).j = j /\ ∀ m,m < n -> ow.getD (way mask (start mask (hs.getD k 0)) m).j none ≠ none
theorem zlH (mask i b : Nat) : ∀ m,lp mask i b (m + 1) = lp mask (leap mask i b).1 (leap mask i b).2 m
 | 0=>rfl
 | m + 1=>by
   show leap mask (lp mask i b (m + 1)).1 (lp mask i b (m + 1)).2 = leap mask (lp mask (leap mask i b).1 (leap mask i b).2 m).1 _
   rw [zlH mask i b m]
theorem zgx {ow : Array (Option Nat)} {j : Nat} (h : j < ow.size) (d e : Option Nat) : ow.getD j d = ow.getD j e:=by simp [Array.getD,h]
theorem zhs {mask : Nat} {ow : Array (Option Nat)} (hz : ow.size = mask + 1) : ∀ fuel i b,i <= mask -> (∃ m,m < fuel /\ ow.getD (lp mask i b m).1 none = none /\ (lp mask i b m).1 <= mask) ->
   ∃ j n,SetTable.layClean.free mask ow fuel i b = some j /\ (way mask (zdH mask i b) n).j = j /\ j <= mask /\ ow.getD j none = none /\ ∀ m,m < n -> ow.getD (way mask (zdH mask i b) m).j none ≠ none
 | 0,i,b,_,⟨m,h,_⟩=>absurd h (Nat.not_lt_zero _)
 | fuel + 1,i,b,hi,⟨m,hm,hn,hle⟩=>by
   unfold SetTable.layClean.free
   have hr:=zfi hi
   cases hf : (List.range (runEnd mask i + 1 - i)).find? fun k=>(ow.getD (i + k) (some 0)).isNone with
   | some k =>
     rw [List.find?_range_eq_some] at hf
     obtain ⟨h1,h2,h3⟩:=hf
     have h2 : k < runEnd mask i + 1 - i:=by simpa using h2
     refine ⟨i + k,k,rfl,?_,by omega,?_,fun m hm=>?_⟩
     . rw [zeU mask i b k (by omega)]
     . rw [zgx (by omega) none (some 0)]; simpa using h1
     . rw [zeU mask i b m (by omega)]
       have:=h3 m hm
       show ow.getD (i + m) none ≠ none
       rw [zgx (by omega) none (some 0)]
       intro e
       rw [e] at this
       exact absurd this (by decide)
   | none =>
     rw [List.find?_range_eq_none] at hf
     have all : ∀ k,k <= runEnd mask i - i -> ow.getD (i + k) none ≠ none:=fun k hk e=>by
       have:=hf k (by omega)
       rw [zgx (by omega) (some 0) none,e] at this
       exact absurd this (by decide)
     cases m with
     | zero=>exact absurd hn (all 0 (Nat.zero_le _))
     | succ m =>
       rw [zlH] at hn hle
       have hi' : (leap mask i b).1 <= mask:=by unfold leap; dsimp only; exact Nat.le_of_lt_succ (Nat.mod_lt _ (Nat.succ_pos _))
       obtain ⟨j,n,e1,e2,e3,e4,e5⟩:=zhs hz fuel (leap mask i b).1 (leap mask i b).2 hi' ⟨m,by omega,hn,hle⟩
       refine ⟨j,runEnd mask i - i + 1 + n,e1,by rw [zf2,zgD]; exact e2,e3,e4,fun m' hm'=>?_⟩
       rcases Nat.lt_or_ge m' (runEnd mask i - i + 1) with q | q
       . rw [zeU mask i b m' (by omega)]; exact all m' (by omega)
       . have : m' = runEnd mask i - i + 1 + (m' - (runEnd mask i - i + 1)):=by omega
         rw [this,zf2,zgD]
         exact e5 _ (by omega)
theorem Ow.gap {mask : Nat} {ow : Array (Option Nat)} {hs : List Int} (o : Ow mask ow hs) (h : hs.length <= mask) : ∃ j,j <= mask /\ ow.getD j none = none:=by
 refine Classical.byContradiction fun c=>?_
 have : ow.toList.countP Option.isSome = ow.toList.length:=List.countP_eq_length.mpr fun a ha=>by
   obtain ⟨j,hj,e⟩:=List.getElem_of_mem ha
   rw [Array.length_toList,o.size] at hj
   cases a with
   | some _=>rfl
   | none =>
     refine absurd ⟨j,by omega,?_⟩ c
     rw [Array.getD_eq_getD_getElem?,<- Array.getElem?_toList,List.getElem?_eq_getElem (by rw [Array.length_toList,o.size]; exact hj),e]
     rfl
 have h2 : ow.toList.length = mask + 1:=by rw [Array.length_toList,o.size]
 have:=o.cnt
 omega
theorem zmT {ow : Array (Option Nat)} {j : Nat} (h : j < ow.size) (v : Option Nat) (x : Nat) : (ow.setIfInBounds j v).getD x none = if x = j then v else ow.getD x none:=by
 rw [Array.getD_eq_getD_getElem?,Array.getElem?_setIfInBounds]
 by_cases e : j = x
 . subst e; rw [if_pos rfl,if_pos rfl,if_pos h]; rfl
 . rw [if_neg e,if_neg (fun q=>e q.symm),Array.getD_eq_getD_getElem?]
theorem Ow.step {mask k : Nat} (hm : mask + 1 = 2 ^ k) {ow : Array (Option Nat)} {hs : List Int} (o : Ow mask ow hs) (hl : hs.length <= mask) (h : Int) :
   ∃ j,SetTable.layClean.free mask ow (turns mask) (bits h % (mask + 1)) (bits h) = some j /\ Ow mask (ow.setIfInBounds j (some hs.length)) (hs ++ [h]):=by
 obtain ⟨j0,hj0,e0⟩:=o.gap hl
 obtain ⟨m,hm',em⟩:=zqa hm (i:=bits h % (mask + 1)) (zlf h) hj0
 obtain ⟨j,n,e1,e2,e3,e4,e5⟩:=zhs o.size (turns mask) (bits h % (mask + 1)) (bits h) (Nat.le_of_lt_succ (Nat.mod_lt _ (Nat.succ_pos _))) ⟨m,by unfold turns; omega,by rw [em]; exact e0,by rw [em]; exact hj0⟩
 have hjs : j < ow.size:=by rw [o.size]; omega
 have G:=zmT hjs (some hs.length)
 have hlen : (hs ++ [h]).length = hs.length + 1:=by simp
 have old : ∀ k,k < hs.length -> (hs ++ [h]).getD k 0 = hs.getD k 0:=fun k hk=>by
   rw [List.getD_eq_getElem?_getD,List.getD_eq_getElem?_getD,List.getElem?_append_left hk]
 refine ⟨j,e1,⟨by simpa using o.size,?_,?_,?_,?_,?_⟩⟩
 . rw [Array.toList_setIfInBounds,List.countP_set (by simpa using hjs),o.cnt,hlen]
   have : ow.toList[j]'(by simpa using hjs) = none:=by
     rw [Array.getD_eq_getD_getElem?,Array.getElem?_eq_getElem hjs] at e4
     simpa using e4
   simp [this]
 . intro x x' k h1 h2
   rw [G] at h1 h2
   split at h1
   . split at h2
     . rename_i a b; rw [a,b]
     . have:=o.lt _ _ h2; have:=Option.some.inj h1; omega
   . split at h2
     . have:=o.lt _ _ h1; have:=Option.some.inj h2; omega
     . exact o.inj _ _ _ h1 h2
 . intro x k h1
   rw [G] at h1
   rw [hlen]
   split at h1
   . have:=Option.some.inj h1; omega
   . have:=o.lt _ _ h1; omega
 . intro k hk
   rw [hlen] at hk
   rcases Nat.lt_or_ge k hs.length with q | q
   . obtain ⟨x,hx⟩:=o.has k q
     refine ⟨x,?_⟩
     rw [G,if_neg]
     . exact hx
     . intro e; rw [e,e4] at hx; cases hx
   . refine ⟨j,?_⟩
     rw [G,if_pos rfl]; congr 1; omega
 . intro k x h1
   rw [G] at h1
   have keep : ∀ y,ow.getD y none ≠ none -> (ow.setIfInBounds j (some hs.length)).getD y none ≠ none:=fun y hy=>by
     rw [G]; split
     . exact fun z=>nomatch z
     . exact hy
   split at h1
   . rename_i ex
     have ek : k = hs.length:=(Option.some.inj h1).symm
     have : (hs ++ [h]).getD k 0 = h:=by rw [ek,List.getD_eq_getElem?_getD,List.getElem?_append_right (Nat.le_refl _),Nat.sub_self]; rfl
     rw [this,ex]
     exact ⟨n,e2,fun m hm=>keep _ (e5 m hm)⟩
   . rw [old k (o.lt _ _ h1)]
     obtain ⟨n',a1,a2⟩:=o.path k x h1
     exact ⟨n',a1,fun m hm=>keep _ (a2 m hm)⟩
theorem Ow.nil (mask : Nat) : Ow mask (Array.replicate (mask + 1) none) []:=by
 have G : ∀ j,(Array.replicate (mask + 1) (none : Option Nat)).getD j none = none:=fun j=>by
   rw [Array.getD_eq_getD_getElem?,Array.getElem?_replicate]; split <;> rfl
 refine ⟨by simp,?_,fun j j' k h=>?_,fun j k h=>?_,fun k h=>absurd h (Nat.not_lt_zero _),fun k j h=>?_⟩
 . rw [Array.toList_replicate,List.countP_replicate]; rfl
 all_goals (rw [G] at h; cases h)
theorem ziR {mask k : Nat} (hm : mask + 1 = 2 ^ k) : ∀ (l : List Int) (ow : Array (Option Nat)) (hs : List Int),Ow mask ow hs -> hs.length + l.length <= mask + 1 ->
   ∃ ow',(l.foldl (init:=some (ow,hs.length)) fun (acc : Option (Array (Option Nat) × Nat)) h=>do
     let (owner,k) <- acc
     let j <- SetTable.layClean.free mask owner (turns mask) (bits h % (mask + 1)) (bits h)
     pure (owner.setIfInBounds j (some k),k + 1)) = some (ow',hs.length + l.length) /\ Ow mask ow' (hs ++ l)
 | [],ow,hs,o,_=>⟨ow,rfl,by rw [List.append_nil]; exact o⟩
 | h :: l,ow,hs,o,hl=>by
   rw [List.length_cons] at hl
   obtain ⟨j,e,o'⟩:=o.step hm (by omega) h
   have hlen : (hs ++ [h]).length = hs.length + 1:=by simp
   obtain ⟨ow',e',o''⟩:=ziR hm l _ _ o' (by omega)
   refine ⟨ow',?_,by rw [List.append_assoc] at o''; exact o''⟩
   rw [List.foldl_cons]
   have : (do
     let (owner,k) <- some (ow,hs.length)
     let j <- SetTable.layClean.free mask owner (turns mask) (bits h % (mask + 1)) (bits h)
     pure (owner.setIfInBounds j (some k),k + 1) : Option (Array (Option Nat) × Nat)) = some (ow.setIfInBounds j (some hs.length),hs.length + 1):=by
     show (SetTable.layClean.free mask ow (turns mask) (bits h % (mask + 1)) (bits h) >>= _) = _
     rw [e]; rfl
   rw [this,<- hlen,e',hlen,List.length_cons]
   congr 2; omega
theorem zra {mask k : Nat} (hm : mask + 1 = 2 ^ k) {hs : Array Int} (hl : hs.size <= mask + 1) : ∃ ow,SetTable.layClean mask hs = some ow /\ Ow mask ow hs.toList:=by
 obtain ⟨ow,e,o⟩:=ziR hm hs.toList _ [] (Ow.nil mask) (by simpa using hl)
 refine ⟨ow,?_,by simpa using o⟩
 unfold SetTable.layClean
 rw [<- Array.foldl_toList]
 have:=congrArg (Option.map (·.1)) e
 exact this
def live (mask : Nat) (ow : Array (Option Nat)) : List (Nat × Nat):=(List.range (mask + 1)).filterMap fun j=>(ow.getD j none).map (j,·)
theorem zdW {mask : Nat} {ow : Array (Option Nat)} (hz : ow.size = mask + 1) {j k : Nat} : (j,k) ∈ live mask ow ↔ ow.getD j none = some k:=by
 unfold live
 rw [List.mem_filterMap]
 constructor
 . rintro ⟨x,_,e⟩
   cases h : ow.getD x none with
   | none=>rw [h] at e; cases e
   | some y=>rw [h] at e; cases e; exact h
 . intro h
   refine ⟨j,?_,by rw [h]; rfl⟩
   rw [List.mem_range]
   rcases Nat.lt_or_ge j (mask + 1) with q | q
   . exact q
   . rw [Array.getD_eq_getD_getElem?,Array.getElem?_eq_none (by omega)] at h; cases h
theorem zh0 {mask : Nat} {ow : Array (Option Nat)} {hs : List Int} (o : Ow mask ow hs) : (live mask ow).Pairwise fun x y=>x.1 < y.1 /\ x.2 ≠ y.2:=by
 unfold live
 rw [List.pairwise_filterMap]
 refine List.Pairwise.imp_of_mem ?_ List.pairwise_lt_range
 intro a b _ _ hab x hx y hy
 cases h1 : ow.getD a none with
 | none=>rw [h1] at hx; cases hx
 | some u =>
   cases h2 : ow.getD b none with
   | none=>rw [h2] at hy; cases hy
   | some v =>
     rw [h1] at hx; rw [h2] at hy
     cases hx; cases hy
     refine ⟨hab,fun e=>?_⟩
     have : u = v:=e
     subst this
     have:=o.inj _ _ _ h1 h2
     omega
theorem zj4 {mask : Nat} {ow : Array (Option Nat)} {hs : List Int} (o : Ow mask ow hs) : ((live mask ow).map (·.2)).Perm (List.range hs.length):=by
 refine (List.perm_ext_iff_of_nodup ?_ List.nodup_range).mpr fun k=>?_
 . show List.Pairwise _ _
   rw [List.pairwise_map]
   exact (zh0 o).imp fun h=>h.2
 . rw [List.mem_range,List.mem_map]
   constructor
   . rintro ⟨⟨j,k'⟩,h,rfl⟩
     exact o.lt _ _ ((zdW o.size).mp h)
   . intro h
     obtain ⟨j,hj⟩:=o.has k h
     exact ⟨(j,k),(zdW o.size).mpr hj,rfl⟩
theorem zlm {mask k : Nat} (k3 : 3 <= k) (hm : mask + 1 = 2 ^ k) (finger moves : Nat) (led plain : Bool) {hs : Array Int} (hl : hs.size <= mask) :
   ∃ (t : SetTable) (ord : Array Nat),SetTable.laid mask finger moves led plain hs = some (t,ord) /\ t.mask = mask /\ t.led = led /\ t.plain = plain /\ t.moves = moves /\ ord.toList.Perm (List.range hs.size) /\ Tb t (ord.toList.map fun k=>hs.toList.getD k 0):=by
 obtain ⟨ow,e,o⟩:=zra hm (hs:=hs) (by omega)
 have op:=zj4 o
 rw [Array.length_toList] at op
 have ll : (live mask ow).length = hs.size:=by have:=op.length_eq; simpa using this
 refine ⟨{ mask,place:=((live mask ow).map (·.1)).toArray,dummies:=#[],finger,led,moves,plain },((live mask ow).map (·.2)).toArray,?_,rfl,rfl,rfl,rfl,by simpa using op,?_⟩
 . unfold SetTable.laid
   rw [e]; rfl
 . have pz : (((live mask ow).map (·.1)).toArray).size = (live mask ow).length:=by simp
   have pg : ∀ i (h : i < (live mask ow).length),(((live mask ow).map (·.1)).toArray).getD i 0 = ((live mask ow)[i]).1:=fun i h=>by
     rw [Array.getD_eq_getD_getElem?]; simp [h]
   have inn : ∀ x,ow.getD x none ≠ none -> In { mask,place:=((live mask ow).map (·.1)).toArray,dummies:=#[],finger,led,moves,plain } x:=fun x hx=>by
     cases hy : ow.getD x none with
     | none=>exact absurd hy hx
     | some y =>
       obtain ⟨i,hi,ei⟩:=List.getElem_of_mem ((zdW o.size).mpr hy)
       exact ⟨i,by show i < (((live mask ow).map (·.1)).toArray).size; rw [pz]; exact hi,by show (((live mask ow).map (·.1)).toArray).getD i 0 = x; rw [pg i hi,ei]⟩
   refine ⟨?_,?_,rfl,⟨k,k3,hm⟩,?_,?_,?_⟩
   . intro i j hij hj
     have hj : j < (live mask ow).length:=by rw [<- pz]; exact hj
     show (((live mask ow).map (·.1)).toArray).getD i 0 < (((live mask ow).map (·.1)).toArray).getD j 0
     rw [pg i (by omega),pg j hj]
     exact (List.pairwise_iff_getElem.mp (zh0 o) i j (by omega) hj hij).1
   . show (((live mask ow).map (·.1)).toArray).size = _
     rw [pz]; simp
   . intro i hi
     have hi : i < (live mask ow).length:=by rw [<- pz]; exact hi
     show (((live mask ow).map (·.1)).toArray).getD i 0 <= mask
     rw [pg i hi]
     have:=(zdW o.size).mp (show (((live mask ow)[i]).1,((live mask ow)[i]).2) ∈ live mask ow from List.getElem_mem hi)
     rcases Nat.lt_or_ge ((live mask ow)[i]).1 (mask + 1) with q | q
     . omega
     . rw [Array.getD_eq_getD_getElem?,Array.getElem?_eq_none (by rw [o.size]; omega)] at this; cases this
   . show (((live mask ow).map (·.1)).toArray).size <= mask
     rw [pz,ll]; exact hl
   . intro i hi
     have hi : i < (live mask ow).length:=by rw [<- pz]; exact hi
     have hm':=(zdW o.size).mp (show (((live mask ow)[i]).1,((live mask ow)[i]).2) ∈ live mask ow from List.getElem_mem hi)
     have eh : (((live mask ow).map (·.2)).toArray.toList.map fun k=>hs.toList.getD k 0).getD i 0 = hs.toList.getD ((live mask ow)[i]).2 0:=by
       rw [List.getD_eq_getElem?_getD]; simp [hi]
     obtain ⟨n,a1,a2⟩:=o.path _ _ hm'
     show ∃ n,(way mask (start mask (_)) n).j = (((live mask ow).map (·.1)).toArray).getD i 0 /\ _
     rw [pg i hi,eh]
     exact ⟨n,a1,fun m hm=>inn _ (a2 m hm)⟩
theorem zqn (n : Nat) : ∀ (fuel size : Nat),∃ m,SetTable.sizeAbove.go n fuel size = size * 2 ^ m /\ (n < size * 2 ^ fuel -> n < SetTable.sizeAbove.go n fuel size) /\ (SetTable.sizeAbove.go n fuel size <= size \/ SetTable.sizeAbove.go n fuel size <= 2 * n)
 | 0,size=>⟨0,by simp [SetTable.sizeAbove.go],fun h=>by simpa [SetTable.sizeAbove.go] using h,.inl (by simp [SetTable.sizeAbove.go])⟩
 | fuel + 1,size=>by
   unfold SetTable.sizeAbove.go
   by_cases c : size <= n
   . rw [if_pos c]
     obtain ⟨m,h1,h2,h3⟩:=zqn n fuel (size * 2)
     refine ⟨m + 1,?_,fun h=>h2 ?_,?_⟩
     . rw [h1,Nat.pow_succ,Nat.mul_comm (2 ^ m) 2,Nat.mul_assoc]
     . rw [Nat.pow_succ,Nat.mul_comm (2 ^ fuel) 2,<- Nat.mul_assoc] at h; exact h
     . rcases h3 with h3 | h3 <;> right <;> omega
   . rw [if_neg c]
     exact ⟨0,by simp,fun _=>by omega,.inl (Nat.le_refl _)⟩
theorem zp6 {n : Nat} (h1 : 1 <= n) (h : n <= 4000) : ∃ k,3 <= k /\ SetTable.sizeAbove (4 * n) - 1 + 1 = 2 ^ k /\ 4 * n <= SetTable.sizeAbove (4 * n) - 1 /\ SetTable.sizeAbove (4 * n) <= 8 * n:=by
 obtain ⟨m,e1,e2,e3⟩:=zqn (4 * n) 64 8
 have e0 : SetTable.sizeAbove (4 * n) = SetTable.sizeAbove.go (4 * n) 64 8:=rfl
 have lt := e2 (by have : (8 * 2 ^ 64 : Nat) = 147573952589676412928 := by decide
                   omega)
 rw [e0]
 refine ⟨m + 3,by omega,?_,by omega,by omega⟩
 rw [Nat.sub_add_cancel (by omega),e1,Nat.pow_add,Nat.mul_comm]
end TB
set_option Elab.async false
set_option linter.all false
set_option maxRecDepth 100000
namespace TB
open PySem
section
variable {prog : Program} {w : World} {K : Type} [DecidableEq K] {knd : KeyKind prog w K} {U : Addr -> List K -> Prop} {A : Around} {E : Value -> Shared -> Prop} {s : Shared}
def Ent (knd : KeyKind prog w K) (U : Addr -> List K -> Prop) (h : Heap) (e : Int × Value) (k : List K) : Prop:=∃ a,e.2 = .ref a /\ IsTupleKey knd h k a /\ e.1 = tupleKeyHash knd k /\ U a k
theorem zhk (n : Nat) {v : Value} (h : carriedByValue v = true) : ofAClassStatement n v = pure false:=by
 cases v with
 | ref a=>simp [carriedByValue] at h
 | _=>first | rfl | simp [ofAClassStatement] | (unfold ofAClassStatement; rfl)
theorem zg1 {x : Addr} {k : List K} (hx : IsTupleKey knd s.heap k x) {Q : Bool -> Shared -> Prop} (q : Q false s) : wpAny (model prog w) A (ofAClassStatement 8 (.ref x)) Q E s:=by
 have hT:=hx.typeIs
 obtain ⟨o,items,n,ho,hc,hd,hi⟩:=hx
 unfold ofAClassStatement
 refine wpAny_bind (wpAny_typeOf hT ?_)
 dsimp only
 rw [if_pos (by decide)]
 refine wpAny_bind (wpAny_pure ?_)
 simp only [Bool.not_true,Bool.false_eq_true,if_false]
 refine wpAny_bind (wpAny_seqItems ho hd ?_)
 refine wpAny_bind ?_
 show wpAny _ _ (forIn items _ _) _ _ s
 rw [<- Array.forIn_toList]
 refine wpAny_forIn_list _ (fun rest r s'=>r.1 = none /\ s' = s /\ ∀ v ∈ rest,carriedByValue v = true) _ ?_ ?_ _ _ ⟨rfl,rfl,hi.byValue⟩
 . rintro v rest r s' ⟨hr,rfl,hall⟩
   rw [zhk _ (hall v List.mem_cons_self)]
   refine wpAny_bind (wpAny_pure ?_)
   simp only [Bool.false_eq_true,if_false]
   exact wpAny_pure ⟨rfl,rfl,fun u hu'=>hall u (List.mem_cons_of_mem _ hu')⟩
 . rintro ⟨r1,r2⟩ s' ⟨hr,rfl,_⟩
   simp only at hr
   subst hr
   exact wpAny_pure q
theorem zmH {x : Addr} {k : List K} (hx : IsTupleKey knd s.heap k x) : ∀ (l : List Value),(∀ v ∈ l,∃ y k',v = .ref y /\ IsTupleKey knd s.heap k' y) -> ∀ {Q : Bool -> Shared -> Prop},Q false s -> wpAny (model prog w) A (searchCouldBeSeen (.ref x) l) Q E s:=by
 intro l hl Q q
 unfold searchCouldBeSeen
 refine wpAny_bind ?_
 refine wpAny_forIn_list _ (fun rest r s'=>r.1 = none /\ s' = s /\ ∀ v ∈ rest,∃ y k',v = .ref y /\ IsTupleKey knd s.heap k' y) _ ?_ ?_ _ _ ⟨rfl,rfl,hl⟩
 . rintro v rest r s' ⟨hr,rfl,hall⟩
   obtain ⟨y,k',rfl,hy⟩:=hall v List.mem_cons_self
   have rst : ∀ v ∈ rest,∃ y k',v = .ref y /\ IsTupleKey knd s'.heap k' y:=fun u hu'=>hall u (List.mem_cons_of_mem _ hu')
   dsimp only
   split
   . exact wpAny_pure ⟨rfl,rfl,rst⟩
   . refine wpAny_bind (wpAny_eqIsQuiet_tuple hx ?_)
     simp only [Bool.not_true,Bool.false_eq_true,if_false]
     refine wpAny_bind (wpAny_eqIsQuiet_tuple hy ?_)
     simp only [Bool.not_true,Bool.false_eq_true,if_false]
     refine wpAny_bind (zg1 hx ?_)
     simp only [Bool.not_true,Bool.false_eq_true,if_false]
     refine wpAny_bind (zg1 hy ?_)
     simp only [Bool.not_true,Bool.false_eq_true,if_false]
     exact wpAny_pure ⟨rfl,rfl,rst⟩
 . rintro ⟨r1,r2⟩ s' ⟨hr,rfl,_⟩
   simp only at hr
   subst hr
   exact wpAny_pure q
theorem zpK {t : SetTable} (R : Ris t.place) (D : t.dummies = #[]) {i j : Nat} (hi : i < t.place.size) (e : t.place.getD i 0 = j) : t.slot j = .live i:=by
 rcases zgl R D j with ⟨i',h1,h2,h3⟩ | ⟨no,_⟩
 . rw [h3,zin R h1 hi (h2.trans e.symm)]
 . exact absurd e (no i hi)
theorem Ent.inj {h : Heap} {e : Int × Value} {k k' : List K} (a : Ent knd U h e k) (b : Ent knd U h e k') : k = k':=by
 obtain ⟨x,h1,h2,_⟩:=a
 obtain ⟨y,h3,h4,_⟩:=b
 rw [h1] at h3
 cases h3
 exact h2.inj h4
theorem Tb.fits {t : SetTable} {hs : List Int} (b : Tb t hs) : t.fits hs.length = true:=by
 unfold SetTable.fits SetTable.fill
 rw [b.dum,b.size]
 have:=b.room
 rw [b.size] at this
 simpa using this
theorem Tb.notGave {t : SetTable} {hs : List Int} (b : Tb t hs) : t.gaveWay = false:=by
 obtain ⟨k',h3,e⟩:=b.two
 unfold SetTable.gaveWay
 have : 2 ^ k' = 2 * 2 ^ (k' - 1):=by rw [<- Nat.pow_succ']; congr 1; omega
 have : t.mask % 2 = 1:=by omega
 rw [this]; rfl
theorem zht {a xa : Addr} {k : List K} {o : Obj} {es : Array (Int × Value)} {ep : Nat} {t : SetTable} (hu : A.units < cLine) (hx : IsTupleKey knd s.heap k xa)
   (ho : s.heap.get? a = some o) (hd : o.data = .set es ep t) (b : Tb t (es.toList.map (·.1))) (he : ∀ i (h : i < es.size),∃ k',Ent knd U s.heap es[i] k') (n0 : Nat) (hE : ¬ In t (way t.mask (start t.mask (tupleKeyHash knd k)) n0).j) (hF : ∀ m,m < n0 -> In t (way t.mask (start t.mask (tupleKeyHash knd k)) m).j) (hf0 : n0 < 10 * SetTable.turns t.mask)
   {Q : SetFound -> Shared -> Prop} (yes : (∃ i,∃ h : i < es.size,Ent knd U s.heap es[i] k) -> Q (.there none) s) (no : (∀ i (h : i < es.size),¬ Ent knd U s.heap es[i] k) -> Q (.free (way t.mask (start t.mask (tupleKeyHash knd k)) n0).j false) s) :
   ∀ (fuel n : Nat) (st : Option SetTable.Probe),n <= n0 -> n0 - n < fuel -> st.getD (t.probeStart (tupleKeyHash knd k)) = way t.mask (start t.mask (tupleKeyHash knd k)) n ->
     (∀ m,m < n -> ∀ i (h : i < es.size),t.place.getD i 0 = (way t.mask (start t.mask (tupleKeyHash knd k)) m).j -> ¬ Ent knd U s.heap es[i] k) ->
     wpAny (model prog w) A (setSearchFrom a (.ref xa) (tupleKeyHash knd k) true fuel st) Q E s
 | 0,n,st,_,hlt,_,_=>absurd hlt (Nat.not_lt_zero _)
 | fuel + 1,n,st,hn,hlt,hst,hno=>by
   have hsz : t.place.size = es.size:=by rw [b.size,List.length_map,Array.length_toList]
   have hfit : t.fits es.size = true:=by have:=b.fits; rwa [List.length_map,Array.length_toList] at this
   unfold setSearchFrom
   refine wpAny_bind (wpAny_setState_of ho hd hfit ?_)
   dsimp only
   rw [b.notGave,hst]
   simp only [Bool.false_eq_true,if_false]
   have hp:=zgi b.ris b.dum (fun i=>(es[i]?.map (·.1)).getD 0) (tupleKeyHash knd k) (p:=start t.mask (tupleKeyHash knd k)) rfl hE hF (10 * SetTable.turns t.mask) n hn (by omega)
   rcases hp with ⟨m,i,m1,m2,i1,i2,i3,i4,e⟩ | ⟨a1,e⟩
   . generalize hP : t.probe _ (tupleKeyHash knd k) (way t.mask (start t.mask (tupleKeyHash knd k)) n) = P
     have eP:=hP.symm.trans e
     rw [eP]
     clear eP hP P e
     dsimp only
     have ies : i < es.size:=by rw [<- hsz]; exact i1
     obtain ⟨k',a',e1,e2,e3,e4⟩:=he i ies
     have eg : es[i]? = some es[i]:=Array.getElem?_eq_getElem ies
     have hent : Ent knd U s.heap es[i] k':=⟨a',e1,e2,e3,e4⟩
     have next : k' ≠ k -> wpAny (model prog w) A (setSearchFrom a (.ref xa) (tupleKeyHash knd k) true fuel (some (way t.mask (start t.mask (tupleKeyHash knd k)) (m + 1)))) Q E s:=fun c=>by
       refine zht hu hx ho hd b he n0 hE hF hf0 yes no fuel (m + 1) _ m2 (by omega) rfl fun m' hm' i' hi' ep' hent'=>?_
       rcases Nat.lt_or_ge m' n with q | q
       . exact hno m' q i' hi' ep' hent'
       . rcases Nat.eq_or_lt_of_le (Nat.le_of_lt_succ hm') with q' | q'
         . subst q'
           have : i' = i:=zin b.ris (by rw [hsz]; exact hi') i1 (ep'.trans i2.symm)
           subst this
           exact c (hent.inj hent')
         . refine i4 m' q q' i' (by rw [hsz]; exact hi') ep' ?_
           show (es[i']?.map (·.1)).getD 0 = _
           rw [Array.getElem?_eq_getElem hi']
           obtain ⟨_,_,_,e5,_⟩:=hent'
           exact e5
     have hsl : t.slot (way t.mask (start t.mask (tupleKeyHash knd k)) m).j = .live i:=zpK b.ris b.dum i1 i2
     have hsm : t.sameMemory t.moves t.mask = some true:=by unfold SetTable.sameMemory; rw [if_pos (by simp)]
     have unseen : ∀ v ∈ (es.filter fun x=>x.1 == tupleKeyHash knd k).toList.map (fun x=>x.2),∃ y k',v = .ref y /\ IsTupleKey knd s.heap k' y:=fun v hv=>by
       obtain ⟨e0,h0,rfl⟩:=List.mem_map.mp hv
       rw [Array.toList_filter,List.mem_filter] at h0
       obtain ⟨j,hj,ej⟩:=List.getElem_of_mem h0.1
       obtain ⟨k2,y2,f1,f2,_⟩:=he j (by simpa using hj)
       refine ⟨y2,k2,?_,f2⟩
       rw [<- ej,<- f1,Array.getElem_toList]
     have eg' : es[i]? = some (es[i].1,.ref a'):=by rw [eg,<- e1]
     clear eg
     generalize es[i].1 = h' at *
     have tail : k' = k -> Q (.there none) s:=fun c=>yes ⟨i,ies,c ▸ hent⟩
     cases hl : t.led
     . simp only [Bool.not_false,if_true]
       refine wpAny_bind (zmH hx _ unseen ?_)
       simp only [Bool.false_eq_true,if_false]
       rw [eg']
       dsimp only
       refine wpAny_bind (wpAny_holding (wpAny_eqBool_tuple hu e2 hx ?_))
       refine wpAny_bind (wpAny_setState_of ho hd hfit ?_)
       dsimp only
       by_cases c : k' = k
       . rw [decide_eq_true c]
         exact wpAny_pure (tail c)
       . rw [decide_eq_false c,hsm]
         simp only [Bool.and_false,Bool.false_eq_true,if_false,if_true]
         rw [hsl]
         dsimp only
         rw [eg']
         dsimp only
         refine wpAny_bind (wpAny_isSame_ref_self ?_)
         refine wpAny_bind (wpAny_pure ?_)
         simp only [if_true]
         exact next c
     . simp only [Bool.not_true,Bool.false_eq_true,if_false]
       rw [eg']
       dsimp only
       refine wpAny_bind (wpAny_holding (wpAny_eqBool_tuple hu e2 hx ?_))
       refine wpAny_bind (wpAny_setState_of ho hd hfit ?_)
       dsimp only
       by_cases c : k' = k
       . rw [decide_eq_true c]
         exact wpAny_pure (tail c)
       . rw [decide_eq_false c,hsm]
         simp only [Bool.and_false,Bool.false_eq_true,if_false,if_true]
         rw [hsl]
         dsimp only
         rw [eg']
         dsimp only
         refine wpAny_bind (wpAny_isSame_ref_self ?_)
         refine wpAny_bind (wpAny_pure ?_)
         simp only [if_true]
         exact next c
   . generalize hP : t.probe _ (tupleKeyHash knd k) (way t.mask (start t.mask (tupleKeyHash knd k)) n) = P
     have eP:=hP.symm.trans e
     rw [eP]
     dsimp only
     refine wpAny_pure (no fun i hi hent=>?_)
     have hi' : i < t.place.size:=by rw [hsz]; exact hi
     obtain ⟨m,p1,p2⟩:=b.path i hi'
     have hh : (es.toList.map (·.1)).getD i 0 = tupleKeyHash knd k:=by
       obtain ⟨_,_,_,e3,_⟩:=hent
       rw [List.getD_eq_getElem?_getD,List.getElem?_map,Array.getElem?_toList,Array.getElem?_eq_getElem hi]
       exact e3
     rw [hh] at p1 p2
     rcases Nat.lt_or_ge m n0 with q | q
     . rcases Nat.lt_or_ge m n with q' | q'
       . exact hno m q' i hi p1.symm hent
       . refine a1 m q' q i hi' p1.symm ?_
         show (es[i]?.map (·.1)).getD 0 = _
         rw [Array.getElem?_eq_getElem hi]
         obtain ⟨_,_,_,e3,_⟩:=hent
         exact e3
     . rcases Nat.eq_or_lt_of_le q with q' | q'
       . subst q'; exact hE ⟨i,hi',p1.symm⟩
       . exact hE (p2 n0 q')
theorem zhS {α : Type} (l : List α) (p : Nat) (x : α) : (zdo l p x).Perm (x :: l):=by
 unfold zdo
 refine List.perm_middle.trans (List.Perm.cons x ?_)
 rw [List.take_append_drop]
theorem zeL {h g : Heap} {k : List K} {a : Addr} (x : IsTupleKey knd h k a) (e : ∀ o,h.get? a = some o -> g.get? a = some o) : IsTupleKey knd g k a:=by
 obtain ⟨o,its,n,h1,r⟩:=x
 exact ⟨o,its,n,e o h1,r⟩
theorem zhU {h g : Heap} {k : List K} {a d : Addr} {o : Obj} {es : Array (Int × Value)} {ep : Nat} {t : SetTable} (x : IsTupleKey knd h k a) (ho : h.get? d = some o) (hd : o.data = .set es ep t) (hs : Heap.SameBut d h g) : IsTupleKey knd g k a:=by
 refine zeL x fun u eu=>(hs.2 a fun ad=>?_).trans eu
 obtain ⟨u',_,_,e1,_,e2,_⟩:=x
 rw [ad,ho] at e1
 cases e1
 rw [hd] at e2
 cases e2
def zbB (knd : KeyKind prog w K) (U : Addr -> List K -> Prop) (h : Heap) (es : List (Int × Value)) (ks : List (List K)) : Prop:=es.length = ks.length /\ ∀ (i : Nat) (e : Int × Value) (k : List K),es[i]? = some e -> ks[i]? = some k -> Ent knd U h e k
def TS (knd : KeyKind prog w K) (U : Addr -> List K -> Prop) (h : Heap) (a : Addr) (led : Bool) (ks : List (List K)) : Prop :=
 ∃ o es ep t,h.get? a = some o /\ o.ExactSet /\ o.data = .set es ep t /\ Tb t (es.toList.map (·.1)) /\ es.size * 5 < t.mask * 3 /\ (t.mask <= 7 \/ t.mask <= 8 * es.size) /\ t.led = led /\ t.plain = true /\ zbB knd U h es.toList ks /\ ks.Nodup
theorem zl7 (hv : ∀ k v,knd.is k v = true -> ∃ i t,v = .int i t) {x : Addr} {k : List K} (hx : IsTupleKey knd s.heap k x) {Q : Bool -> Shared -> Prop} (q : Q true s) : wpAny (model prog w) A (hashByValue 8 (.ref x)) Q E s:=by
 have hT:=hx.typeIs
 obtain ⟨o,items,n,ho,hc,hd,hi⟩:=hx
 have hints : ∀ {ks : List K} {vs : List Value},ItemsAre knd ks vs -> ∀ v ∈ vs,∃ i t,v = .int i t:=fun h=>by
   induction h with
   | nil=>intro v hv; simp at hv
   | cons h1 _ ih =>
     intro v hm
     rcases List.mem_cons.mp hm with rfl | hm
     . exact hv _ _ h1
     . exact ih v hm
 unfold hashByValue
 refine wpAny_bind (wpAny_specialOf hT F.slot_tuple_hash.lookup ?_)
 dsimp only
 refine wpAny_bind (wpAny_seqItems ho hd ?_)
 refine wpAny_bind ?_
 show wpAny _ _ (forIn items _ _) _ _ s
 rw [<- Array.forIn_toList]
 refine wpAny_forIn_list _ (fun rest r s'=>r.1 = none /\ s' = s /\ ∀ v ∈ rest,∃ i t,v = .int i t) _ ?_ ?_ _ _ ⟨rfl,rfl,hints hi⟩
 . rintro v rest r s' ⟨hr,rfl,hall⟩
   obtain ⟨i,t,rfl⟩:=hall v List.mem_cons_self
   show wpAny _ _ (pure true >>= _) _ _ _
   refine wpAny_bind (wpAny_pure ?_)
   simp only [Bool.not_true,Bool.false_eq_true,if_false]
   exact wpAny_pure ⟨rfl,rfl,fun u hu'=>hall u (List.mem_cons_of_mem _ hu')⟩
 . rintro ⟨r1,r2⟩ s' ⟨hr,rfl,_⟩
   simp only at hr
   subst hr
   exact wpAny_pure q
theorem zi3 {α β : Type} (f : α -> β) (l : List α) (p : Nat) (x : α) : (zdo l p x).map f = zdo (l.map f) p (f x):=by
 unfold zdo; rw [List.map_append,List.map_cons,List.map_take,List.map_drop]
theorem znP {α : Type} (d : α) (es : Array α) : ∀ l : List Nat,(∀ i ∈ l,i < es.size) -> l.filterMap (fun i=>es[i]?) = l.map fun i=>es.toList.getD i d
 | [],_=>rfl
 | i :: l,h=>by
   have hi:=h i (List.mem_cons_self ..)
   rw [List.filterMap_cons,Array.getElem?_eq_getElem hi,List.map_cons,znP d es l fun j hj=>h j (List.mem_cons_of_mem _ hj)]
   dsimp only
   rw [List.getD_eq_getElem?_getD,Array.getElem?_toList,Array.getElem?_eq_getElem hi]
   rfl
theorem zfq {α : Type} (d : α) (l : List α) : (List.range l.length).map (fun i=>l.getD i d) = l:=by
 refine List.ext_getElem (by simp) fun i h1 h2=>?_
 rw [List.getElem_map,List.getElem_range,List.getD_eq_getElem?_getD,List.getElem?_eq_getElem h2]
 rfl
theorem zbB.keeps {h h' : Heap} {es : List (Int × Value)} {ks : List (List K)} {d : Addr} {o : Obj} {es0 : Array (Int × Value)} {ep : Nat} {t : SetTable} (x : zbB knd U h es ks) (ho : h.get? d = some o) (hd : o.data = .set es0 ep t) (hs : Heap.SameBut d h h') : zbB knd U h' es ks :=
 ⟨x.1,fun i e k h1 h2=>by obtain ⟨a,e1,e2,e3⟩:=x.2 i e k h1 h2; exact ⟨a,e1,zhU e2 ho hd hs,e3⟩⟩
theorem zbB.ins {h : Heap} {es : List (Int × Value)} {ks : List (List K)} (x : zbB knd U h es ks) {p : Nat} (hp : p <= ks.length) {e : Int × Value} {k : List K} (c : Ent knd U h e k) : zbB knd U h (zdo es p e) (zdo ks p k):=by
 have hp' : p <= es.length:=by rw [x.1]; exact hp
 refine ⟨by rw [zdt e hp',zdt k hp,x.1],fun i e' k' h1 h2=>?_⟩
 rw [zeZ e hp'] at h1
 rw [zeZ k hp] at h2
 split at h1
 . rename_i a; rw [if_pos a] at h2; exact x.2 i e' k' h1 h2
 . rename_i a; rw [if_neg a] at h2
   split at h1
   . rename_i b; rw [if_pos b] at h2
     cases h1; cases h2; exact c
   . rename_i b; rw [if_neg b] at h2; exact x.2 (i - 1) e' k' h1 h2
theorem zbB.ord {h : Heap} {es : List (Int × Value)} {ks : List (List K)} (x : zbB knd U h es ks) {l : List Nat} (hl : ∀ i ∈ l,i < es.length) : zbB knd U h (l.map fun i=>es.getD i (0,.none)) (l.map fun i=>ks.getD i []):=by
 refine ⟨by simp,fun i e' k' h1 h2=>?_⟩
 rw [List.getElem?_map] at h1 h2
 cases hi : l[i]? with
 | none=>rw [hi] at h1; cases h1
 | some j =>
   rw [hi] at h1 h2
   cases h1; cases h2
   have hj : j < es.length:=hl j (List.mem_of_getElem? hi)
   have hj' : j < ks.length:=by rw [<- x.1]; exact hj
   refine x.2 j _ _ ?_ ?_
   . dsimp only; rw [List.getD_eq_getElem?_getD,List.getElem?_eq_getElem hj]; rfl
   . dsimp only; rw [List.getD_eq_getElem?_getD,List.getElem?_eq_getElem hj']; rfl
theorem zf5 {h : Heap} {a : Addr} {o : Obj} {es : Array (Int × Value)} {ep : Nat} {t : SetTable} (ho : h.get? a = some o) (hd : o.data = .set es ep t) (es' : Array (Int × Value)) (t' : SetTable) :
   (h.update a (Obj.putSet es' t')).get? a = some { o with data:=.set es' (ep + 1) t' }:=by
 have:=Heap.get?_update_self (Obj.putSet es' t') ho (by rw [putSet_of es' t' hd]; rfl)
 rw [putSet_of es' t' hd] at this; exact this
theorem zot {a : Addr} {o : Obj} {es : Array (Int × Value)} {ep : Nat} {t : SetTable} {ks : List (List K)} (ho : s.heap.get? a = some o) (hex : o.ExactSet) (hd : o.data = .set es ep t) (b : Tb t (es.toList.map (·.1))) (hpl : t.plain = true)
   (hk : zbB knd U s.heap es.toList ks) (hnd : ks.Nodup) (h1 : 1 <= es.size) (hz : es.size <= 1000) {Q : Unit -> Shared -> Prop} (q : ∀ h' ks',Heap.SameBut a s.heap h' -> TS knd U h' a t.led ks' -> ks'.Perm ks -> Q () { s with heap:=h' }) :
   wpAny (model prog w) A (setRelay a (SetTable.grown es.size)) Q E s:=by
 have hfit : t.fits es.size = true:=by have:=b.fits; rwa [List.length_map,Array.length_toList] at this
 have hg : SetTable.grown es.size = 4 * es.size:=by unfold SetTable.grown; rw [if_neg (by omega),Nat.mul_comm]
 obtain ⟨k2,k3,s1,s2,s3⟩:=zp6 (n:=es.size) h1 (by omega)
 unfold setRelay
 rw [hg]
 refine wpAny_bind (wpAny_setState_of ho hd hfit ?_)
 dsimp only
 rw [if_neg (by rw [sizeLine_eq]; omega)]
 obtain ⟨t2,ord,e2,m2,l2,p2,_,op,b2⟩:=zlm k3 s1 t.finger (t.movedTo (SetTable.sizeAbove (4 * es.size) - 1)) t.led t.plain (hs:=es.map (·.1)) (by rw [Array.size_map]; omega)
 rw [Array.size_map] at op
 have olt : ∀ i ∈ ord.toList,i < es.size:=fun i hi=>List.mem_range.mp (op.mem_iff.mp hi)
 have e2' : t.relaid (es.map (·.1)) (4 * es.size) = some (t2,ord):=e2
 rw [e2']
 have fe : (ord.filterMap (fun i=>es[i]?)).toList = ord.toList.map fun i=>es.toList.getD i (0,.none):=by
   rw [Array.toList_filterMap]; exact znP _ es _ olt
 have fz : (ord.filterMap (fun i=>es[i]?)).size = es.size:=by
   rw [<- Array.length_toList,fe,List.length_map,op.length_eq,List.length_range]
 refine wpAny_bind ?_
 show wpAny _ _ (if ((ord.filterMap (fun i=>es[i]?)).size != es.size) = true then (unsupported "internal:set-table-lost-an-element" >>= fun _=>pure (ord.filterMap (fun i=>es[i]?),t2)) else pure (ord.filterMap (fun i=>es[i]?),t2)) _ _ _
 rw [if_neg (by rw [fz]; simp)]
 refine wpAny_pure ?_
 refine wpAny_storeSet_of ho hd ?_ (by rw [fz,sizeLine_eq]; omega)
 have hsb:=Heap.SameBut.update s.heap a (Obj.putSet (ord.filterMap (fun i=>es[i]?)) t2)
 have hkk : zbB knd U s.heap (ord.filterMap (fun i=>es[i]?)).toList (ord.toList.map fun i=>ks.getD i []):=by rw [fe]; exact hk.ord fun i hi=>by rw [Array.length_toList]; exact olt i hi
 have pm : (ord.toList.map fun i=>ks.getD i []).Perm ks:=by
   have:=op.map (fun i=>ks.getD i [])
   have hl : es.size = ks.length:=by rw [<- Array.length_toList]; exact hk.1
   rw [hl,zfq] at this
   exact this
 refine q _ (ord.toList.map fun i=>ks.getD i []) hsb ⟨_,_,_,t2,zf5 ho hd _ t2,hex,rfl,?_,?_,?_,l2,p2.trans hpl,hkk.keeps ho hd hsb,pm.nodup_iff.mpr hnd⟩ pm
 . rw [fe,List.map_map]
   have : (ord.toList.map ((fun x : Int × Value=>x.1) ∘ fun i=>es.toList.getD i (0,.none))) = ord.toList.map fun k=>(es.map (·.1)).toList.getD k 0:=by
     refine List.map_congr_left fun i hi=>?_
     have:=olt i hi
     show (es.toList.getD i (0,.none)).1 = _
     rw [List.getD_eq_getElem?_getD,List.getD_eq_getElem?_getD,Array.toList_map,List.getElem?_map,Array.getElem?_toList,Array.getElem?_eq_getElem this]
     rfl
   rw [this]; exact b2
 . rw [fz,m2]; omega
 . right; rw [fz,m2]; omega
theorem zrd (hv : ∀ k v,knd.is k v = true -> ∃ i t,v = .int i t) {a xa : Addr} {k : List K} {led : Bool} {ks : List (List K)} (hu : A.units < cLine) (hS : TS knd U s.heap a led ks) (hx : IsTupleKey knd s.heap k xa) (hU : U xa k) (hz : ks.length + 1 <= 1000)
   {Q : Bool -> Shared -> Prop} (q : ∀ h' ks',Heap.SameBut a s.heap h' -> TS knd U h' a led ks' -> (k ∈ ks -> ks' = ks) -> (k ∉ ks -> ks'.Perm (k :: ks)) -> ∀ b,Q b { s with heap:=h' }) :
   wpAny (model prog w) A (setAddHashed a (.ref xa) (tupleKeyHash knd k)) Q E s:=by
 obtain ⟨o,es,ep,t,ho,hex,hd,b,hfew,hmask,hled,hpl,⟨hkl,hke⟩,hnd⟩:=hS
 rw [Array.length_toList] at hkl
 have hfit : t.fits es.size = true:=by have:=b.fits; rwa [List.length_map,Array.length_toList] at this
 have hsz : t.place.size = es.size:=by rw [b.size,List.length_map,Array.length_toList]
 have hent : ∀ i (h : i < es.size),Ent knd U s.heap es[i] (ks[i]'(by omega)):=fun i h=>hke i _ _ (by rw [Array.getElem?_toList,Array.getElem?_eq_getElem h]) (List.getElem?_eq_getElem _)
 unfold setAddHashed setAddHashedIn
 refine wpAny_holding (wpAny_bind (wpAny_setState_of ho hd hfit ?_))
 dsimp only
 rw [show byScan (.ref xa) es = false from rfl]
 simp only [Bool.false_eq_true,if_false]
 obtain ⟨n0,hf0,hE,hF⟩:=b.free (tupleKeyHash knd k)
 have hmm : t.mask <= 8000:=by omega
 refine wpAny_bind (zht hu hx ho hd b (fun i h=>⟨_,hent i h⟩) n0 hE hF hf0 (fun hy=>?yes) (fun hn=>?no) 100000 0 none (Nat.zero_le _) (by unfold SetTable.turns at hf0; omega) rfl (fun m hm=>absurd hm (Nat.not_lt_zero _)))
 case yes =>
   dsimp only
   obtain ⟨i,hi,he⟩:=hy
   have hk : k ∈ ks:=by rw [he.inj (hent i hi)]; exact List.getElem_mem _
   exact wpAny_pure (q s.heap ks (Heap.SameBut.refl a s.heap) ⟨o,es,ep,t,ho,hex,hd,b,hfew,hmask,hled,hpl,⟨by rw [Array.length_toList]; exact hkl,hke⟩,hnd⟩ (fun _=>rfl) (fun h=>absurd hk h) _)
 case no =>
   dsimp only
   have hk : k ∉ ks:=fun hm=>by
     obtain ⟨i,hi,e⟩:=List.getElem_of_mem hm
     exact hn i (by omega) (e ▸ hent i (by omega))
   refine wpAny_bind (wpAny_setState_of ho hd hfit ?_)
   dsimp only
   obtain ⟨k8,k3,kk⟩:=b.two
   have m7 : 7 <= t.mask:=by
     have : 2 ^ 3 <= 2 ^ k8:=Nat.pow_le_pow_right (by decide) k3
     omega
   obtain ⟨hp,tb⟩:=b.put hE hF (by rw [hsz]; omega)
   rw [List.length_map,Array.length_toList,hkl] at hp
   have q1 : (t.put (way t.mask (start t.mask (tupleKeyHash knd k)) n0).j).1.plain = t.plain:=rfl
   have q2 : (t.put (way t.mask (start t.mask (tupleKeyHash knd k)) n0).j).1.led = t.led:=rfl
   have q3 : (t.put (way t.mask (start t.mask (tupleKeyHash knd k)) n0).j).1.mask = t.mask:=rfl
   generalize (t.put (way t.mask (start t.mask (tupleKeyHash knd k)) n0).j).2 = p at *
   generalize (t.put (way t.mask (start t.mask (tupleKeyHash knd k)) n0).j).1 = t1 at *
   rw [if_pos (q1.trans hpl)]
   refine wpAny_bind (zl7 hv hx ?_)
   simp only [if_true]
   have en : Ent knd U s.heap (tupleKeyHash knd k,.ref xa) k:=⟨xa,rfl,hx,rfl,hU⟩
   have hkk : zbB knd U s.heap (SetTable.insertAt es p (tupleKeyHash knd k,.ref xa)).toList (zdo ks p k):=by
     rw [zbn]; exact zbB.ins ⟨by rw [Array.length_toList]; exact hkl,hke⟩ hp en
   have tb' : Tb t1 ((SetTable.insertAt es p (tupleKeyHash knd k,.ref xa)).toList.map (·.1)):=by
     rw [zbn,zi3]; exact tb
   have z1 : (SetTable.insertAt es p (tupleKeyHash knd k,.ref xa)).size = es.size + 1:=by
     rw [<- Array.length_toList,zbn,zdt _ (by rw [Array.length_toList,hkl]; exact hp),Array.length_toList]
   have pm : (zdo ks p k).Perm (k :: ks):=zhS ks p k
   have nd : (zdo ks p k).Nodup:=pm.nodup_iff.mpr (List.nodup_cons.mpr ⟨hk,hnd⟩)
   refine wpAny_bind (wpAny_storeSet_of ho hd ?_ (by rw [z1,sizeLine_eq]; omega))
   have hsb:=Heap.SameBut.update s.heap a (Obj.putSet (SetTable.insertAt es p (tupleKeyHash knd k,.ref xa)) t1)
   have ho1:=zf5 ho hd (SetTable.insertAt es p (tupleKeyHash knd k,.ref xa)) t1
   have pz : t1.fill = es.size + 1:=by
     unfold SetTable.fill
     rw [tb'.dum,tb'.size,List.length_map,Array.length_toList,z1]; rfl
   split
   . refine wpAny_bind ?_
     have:=zot (A:=A) (E:=E) (knd:=knd) (s:={ s with heap:=s.heap.update a (Obj.putSet (SetTable.insertAt es p (tupleKeyHash knd k,.ref xa)) t1) }) (ks:=zdo ks p k) ho1 hex rfl tb' (q1.trans hpl) (hkk.keeps ho hd hsb) nd (by rw [z1]; omega) (by rw [z1]; omega)
       (Q:=fun _ s'=>wpAny (model prog w) A (pure true) Q E s') fun h' ks' sb ts pm'=>wpAny_pure (q h' ks' (hsb.trans sb) (by rw [q2,hled] at ts; exact ts) (fun h=>absurd h hk) (fun _=>pm'.trans pm) _)
     rw [z1] at this
     exact this
   . rename_i c
     have c : ¬ t1.tooFull = true:=by simpa using c
     unfold SetTable.tooFull at c
     rw [pz] at c
     refine wpAny_pure (q _ (zdo ks p k) hsb ⟨_,_,_,t1,ho1,hex,rfl,tb',?_,?_,q2.trans hled,q1.trans hpl,hkk.keeps ho hd hsb,nd⟩ (fun h=>absurd h hk) (fun _=>pm) _)
     . rw [z1]
       have : ¬ t1.mask * 3 <= (es.size + 1) * 5:=by simpa using c
       omega
     . rw [z1,q3]; omega
end
section
variable {prog : Program} {w : World} {K : Type} [DecidableEq K] {knd : KeyKind prog w K} {U : Addr -> List K -> Prop}
theorem TS.same {h g : Heap} {S : Addr} {led : Bool} {ks : List (List K)} (x : TS knd U h S led ks) (e : ∀ o,h.get? S = some o -> g.get? S = some o) (f : ∀ k a,IsTupleKey knd h k a -> IsTupleKey knd g k a) : TS knd U g S led ks:=by
 obtain ⟨o,es,ep,t,c1,c2,c3,c4,c5,c6,c7,c8,⟨d1,d2⟩,c9⟩:=x
 refine ⟨o,es,ep,t,e o c1,c2,c3,c4,c5,c6,c7,c8,⟨d1,fun i y k y1 y2=>?_⟩,c9⟩
 obtain ⟨a,z1,z2,z3⟩:=d2 i y k y1 y2
 exact ⟨a,z1,f k a z2,z3⟩
theorem TS.new {h : Heap} {S : Addr} {led : Bool} (e : h.get? S = some { cls:=.type "set",dict:=none,data:=.set #[] 0 (.fresh 0 0 led) }) : TS knd U h S led [] :=
 ⟨_,#[],0,_,e,⟨rfl,rfl,rfl⟩,rfl,⟨fun i j _ hj=>absurd hj (Nat.not_lt_zero _),rfl,rfl,⟨3,Nat.le_refl _,rfl⟩,fun i hi=>absurd hi (Nat.not_lt_zero _),Nat.zero_le _,fun i hi=>absurd hi (Nat.not_lt_zero _)⟩,(by show 0 * 5 < 7 * 3; decide),.inl (Nat.le_refl _),rfl,rfl,⟨rfl,fun i y k y1=>by simp at y1⟩,List.nodup_nil⟩
variable {A : Around} {R : Result -> Shared -> Prop} {I : Addr} {fp wr : List Addr} {G : Array GenState -> Array GenState -> Prop} {n : Nat} {P : Nat -> Value -> Prop} {St : Nat -> Shared -> Prop}
theorem zrG (hv : ∀ k v,knd.is k v = true -> ∃ i t,v = .int i t) (W : WalksS prog w A.in1 I fp wr G n P St) {S : Addr} (hSf : S ∉ fp) (hu : A.units + 1 < cLine) {led : Bool} {key : Nat -> List K} {ad : Nat -> Addr}
   (hval : ∀ i v,P i v -> v = .ref (ad i)) (hI : ∀ i s a k,St i s -> IsTupleKey knd s.heap k a -> a ∉ wr) (hn : n <= 999) (hU : ∀ j,j < n -> U (ad j) (key j)) :
   ∀ (c i : Nat) (s : Shared) (ks : List (List K)),n - i = c -> i <= n -> St i s -> (∀ j,j < n -> IsTupleKey knd s.heap (key j) (ad j)) -> TS knd U s.heap S led ks -> (∀ x,x ∈ ks ↔ ∃ j,j < i /\ key j = x) -> ks.length <= i ->
     (∀ s' ks',Moved (S :: wr) G s s' -> (∀ k a,IsTupleKey knd s.heap k a -> IsTupleKey knd s'.heap k a) -> TS knd U s'.heap S led ks' -> (∀ x,x ∈ ks' ↔ ∃ j,j < n /\ key j = x) -> R (.ok (.ret .none)) s') ->
     codeAny (model prog w) A (.builtin "set.update.loop" ⟨[.ref S,.ref I],[]⟩) R s:=by
 have nw : S ∉ wr:=fun x=>hSf (W.sub _ x)
 intro c
 induction c with
 | zero =>
   intro i s ks ec ei st ht hs hx hl r
   obtain rfl : i = n:=by omega
   refine codeAny_builtin PyProof.Rows.F.entry_set_update_loop ?_
   rw [Around.under_plainId PyProof.Rows.F.plain_set_update_loop _]
   refine wpAny_bind (m:=pyNext (.ref I)) (W.done s _ _ st fun s' mv=>?_)
   have f : ∀ k a,IsTupleKey knd s.heap k a -> IsTupleKey knd s'.heap k a:=fun k a x=>zeL x fun o eo=>mv.heap a o (hI i s a k st x) eo
   exact wpAny_pure (r s' ks (mv.mono fun _ q=>.tail _ q) f (hs.same (fun o eo=>mv.heap S o nw eo) f) hx)
 | succ c ih =>
   intro i s ks ec ei st ht hs hx hl r
   have lt : i < n:=by omega
   refine codeAny_builtin PyProof.Rows.F.entry_set_update_loop ?_
   rw [Around.under_plainId PyProof.Rows.F.plain_set_update_loop _]
   refine wpAny_bind (m:=pyNext (.ref I)) (W.item i s _ _ lt st fun v s' pv st' mv=>?_)
   obtain rfl:=hval i v pv
   have f : ∀ k a,IsTupleKey knd s.heap k a -> IsTupleKey knd s'.heap k a:=fun k a x=>zeL x fun o eo=>mv.heap a o (hI i s a k st x) eo
   have hs':=hs.same (fun o eo=>mv.heap S o nw eo) f
   refine wpAny_bind (m:=holding [Value.ref (ad i)] (setAdd S (.ref (ad i)))) (wpAny_holding ?_)
   unfold setAdd
   refine wpAny_holding (wpAny_bind (wpAny_pyHash_tuple (by exact hu) (f _ _ (ht i lt)) ?_))
   refine zrd hv (s:={ s' with toks:=s'.toks + ((key i).length + 1) }) (by exact hu) hs' (f _ _ (ht i lt)) (hU i lt) (by omega) fun h2 ks2 sb ts2 y1 y2 b=>?_
   have so:=hs'
   obtain ⟨o9,_,_,_,g1,_,g2,_⟩:=so
   have f2 : ∀ k a,IsTupleKey knd s'.heap k a -> IsTupleKey knd h2 k a:=fun k a x=>zhU x g1 g2 sb
   have zpB : ∀ x,x ∈ ks2 ↔ ∃ j,j < i + 1 /\ key j = x:=fun x=>by
     have old : x ∈ ks2 ↔ x = key i \/ x ∈ ks:=by
       by_cases d : key i ∈ ks
       . rw [y1 d]; exact ⟨.inr,fun q=>q.elim (fun e=>e ▸ d) id⟩
       . rw [(y2 d).mem_iff,List.mem_cons]
     rw [old,hx]
     constructor
     . rintro (rfl | ⟨j,j1,j2⟩)
       . exact ⟨i,by omega,rfl⟩
       . exact ⟨j,by omega,j2⟩
     . rintro ⟨j,j1,j2⟩
       rcases Nat.eq_or_lt_of_le (Nat.le_of_lt_succ j1) with e | e
       . subst e; exact .inl j2.symm
       . exact .inr ⟨j,e,j2⟩
   have len2 : ks2.length <= i + 1:=by
     by_cases d : key i ∈ ks
     . rw [y1 d]; omega
     . rw [(y2 d).length_eq,List.length_cons]; omega
   refine wpAny_pure ⟨plainId_quiet PyProof.Rows.F.plain_set_update_loop _,ih (i + 1) _ ks2 (by omega) lt (W.frame _ s' _ _ st' (Nat.le_add_right _ _) fun z hz o e=>?_) (fun j hj=>f2 _ _ (f _ _ (ht j hj))) ts2 zpB len2 fun s3 ks3 mv3 f3 ts3 m3=>?_⟩
   . rw [sb.2 z (fun q=>hSf (q ▸ hz))]; exact e
   . refine r s3 ks3 (Moved.trans W.gtrans ((mv.mono fun _ q=>.tail _ q).then_heap (Nat.le_add_right _ _) fun z o hz e=>?_) mv3) (fun k a x=>f3 k a (f2 k a (f k a x))) ts3 m3
     rw [sb.2 z (fun q=>hz (q ▸ .head _))]; exact e
end
def zaK (led : Bool) : Obj:={ cls:=.type "set",dict:=none,data:=.set #[] 0 (.fresh 0 0 led) }
def zbf (w : World) : Bool:=!(w.params.followText "set-order")
section
variable {prog : Program} {w : World} {K : Type} [DecidableEq K] {knd : KeyKind prog w K} {U : Addr -> List K -> Prop} {A : Around} {E : Value -> Shared -> Prop} {s : Shared}
theorem zlK (x : Value) {Q : Value -> Shared -> Prop} (q : Q (.ref s.heap.objs.size) { s with heap:=s.heap.push (zaK (zbf w)) }) :
   codeAny (model prog w) A (.call (.builtin "set.__new__") ⟨[.type "set",x],[]⟩) (wants Q E) s:=by
 refine codeAny_of_tree ?_
 refine wpAny_bind (m:=checkBuiltinCall "set.__new__" ⟨[.type "set",x],[]⟩) (wpAny_of_eq (F.newCall_set_1 x) (wpAny_pure ?_))
 refine ⟨plainId_quiet F.plain_set_new _,codeAny_builtin F.entry_set_new ?_⟩
 rw [Around.under_plainId F.plain_set_new _]
 unfold Builtin.«set.__new__» Builtin.Frozenset.newClass
 have sub:=sub_set_self
 obtain ⟨z1,z2,z3,z4,z5⟩:=s
 dsimp only
 wp_walk
 refine wpAny_askSetting (wpAny_pure ?_)
 dsimp only
 simp only [newObj]
 exact wpAny_bind (wpAny_alloc (wpAny_pure (wpAny_pure q)))
set_option maxHeartbeats 3200000 in
theorem call_setT (hv : ∀ k v,knd.is k v = true -> ∃ i t,v = .int i t) {l : Addr} {its : List Value} {key : Nat -> List K} {ad : Nat -> Addr} (hh : A.handled = none) (hu : A.units + 64 < cLine) (hl : s.heap.IsList l its.toArray)
   (hi : ∀ (i : Nat) v,its[i]? = some v -> v = .ref (ad i)) (hk : ∀ i,i < its.length -> IsTupleKey knd s.heap (key i) (ad i)) (hn : its.length <= 999) (hU : ∀ j,j < its.length -> U (ad j) (key j)) {Q : Value -> Shared -> Prop}
   (q : ∀ (g : Heap) (tk : Nat) (ks : List (List K)),TS knd U g s.heap.objs.size (zbf w) ks -> (∀ x,x ∈ ks ↔ ∃ j,j < its.length /\ key j = x) -> (∀ b o,s.heap.get? b = some o -> g.get? b = some o) -> Q (.ref s.heap.objs.size) { s with heap:=g,toks:=tk }) :
   wpAny (model prog w) A (call (.type "set") [.ref l]) Q E s:=by
 obtain ⟨c1,c2,mro⟩:=F.called_set.mro
 have f1:=F.called_set.made
 have f2:=F.called_set.sub
 have f3:=F.called_set.notType
 have f4:=F.called_set.canCreate
 have f5:=F.typeCall_set_1 (.ref l)
 refine wpAny_call (codeAny_of_tree (show wpAny _ _ (callAny (.type "set") _) _ _ _ from ?_))
 refine wpAny_pure ⟨Code.quiet_builtin _ (by decide +kernel),codeAny_builtin F.entry_type_call ?_⟩
 rw [Around.under_plain (weight_type_call_type "set" [.ref l] []) rfl]
 repeat (any_goals (first | assumption | wp_step))
 have nd:=zlK (prog:=prog) (w:=w) (A:=A.in1) (E:=E) (s:=s) (.ref l) (Q:=fun v s1=>v = .ref s.heap.objs.size /\ s1 = { s with heap:=s.heap.push (zaK (zbf w)) }) ⟨rfl,rfl⟩
 refine codeAny_mono nd fun r s1 hr=>?_
 cases r with
 | error e=>exact hr
 | ok fl =>
   cases fl with
   | ret obj =>
     obtain ⟨rfl,rfl⟩:=hr
     have gS : (s.heap.push (zaK (zbf w))).get? s.heap.objs.size = some (zaK (zbf w)):=Heap.get?_push_size _ rfl
     have tS : Shared.TypeIs { s with heap:=s.heap.push (zaK (zbf w)) } (.ref s.heap.objs.size) "set":=⟨_,gS,rfl⟩
     have g1:=F.called_set.init.lookup
     have g2:=F.called_set.init.bind (.ref s.heap.objs.size)
     repeat (any_goals (first | assumption | wp_step))
     refine codeAny_mono (codeAny_call_builtin (R:=wants (fun v s2=>v = .none /\ ∃ g tk ks,s2 = { s with heap:=g,toks:=tk } /\ TS knd U g s.heap.objs.size (zbf w) ks /\ (∀ x,x ∈ ks ↔ ∃ j,j < its.length /\ key j = x) /\ ∀ b o,s.heap.get? b = some o -> g.get? b = some o) E)
       F.called_set.init.plain F.entry_set_init (check_set_init_1 tS ?_)) fun r2 s2 hr2=>?_
     . obtain ⟨ol,e1,e2,nl,e3⟩:=hl
       obtain ⟨y1,y2,y3,y4⟩:=ol
       dsimp only at e2 e3
       subst e2
       subst e3
       have gl : (s.heap.push (zaK (zbf w))).get? l = some { cls:=.type "list",dict:=y2,data:=.seq its.toArray nl,slots:=y4 }:=Heap.get?_push_of_some _ e1
       have n1:=F.sub_list_set
       have n2:=F.sub_list_frozenset
       have n3 : (Value.type "list" == Value.type "dict") = false:=by decide
       have il : (s.heap.push (zaK (zbf w))).IsList l its.toArray:=⟨_,gl,rfl,nl,rfl⟩
       unfold Builtin.«set.__init__» noKeywords Builtin.Frozenset.updateFrom
       generalize hPI : pyIter = PI
       wp_walk
       subst hPI
       refine wpAny_pyIter_list il ?_
       refine wpAny_bind (wpAny_runValue ?_)
       have ls : l < s.heap.objs.size:=Heap.lt_size e1
       have zs : (s.heap.push (zaK (zbf w))).objs.size = s.heap.objs.size + 1:=Heap.size_push ..
       have ne : l ≠ (s.heap.push (zaK (zbf w))).objs.size:=by rw [zs]; exact Nat.ne_of_lt (Nat.lt_succ_of_lt ls)
       have nf : s.heap.objs.size ∉ [(s.heap.push (zaK (zbf w))).objs.size,l]:=by
         rw [zs]
         intro hm
         rcases List.mem_cons.mp hm with e | hm
         . exact absurd e (Nat.ne_of_lt (Nat.lt_succ_self _))
         . rcases List.mem_cons.mp hm with e | hm
           . exact absurd e (Nat.ne_of_gt ls)
           . cases hm
       have kp : ∀ b o,s.heap.get? b = some o -> ((s.heap.push (zaK (zbf w))).push { cls:=.type "list_iterator",data:=.fields #[.ref l,.int 0 0] }).get? b = some o:=fun b o e=>Heap.get?_push_of_some _ (Heap.get?_push_of_some _ e)
       refine zrG hv ((Walks.list (by simp [hh]) _ l ne its.toArray).toS) (S:=s.heap.objs.size) nf (by show A.units + 1 + 1 + 1 < _; omega) (led:=zbf w) (key:=key) (ad:=ad)
         (fun i v hp=>hi i v (by simpa using hp)) ?hI (by simpa using hn) (fun j hj=>hU j (by simpa using hj)) (its.toArray.size - 0) 0 _ [] rfl (Nat.zero_le _) ⟨⟨_,Heap.get?_push_size _ rfl,rfl,rfl⟩,il.push _⟩
         (fun j hj=>zeL (hk j (by simpa using hj)) fun o eo=>kp _ o eo) (TS.new (Heap.get?_push_of_some _ gS)) (fun x=>⟨fun h=>absurd h List.not_mem_nil,fun ⟨j,j1,_⟩=>absurd j1 (Nat.not_lt_zero _)⟩) (Nat.le_refl _) ?fin
       case hI =>
         intro i s9 a9 k9 st9 x9 hm
         obtain ⟨⟨o8,u1,u2,_⟩,_⟩:=st9
         obtain ⟨o9,_,_,v1,v2,_⟩:=x9
         rcases List.mem_cons.mp hm with e | hm
         . subst e
           rw [u1] at v1
           cases v1
           rw [u2] at v2
           exact absurd (Value.type.inj v2) (by decide)
         . cases hm
       case fin =>
         intro s9 ks9 mv f9 ts9 m9
         obtain ⟨g,x1,x2,x3,x4⟩:=s9
         obtain rfl : x1 = s.gens:=mv.gens
         obtain rfl : x2 = s.drawn:=mv.drawn
         obtain rfl : x4 = s.os:=mv.os
         refine wpAny_pure (wpAny_pure ⟨rfl,g,x3,ks9,rfl,ts9,by simpa using m9,fun b o e=>?_⟩)
         have lb : b < s.heap.objs.size:=Heap.lt_size e
         refine mv.heap b o (fun hm=>?_) (kp b o e)
         rcases List.mem_cons.mp hm with e' | hm
         . exact absurd e' (Nat.ne_of_lt lb)
         . rcases List.mem_cons.mp hm with e' | hm
           . rw [zs] at e'; exact absurd e' (Nat.ne_of_lt (Nat.lt_succ_of_lt lb))
           . cases hm
     . cases r2 with
       | error e=>exact hr2
       | ok fl2 =>
         cases fl2 with
         | ret v =>
           obtain ⟨rfl,g,tk,ks,rfl,a1,a2,a3⟩:=hr2
           repeat (any_goals (first | assumption | wp_step))
           exact q g tk ks a1 a2 a3
         | _=>exact hr2.elim
   | _=>exact hr.elim
end
end TB
set_option Elab.async false
set_option linter.all false
set_option maxRecDepth 100000
namespace TB
open PySem PySem.W PyProof.Rows
inductive zd2 {α : Type} (n : Nat) (φ : α -> Prop) : KasT α -> Prop
 | ret {a : α} : φ a -> zd2 n φ (.ret a)
 | ask {i j : Nat} {k : Bool -> KasT α} : i < n -> j < n -> (∀ b,zd2 n φ (k b)) -> zd2 n φ (.ask i j k)
theorem zd2.bind {α β : Type} {n : Nat} {φ : α -> Prop} {ψ : β -> Prop} {t : KasT α} {f : α -> KasT β} (h : zd2 n φ t) (hf : ∀ a,φ a -> zd2 n ψ (f a)) : zd2 n ψ (t.bind f):=by
 induction h with
 | ret h=>exact hf _ h
 | ask h1 h2 _ ih=>exact .ask h1 h2 ih
def Pm (n : Nat) (p : Array Nat) : Prop:=p.toList.Perm (List.range n)
theorem Pm.get {n : Nat} {p : Array Nat} (h : Pm n p) (h1 : 1 <= n) (i : Nat) : p.getD i 0 < n:=by
 rw [Array.getD_eq_getD_getElem?,<- Array.getElem?_toList]
 cases e : p.toList[i]? with
 | none=>exact h1
 | some x=>exact List.mem_range.mp (h.mem_iff.mp (List.mem_of_getElem? e))
theorem Pm.rev {n : Nat} {p : Array Nat} (h : Pm n p) (i j : Nat) : Pm n (kas_rev p i j):=(Array.perm_iff_toList_perm.mp (mirror_perm p i j _)).trans h
theorem Pm.bub {n : Nat} {p : Array Nat} (h : Pm n p) (i j : Nat) : Pm n (bubble p i j):=(Array.perm_iff_toList_perm.mp (bubble_perm p i j)).trans h
section
variable {n : Nat} (h1 : 1 <= n)
include h1
theorem zf9 {p : Array Nat} (h : Pm n p) : ∀ f m,zd2 n (fun _=>True) (kas_asc p f m)
 | 0,_=>.ret trivial
 | f + 1,m=>.ask (h.get h1 _) (h.get h1 _) fun b=>by
   split
   . exact .ret trivial
   . exact zf9 h f (m + 1)
theorem zd9 : ∀ f (p : Array Nat) m q,Pm n p -> zd2 n (fun r=>Pm n r.1) (kas_desc f p m q)
 | 0,_,_,_,h=>.ret h
 | f + 1,p,m,q,h=>.ask (h.get h1 _) (h.get h1 _) fun b=>by
   split
   . split
     . exact zd9 f _ _ _ (h.rev _ _)
     . exact zd9 f _ _ _ h
   . refine .ask (h.get h1 _) (h.get h1 _) fun c=>?_
     split
     . exact .ret h
     . exact zd9 f _ _ _ h
theorem zh1 {p : Array Nat} (h : Pm n p) (m r : Nat) : zd2 n (fun x=>Pm n x.2) (kas_tail3 m r p):=(zf9 h1 (h.rev 0 m) _ _).bind fun _ _=>.ret (h.rev 0 m)
theorem zhy {p : Array Nat} (h : Pm n p) (m r : Nat) : zd2 n (fun x=>Pm n x.2) (kas_descPart m r p):=(zd9 h1 _ _ _ _ h).bind fun x hx=>by
 split
 . exact zh1 h1 (hx.rev _ _) _ _
 . exact zh1 h1 hx _ _
theorem zke {p : Array Nat} (h : Pm n p) (r : Nat) : zd2 n (fun x=>Pm n x.2) (kas_count r p):=(zf9 h1 h _ _).bind fun m _=>by
 split
 . exact .ret h
 . split
   . refine .ask (h.get h1 _) (h.get h1 _) fun b=>?_
     split
     . exact .ret h
     . exact zhy h1 (h.rev _ _) _ _
   . exact zhy h1 h _ _
theorem zer {p : Array Nat} (h : Pm n p) (k : Nat) : ∀ f l r,zd2 n (fun _=>True) (kas_place p k f l r)
 | 0,_,_=>.ret trivial
 | f + 1,l,r=>by
   unfold kas_place
   split
   . exact .ret trivial
   . refine .ask (h.get h1 _) (h.get h1 _) fun b=>?_
     split
     . exact zer h k f _ _
     . exact zer h k f _ _
theorem zjZ : ∀ f (p : Array Nat) k,Pm n p -> zd2 n (Pm n) (kas_bin f p k)
 | 0,_,_,h=>.ret h
 | f + 1,p,k,h=>(zer h1 h k _ _ _).bind fun l _=>zjZ f _ _ (h.bub _ _)
theorem zl8 : zd2 n (Pm n) (kas_sort n):=(zke h1 (p:=(List.range n).toArray) (by unfold Pm; simp) n).bind fun x hx=>by
 split
 . exact zjZ h1 _ _ _ hx
 . exact .ret hx
end
theorem zd2.wp {α : Type} {n : Nat} {φ : α -> Prop} {t : KasT α} (h : zd2 n φ t) {cmp : Nat -> Nat -> (Bool -> Shared -> Prop) -> Shared -> Prop} {s : Shared} (hc : ∀ i j C,i < n -> j < n -> (∀ b,C b s) -> cmp i j C s) {Q : α -> Shared -> Prop} (q : ∀ a,φ a -> Q a s) : t.kasWp cmp Q s:=by
 induction h with
 | ret h=>exact q _ h
 | ask h1 h2 _ ih=>exact hc _ _ _ h1 h2 fun b=>ih b
section
variable {prog : Program} {w : World} {A : Around} {E : Value -> Shared -> Prop} {s : Shared}
def Tw (h : Heap) (v : Value) : Prop:=∃ a o its n x t ys,v = .ref a /\ h.get? a = some o /\ o.cls = .type "tuple" /\ o.data = .seq its n /\ its.toList = .int x t :: ys /\ ∀ y ∈ ys,∃ i u,y = .int i u
theorem zlA {b fin : Bool} {Q : Bool -> Shared -> Prop} (q : ∀ c,Q c s) : ∀ (l : List (Value × Value)) i,(∀ p ∈ l,∃ x t y u,p = (.int x t,.int y u)) -> KatLex prog w A b fin Q l i s
 | [],_,_=>q _
 | p :: l,i,h=>by
   obtain ⟨x,t,y,u,rfl⟩:=h p (.head _)
   refine kat_cons (wpAny_eqBool_int ?_)
   refine kat_go (fun _=>kat_yes (zlA q l (i + 1) fun p hp=>h p (.tail _ hp))) fun _=>kat_no ?_
   cases b && i == 0
   . exact kat_one _ _ (wpAny_lt_int (q _))
   . exact oneLt_int (q _)
theorem zlq : ∀ (xs ys : List Value),(∀ v ∈ xs,∃ i t,v = .int i t) -> (∀ v ∈ ys,∃ i t,v = .int i t) -> ∀ p ∈ xs.zip ys,∃ x t y u,p = (.int x t,.int y u)
 | [],_,_,_,p,h=>by simp at h
 | _ :: _,[],_,_,p,h=>by simp at h
 | x :: xs,y :: ys,hx,hy,p,h=>by
   rw [List.zip_cons_cons] at h
   rcases List.mem_cons.mp h with e | h
   . obtain ⟨i,t,rfl⟩:=hx x (.head _)
     obtain ⟨j,u,rfl⟩:=hy y (.head _)
     exact ⟨i,t,j,u,e⟩
   . exact zlq xs ys (fun v hv=>hx v (.tail _ hv)) (fun v hv=>hy v (.tail _ hv)) p h
theorem Tw.ints {h : Heap} {v : Value} (x : Tw h v) : ∃ a o its n,v = .ref a /\ h.get? a = some o /\ o.cls = .type "tuple" /\ o.data = .seq its n /\ (∃ i t,its[0]? = some (.int i t)) /\ ∀ y ∈ its.toList,∃ i u,y = .int i u:=by
 obtain ⟨a,o,its,n,i,t,ys,h1,h2,h3,h4,h5,h6⟩:=x
 refine ⟨a,o,its,n,h1,h2,h3,h4,⟨i,t,?_⟩,fun y hy=>?_⟩
 . rw [<- Array.getElem?_toList,h5]; rfl
 . rw [h5] at hy
   rcases List.mem_cons.mp hy with e | hy
   . exact ⟨i,t,e⟩
   . exact h6 y hy
theorem zla {h : Heap} : ∀ (vs : List Value),(∀ v ∈ vs,Tw h v) -> ∃ fs,KatTups h vs fs /\ fs.length = vs.length /\ ∀ f ∈ fs,∃ i t,f = .int i t
 | [],_=>⟨[],.nil,rfl,fun f hf=>by simp at hf⟩
 | v :: vs,hv=>by
   obtain ⟨fs,h1,h2,h3⟩:=zla vs fun u hu=>hv u (.tail _ hu)
   obtain ⟨a,o,its,n,rfl,e1,e2,e3,⟨i,t,e4⟩,_⟩:=(hv v (.head _)).ints
   refine ⟨.int i t :: fs,.cons e1 e2 e3 e4 h1,by simp [h2],fun f hf=>?_⟩
   rcases List.mem_cons.mp hf with e | hf
   . exact ⟨i,t,e⟩
   . exact h3 f hf
theorem Tw.grow {h g : Heap} {v : Value} (x : Tw h v) (e : ∀ b o,o.cls = .type "tuple" -> h.get? b = some o -> g.get? b = some o) : Tw g v:=by
 obtain ⟨a,o,its,n,i,t,ys,h1,h2,h3,r⟩:=x
 exact ⟨a,o,its,n,i,t,ys,h1,e a o h3 h2,h3,r⟩
theorem zox {a : Addr} {vs : List Value} {n : Nat} {P : PySem.Fin -> Shared -> Prop} (ho : s.heap.get? a = some (seqObj "list" vs.toArray n)) (h2 : 2 <= vs.length) (h64 : vs.length < 64) (ht : ∀ v ∈ vs,Tw s.heap v)
   (q : ∀ (g : Heap) (p : Array Nat) (c : Nat),Pm vs.length p -> g.get? a = some (seqObj "list" (List.toArray (p.toList.map fun i=>vs.getD i Value.none)) c) -> (∀ b o,b ≠ a -> s.heap.get? b = some o -> g.get? b = some o) -> P (.done (.ret .none)) { s with heap:=g }) :
   wpAny (model prog w) A (Builtin.«list.sort» ⟨[.ref a],[]⟩) P E s:=by
 have al : a < s.heap.objs.size:=Heap.lt_size ho
 have sb:=Heap.SameBut.update s.heap a (Obj.mapSeq fun _=>(#[] : Array Value))
 obtain ⟨e1,ho1⟩ : ∃ e1,(s.heap.update a (Obj.mapSeq fun _=>(#[] : Array Value))).get? a = some (seqObj "list" #[] e1):=⟨_,get?_update_seq ho fun _=>#[]⟩
 have kp : ∀ b o,b ≠ a -> s.heap.get? b = some o -> (((s.heap.update a (Obj.mapSeq fun _=>(#[] : Array Value))).push (seqObj "tuple" vs.toArray 0)).push (seqObj "list" #[] 0)).get? b = some o:=fun b o hb e =>
   Heap.get?_push_of_some _ (Heap.get?_push_of_some _ ((sb.2 b hb).trans e))
 have ho3 : (((s.heap.update a (Obj.mapSeq fun _=>(#[] : Array Value))).push (seqObj "tuple" vs.toArray 0)).push (seqObj "list" #[] 0)).get? a = some (seqObj "list" #[] e1):=Heap.get?_push_of_some _ (Heap.get?_push_of_some _ ho1)
 have kt : ∀ b o,o.cls = .type "tuple" -> s.heap.get? b = some o -> (((s.heap.update a (Obj.mapSeq fun _=>(#[] : Array Value))).push (seqObj "tuple" vs.toArray 0)).push (seqObj "list" #[] 0)).get? b = some o:=fun b o hc e=>by
   refine kp b o (fun z=>?_) e
   subst z
   rw [ho] at e
   cases e
   exact absurd (Value.type.inj hc) (by decide)
 have ht3 : ∀ v ∈ vs,Tw (((s.heap.update a (Obj.mapSeq fun _=>(#[] : Array Value))).push (seqObj "tuple" vs.toArray 0)).push (seqObj "list" #[] 0)) v:=fun v hv=>(ht v hv).grow kt
 have nz : ¬ vs.toArray.size < 2:=by rw [List.size_toArray]; omega
 rw [list_sort_plain]
 refine wpAny_bind (listItems_at ho rfl ?_)
 refine wpAny_bind (listUpdate_at ho rfl ?_ (by rw [List.size_toArray,sizeLine_eq]; omega) (Nat.zero_le _))
 refine wpAny_bind (seqEpoch_at ho1 rfl ?_)
 refine wpAny_bind (wpAny_newTuple ?_ (by show vs.length <= _; rw [sizeLine_eq]; omega))
 refine wpAny_bind (wpAny_newList ?_ (Nat.zero_le _))
 refine wpAny_holding ?_
 show wpAny (model prog w) A _ P E { s with heap:=((s.heap.update a (Obj.mapSeq fun _=>(#[] : Array Value))).push (seqObj "tuple" vs.toArray 0)).push (seqObj "list" #[] 0) }
 dsimp only
 rw [if_neg nz,if_neg nz]
 generalize ((s.heap.update a (Obj.mapSeq fun _=>(#[] : Array Value))).push (seqObj "tuple" vs.toArray 0)).push (seqObj "list" #[] 0) = g at *
 obtain ⟨fs,f1,f2,f3⟩:=zla vs ht3
 refine wpAny_bind (kat_kind (s:={ s with heap:=g }) (T:=.type "int") f1 (by omega) (fun v hv=>?_) (by decide) ?_)
 . obtain ⟨i,t,rfl⟩:=f3 v hv
   exact .now
 . refine wpAny_bind (wpAny_mono (kat_run (s:={ s with heap:=g }) (Q:=fun st' s'=>∃ p : Array Nat,s' = { s with heap:=g } /\ Pm vs.length p /\ arrOf st' = p.map (kas_item (vs.toArray.zip vs.toArray)) /\ failedOf st' = none)
     rfl h2 h64 (fun p st' s' a1 a2 a3 a4=>⟨p,a4.1,a4.2,a2,a3⟩) (G:=fun p s'=>s' = { s with heap:=g } /\ Pm vs.length p) ?_) ?_ fun _ _ e=>e)
   . refine (zl8 (n:=vs.length) (by omega)).wp (fun i j C hi hj hc=>?_) fun p hp=>⟨rfl,hp⟩
     have gi : vs.getD i Value.none ∈ vs:=by rw [List.getD_eq_getElem?_getD,List.getElem?_eq_getElem hi]; exact List.getElem_mem hi
     have gj : vs.getD j Value.none ∈ vs:=by rw [List.getD_eq_getElem?_getD,List.getElem?_eq_getElem hj]; exact List.getElem_mem hj
     obtain ⟨x,ox,xs,nx,x1,x2,_,x3,_,x4⟩:=(ht3 _ gi).ints
     obtain ⟨y,oy,ys,ny,y1,y2,_,y3,_,y4⟩:=(ht3 _ gj).ints
     unfold kas_ask
     rw [x1,y1]
     exact kat_lt (s:={ s with heap:=g }) x2 x3 y2 y3 (zlA hc _ _ (zlq _ _ x4 y4))
   . rintro ⟨⟨⟩,st'⟩ s' ⟨p,rfl,hp,har,hf⟩
     dsimp only
     have ps : p.size = vs.length:=by rw [<- Array.length_toList,hp.length_eq,List.length_range]
     rw [kat_snds rfl har]
     refine wpAny_bind (seqEpoch_at (s:={ s with heap:=g }) ho3 rfl ?_)
     refine wpAny_bind (listUpdate_at (s:={ s with heap:=g }) ho3 rfl ?_ (Nat.zero_le _) (by rw [List.size_toArray,List.length_map,Array.length_toList,ps,sizeLine_eq]; omega))
     rw [hf]
     simp only [bne_self_eq_false,Bool.false_eq_true,if_false]
     have sb2:=Heap.SameBut.update g a (Obj.mapSeq fun _=>List.toArray (p.toList.map fun i=>vs.getD i Value.none))
     refine wpAny_pure (q _ p _ hp (get?_update_seq ho3 fun _=>List.toArray (p.toList.map fun i=>vs.getD i Value.none)) fun b o hb e=>(sb2.2 b hb).trans (kp b o hb e))
end
end TB
set_option Elab.async false
set_option linter.all false
set_option maxRecDepth 100000
namespace TB
open PySem PySem.W PyProof.Rows
theorem List.getElem_cons_eraseIdx_perm' {α : Type} : ∀ (l : List α) {i : Nat} (h : i < l.length),(l[i] :: l.eraseIdx i).Perm l
 | [],i,h=>absurd h (Nat.not_lt_zero _)
 | x :: l,0,h=>.refl _
 | x :: l,i + 1,h=>by
   rw [List.eraseIdx_cons_succ,List.getElem_cons_succ]
   exact (List.Perm.swap _ _ _).trans ((List.getElem_cons_eraseIdx_perm' l (Nat.lt_of_succ_lt_succ h)).cons x)
theorem zlh {α : Type} (next : Nat -> Nat) : ∀ (f k : Nat) (left : List α) (out : Array α),f = left.length -> (pickOrder.go next f k left out).toList.Perm (out.toList ++ left)
 | 0,_,left,out,h=>by
   have : left = []:=List.eq_nil_of_length_eq_zero h.symm
   subst this; simp [pickOrder.go]
 | f + 1,k,left,out,h=>by
   have hl : next k % left.length < left.length:=Nat.mod_lt _ (by omega)
   unfold pickOrder.go
   rw [List.getElem?_eq_getElem hl]
   dsimp only
   refine (zlh next f (k + 1) _ _ (by rw [List.length_eraseIdx_of_lt hl]; omega)).trans ?_
   rw [Array.toList_push,List.append_assoc]
   refine List.Perm.append_left _ ?_
   show ([left[next k % left.length]] ++ _).Perm _
   exact List.getElem_cons_eraseIdx_perm' left hl
theorem zmG {α : Type} (next : Nat -> Nat) (xs : Array α) : (pickOrder next xs).toList.Perm xs.toList:=by
 have:=zlh next xs.size 0 xs.toList #[] (by simp)
 simpa [pickOrder] using this
def zc3 (w : World) (a : Addr) (ep : Nat) (es : Array (Int × Value)) : Array (Int × Value):=if w.params.followText "set-order" then pickOrder (w.params.setOrder a ep) es else es
theorem zjx (w : World) (a : Addr) (ep : Nat) (es : Array (Int × Value)) : (zc3 w a ep es).toList.Perm es.toList:=by
 unfold zc3; split
 . exact zmG _ _
 . exact .refl _
theorem zgT (w : World) (a : Addr) (ep : Nat) (es : Array (Int × Value)) : (zc3 w a ep es).size = es.size:=by
 have:=(zjx w a ep es).length_eq
 simpa using this
def zcS (w : World) (t : SetTable) (i : Nat) : Nat:=if w.params.followText "set-order" then 0 else if i = 0 then 0 else t.place.getD (i - 1) 0 + 1
theorem zom {xs : Array Nat} (R : Ris xs) {i : Nat} (hi : i <= xs.size) : SetTable.below xs (if i = 0 then 0 else xs.getD (i - 1) 0 + 1) = i:=by
 obtain ⟨h1,h2,h3⟩:=zex R (if i = 0 then 0 else xs.getD (i - 1) 0 + 1)
 generalize SetTable.below xs (if i = 0 then 0 else xs.getD (i - 1) 0 + 1) = b at *
 rcases Nat.lt_trichotomy b i with h | h | h
 . have a1:=h3 b (Nat.le_refl _) (by omega)
   rw [if_neg (by omega)] at a1
   rcases Nat.lt_or_ge b (i - 1) with q | q
   . have:=R b (i - 1) q (by omega)
     omega
   . have : b = i - 1:=by omega
     subst this
     omega
 . exact h
 . have a1:=h2 i h
   split at a1
   . exact absurd a1 (Nat.not_lt_zero _)
   . have:=R (i - 1) i (by omega) (by omega)
     omega
structure SetFix (w : World) (h : Heap) (a : Addr) (es : Array (Int × Value)) (ep : Nat) (t : SetTable) : Prop where
 at' : ∃ o,h.get? a = some o /\ o.ExactSet /\ o.data = .set es ep t
 fits : t.fits es.size = true
 size : t.place.size = es.size
 ris : Ris t.place
 plain : t.plain = true
 led : t.led = zbf w
 few : es.size <= 4000
theorem SetFix.same {w : World} {h g : Heap} {a : Addr} {es : Array (Int × Value)} {ep : Nat} {t : SetTable} (x : SetFix w h a es ep t) (e : ∀ o,h.get? a = some o -> g.get? a = some o) : SetFix w g a es ep t :=
 ⟨let ⟨o,h1,r⟩:=x.at'; ⟨o,e o h1,r⟩,x.fits,x.size,x.ris,x.plain,x.led,x.few⟩
section
variable {prog : Program} {w : World} {A : Around} {E : Value -> Shared -> Prop} {s : Shared} {a : Addr} {es : Array (Int × Value)} {ep : Nat} {t : SetTable}
theorem SetFix.type (x : SetFix w s.heap a es ep t) : s.TypeIs (.ref a) "set":=let ⟨o,h1,h2,_⟩:=x.at'; ⟨o,h1,h2.1⟩
theorem zgW (x : SetFix w s.heap a es ep t) {i : Nat} (hi : i <= es.size) {Q : Option (Value × Nat) -> Shared -> Prop} (q : Q (((zc3 w a ep es)[i]?).map fun e=>(e.2,zcS w t (i + 1))) s) :
   wpAny (model prog w) A (setNext a (zcS w t i) i ep) Q E s:=by
 obtain ⟨o,h1,h2,h3⟩:=x.at'
 unfold setNext
 refine wpAny_bind (wpAny_setState_of h1 h3 x.fits ?_)
 dsimp only
 refine wpAny_bind ?_
 unfold setsByText
 refine wpAny_bind (wpAny_askSetting (wpAny_pure ?_))
 dsimp only
 unfold zc3 zcS at q
 by_cases hf : w.params.followText "set-order" = true
 . have hf' : (model prog w).w.params.followText "set-order" = true:=hf
   rw [if_pos hf] at q
   rw [if_pos hf']
   simp only [bne_self_eq_false,Bool.false_eq_true,if_false]
   refine wpAny_bind ?_
   unfold setWalk
   refine wpAny_bind (wpAny_setState_of h1 h3 x.fits ?_)
   dsimp only
   refine wpAny_bind ?_
   unfold setsByText
   refine wpAny_bind (wpAny_askSetting (wpAny_pure ?_))
   dsimp only
   rw [if_pos hf']
   refine wpAny_bind (wpAny_askSetting (wpAny_pure ?_))
   rw [if_pos hf] at q
   refine wpAny_pure ?_
   unfold zcS
   rw [if_pos hf]
   exact q
 . have hf' : ¬ (model prog w).w.params.followText "set-order" = true:=hf
   rw [if_neg hf] at q
   rw [if_neg hf']
   rw [if_neg hf] at q
   show wpAny _ _ (if (!t.plain && decide (es.size > 1)) = true then _ else _) _ _ _
   rw [x.plain]
   simp only [Bool.not_true,Bool.false_and,Bool.false_eq_true,if_false]
   have hl : t.led = true:=by rw [x.led]; unfold zbf; cases e : w.params.followText "set-order" with | true=>exact absurd e hf | false=>rfl
   refine wpAny_bind ?_
   show wpAny _ _ (if (!t.led && !es.isEmpty) = true then unsupported "set:maker-not-led" else pure ()) _ _ _
   rw [hl]
   simp only [Bool.not_true,Bool.false_and,Bool.false_eq_true,if_false]
   refine wpAny_pure (wpAny_pure ?_)
   unfold zcS
   rw [if_neg hf,zom x.ris (by rw [x.size]; exact hi)]
   rcases Nat.lt_or_ge i es.size with hl | hl
   . have hp : i < t.place.size:=by rw [x.size]; exact hl
     rw [Array.getElem?_eq_getElem hl] at q ⊢
     rw [zrF hp]
     dsimp only
     simp only [Option.map_some,Nat.add_one_ne_zero,if_false,Nat.add_sub_cancel] at q
     exact q
   . rw [Array.getElem?_eq_none hl] at q ⊢
     exact q
end
theorem zbI : Slot "set_iterator" "__next__" "set_iterator.__next__" :=
 .of (owner:="set_iterator") (n:="__next__") (by rw [typeLookup_type,builtinLookup_eq_fast]; kernel_rfl) (by decide +kernel) (by decide +kernel) (by decide +kernel)
   (by first | exact .inl (by decide +kernel) | exact .inr (by decide +kernel)) (by rw [isSubtype_type]; kernel_rfl)
theorem zee : entryFor table "set_iterator.__next__" = some Builtin.«set_iterator.__next__»:=entryFor_of_tree (by kernel_rfl)
theorem zjQ : Manifest.owners.lookup (String.ofList ['r','o','t','a','r','e','t','i','_','t','e','s'].reverse) = some Manifest.sig_set_iterator:=by kernel_rfl
theorem zeM (a : Value) : argsOk "set_iterator.__next__" ⟨[a],[]⟩:=by
 unfold argsOk; rw [signature?_of (id:="set_iterator.__next__") (n:=['_','_','t','x','e','n','_','_']) (o:=['r','o','t','a','r','e','t','i','_','t','e','s']) (by kernel_rfl) zjQ]; kernel_rfl
theorem zeB : Slot "set_iterator" "__iter__" "set_iterator.__iter__" :=
 .of (owner:="set_iterator") (n:="__iter__") (by rw [typeLookup_type,builtinLookup_eq_fast]; kernel_rfl) (by decide +kernel) (by decide +kernel) (by decide +kernel)
   (by first | exact .inl (by decide +kernel) | exact .inr (by decide +kernel)) (by rw [isSubtype_type]; kernel_rfl)
theorem zhd : entryFor table "set_iterator.__iter__" = some Builtin.«dict_keyiterator.__iter__» :=
 entryFor_alias (id':="dict_keyiterator.__iter__") (by kernel_rfl) rfl (by decide +kernel) (by kernel_rfl)
theorem ziC (a : Value) : argsOk "set_iterator.__iter__" ⟨[a],[]⟩:=by
 unfold argsOk; rw [signature?_of (id:="set_iterator.__iter__") (n:=['_','_','r','e','t','i','_','_']) (o:=['r','o','t','a','r','e','t','i','_','t','e','s']) (by kernel_rfl) zjQ]; kernel_rfl
theorem zgA : entryFor table "set.__iter__" = some Builtin.«frozenset.__iter__» :=
 entryFor_alias (id':="frozenset.__iter__") (by kernel_rfl) rfl (by decide +kernel) (by kernel_rfl)
def zq9 (w : World) (a : Addr) (es : Array (Int × Value)) (ep : Nat) (t : SetTable) (i : Nat) : Obj:={ cls:=.type "set_iterator",data:=.fields #[rawInt (zcS w t i),rawInt i,.ref a,rawInt es.size,rawInt ep] }
def SI (w : World) (h : Heap) (it a : Addr) (es : Array (Int × Value)) (ep : Nat) (t : SetTable) (i : Nat) : Prop :=
 ∃ o,h.get? it = some o /\ o.cls = .type "set_iterator" /\ o.data = .fields #[rawInt (zcS w t i),rawInt i,.ref a,rawInt es.size,rawInt ep]
theorem SI.same {w : World} {h g : Heap} {it a : Addr} {es : Array (Int × Value)} {ep : Nat} {t : SetTable} {i : Nat} (x : SI w h it a es ep t i) (e : ∀ o,h.get? it = some o -> g.get? it = some o) : SI w g it a es ep t i :=
 let ⟨o,h1,r⟩:=x; ⟨o,e o h1,r⟩
section
variable {prog : Program} {w : World} {A : Around} {E : Value -> Shared -> Prop} {s : Shared} {a it : Addr} {es : Array (Int × Value)} {ep : Nat} {t : SetTable} {i : Nat}
theorem SI.type (x : SI w s.heap it a es ep t i) : s.TypeIs (.ref it) "set_iterator":=let ⟨o,h1,h2,_⟩:=x; ⟨o,h1,h2⟩
theorem zpC (x : SI w s.heap it a es ep t i) (y : SetFix w s.heap a es ep t) (hi : i < es.size) {Q : Option Value -> Shared -> Prop}
   (q : ∀ v h',(∃ e,(zc3 w a ep es)[i]? = some e /\ v = e.2) -> SI w h' it a es ep t (i + 1) -> Heap.SameBut it s.heap h' -> Q (some v) { s with heap:=h' }) : wpAny (model prog w) A (pyNext (.ref it)) Q E s:=by
 obtain ⟨o,ho,hc,hd⟩:=id x
 obtain ⟨os,h1,h2,h3⟩:=y.at'
 unfold pyNext
 refine wpAny_bind (wpAny_attempt (wpAny_callSpecial?_slot (name:=Str.ofString "__next__") x.type zbI
   (wpAny_call_entry zbI x.type zee ?_ (zeM _))))
 unfold Builtin.«set_iterator.__next__»
 refine wpAny_bind (wpAny_pure ?_)
 refine wpAny_bind (wpAny_fieldsOf ho hd ?_)
 dsimp only [rawInt]
 refine wpAny_bind (wpAny_setEntries_of h1 h3 y.fits ?_)
 simp only [bne_self_eq_false,Bool.false_eq_true,if_false]
 dsimp only [Int.toNat_natCast]
 refine wpAny_bind (zgW y (Nat.le_of_lt hi) ?_)
 have hz : i < (zc3 w a ep es).size:=by rw [zgT]; exact hi
 rw [Array.getElem?_eq_getElem hz]
 dsimp only [Option.map_some]
 refine wpAny_bind (wpAny_setField ho hd (by simp) ?_)
 have ho1:=Heap.get?_update_self (Obj.mapFields (·.setIfInBounds 0 (rawInt (zcS w t (i + 1))))) ho (Obj.isFreed_of_fields (Obj.data_mapFields hd _))
 have hd1:=Obj.data_mapFields hd (·.setIfInBounds 0 (rawInt (zcS w t (i + 1))))
 refine wpAny_bind (wpAny_setField ho1 hd1 (by simp) ?_)
 refine wpAny_pure ⟨_,rfl,wpAny_pure (q _ _ ⟨_,Array.getElem?_eq_getElem hz,rfl⟩ ⟨_,Heap.get?_update_self _ ho1 (Obj.isFreed_of_fields (Obj.data_mapFields hd1 _)),(Obj.cls_mapFields ..).trans ((Obj.cls_mapFields ..).trans hc),?_⟩ (Heap.SameBut.trans (Heap.SameBut.update ..) (Heap.SameBut.update ..)))⟩
 rw [Obj.data_mapFields hd1]; simp [rawInt]
theorem zre (hh : A.handled = none) (x : SI w s.heap it a es ep t es.size) (y : SetFix w s.heap a es ep t) {Q : Option Value -> Shared -> Prop}
   (q : ∀ h',Heap.ExtBut it s.heap h' -> Q none { s with heap:=h' }) : wpAny (model prog w) A (pyNext (.ref it)) Q E s:=by
 obtain ⟨o,ho,hc,hd⟩:=id x
 obtain ⟨os,h1,h2,h3⟩:=y.at'
 unfold pyNext
 refine wpAny_bind (wpAny_attempt (wpAny_callSpecial?_slot (name:=Str.ofString "__next__") x.type zbI
   (wpAny_call_entry zbI x.type zee ?_ (zeM _))))
 unfold Builtin.«set_iterator.__next__»
 refine wpAny_bind (wpAny_pure ?_)
 refine wpAny_bind (wpAny_fieldsOf ho hd ?_)
 dsimp only [rawInt]
 refine wpAny_bind (wpAny_setEntries_of h1 h3 y.fits ?_)
 simp only [bne_self_eq_false,Bool.false_eq_true,if_false]
 dsimp only [Int.toNat_natCast]
 refine wpAny_bind (zgW y (Nat.le_refl _) ?_)
 rw [Array.getElem?_eq_none (by rw [zgT]; exact Nat.le_refl _)]
 dsimp only [Option.map_none]
 refine wpAny_bind (wpAny_setField ho hd (by simp) ?_)
 refine wpAny_bind ?_
 simp only [newExc,newTuple]
 refine wpAny_bind (wpAny_newObj_type ?_ (by size_fits))
 refine wpAny_bind (m:=firstArgMember _ _) (wpAny_of_eq (a:=Value.none) (by first | rfl | (simp only [firstArgMember]; rfl)) ?_)
 refine wpAny_newObj_type ?_ (by size_fits)
 simp only [raiseNew]
 refine wpAny_bind (wpAny_handled ?_)
 rw [show A.in1.handled = none from hh]
 refine wpAny_bind (wpAny_pure (wpAny_throw ?_))
 refine wpAny_bind (wpAny_isInstance (T:="StopIteration") (b:=true) ⟨_,Heap.get?_push_size _ rfl,rfl⟩ isSubtype_stop ?_)
 exact wpAny_pure (q _ (((Heap.SameBut.update ..).extBut.push _).push _))
theorem zoX (x : SI w s.heap it a es ep t i) {Q : Value -> Shared -> Prop} (q : Q (.ref it) s) : wpAny (model prog w) A (pyIter (.ref it)) Q E s:=by
 refine wpAny_pyIter_slot x.type zeB (wpAny_call_entry zeB x.type zhd ?_ (ziC _))
 show wpAny _ _ (ret (.ref it)) _ _ s
 exact wpAny_pure ⟨_,rfl,"set_iterator",_,x.type,zbI.lookup,q⟩
theorem zmq (hh : A.handled = none) (I : Addr) (hne : a ≠ I) : Walks prog w A I [I,a] [I] es.size (fun i v=>∃ e,(zc3 w a ep es)[i]? = some e /\ v = e.2) (fun i h=>SI w h I a es ep t i /\ SetFix w h a es ep t) where
 sub:=fun b hb=>by simp at hb; simp [hb]
 frame:=fun _ _ _ st hk=>⟨st.1.same fun o e=>hk I (by simp) o e,st.2.same fun o e=>hk a (by simp) o e⟩
 item:=fun i s Q E hi st hQ=>by
   refine zpC st.1 st.2 hi fun v h' hv hit' hs'=>?_
   exact hQ v h' s.toks hv ⟨hit',st.2.same fun o e=>hs'.extBut a o hne e⟩ fun b o hb e=>hs'.extBut b o (fun h=>hb (by simp [h])) e
 done:=fun s Q E st hQ=>zre hh st.1 st.2 fun h' he'=>hQ h' s.toks fun b o hb e=>he' b o (fun h=>hb (by simp [h])) e
 self:=fun _ _ _ _ st hQ=>zoX st.1 hQ
theorem znC (y : SetFix w s.heap a es ep t) {Q : Value -> Shared -> Prop} (q : Q (.ref s.heap.objs.size) { s with heap:=s.heap.push (zq9 w a es ep t 0) }) : wpAny (model prog w) A (pyIter (.ref a)) Q E s:=by
 obtain ⟨o,h1,h2,h3⟩:=y.at'
 refine wpAny_pyIter_slot y.type PySem.F.slot_set_iter (wpAny_call_entry PySem.F.slot_set_iter y.type zgA ?_ (PySem.F.args_set_iter_1 _))
 unfold Builtin.«frozenset.__iter__» Builtin.Frozenset.slot0 slotArgs
 simp only [List.isEmpty_nil,Bool.not_true,Bool.false_eq_true,↓reduceIte,bind_assoc,List.length_nil,bne_self_eq_false]
 unfold Builtin.Frozenset.addrOf Builtin.Frozenset.sizeOf
 refine wpAny_bind (wpAny_pure ?_)
 try dsimp only
 refine wpAny_bind (wpAny_pure ?_)
 refine wpAny_bind (wpAny_bind (wpAny_setEntries_of h1 h3 y.fits (wpAny_pure ?_)))
 unfold setDrawn
 refine wpAny_bind (wpAny_bind (wpAny_setState_of h1 h3 y.fits ?_))
 dsimp only
 unfold setsByText
 refine wpAny_bind (wpAny_bind (wpAny_askSetting (wpAny_pure (wpAny_pure ?_))))
 have dr : ∀ b : Bool,(!b && (!t.plain && decide (es.size > 1))) = false:=fun b=>by rw [y.plain]; simp
 show wpAny _ _ (if (!w.params.followText "set-order" && (!t.plain && decide (es.size > 1))) = true then _ else _) _ _ _
 rw [if_neg (by rw [dr]; exact Bool.false_ne_true)]
 refine wpAny_bind (wpAny_pure ?_)
 refine wpAny_bind (wpAny_setEpoch_of h1 h3 y.fits ?_)
 refine wpAny_bind (wpAny_newObj_type ?_)
 refine wpAny_pure ⟨_,rfl,"set_iterator",_,⟨_,Heap.get?_push_size _ rfl,rfl⟩,zbI.lookup,?_⟩
 have : zcS w t 0 = 0:=by unfold zcS; split <;> rfl
 unfold zq9 at q
 rw [this] at q
 exact q
theorem zob (hT : s.TypeIs (.ref a) "set") {Q : Bool -> Shared -> Prop} (h : Q false s) : wpAny (model prog w) A (Builtin.List.listLengthHint (.ref a)) Q E s:=by
 unfold Builtin.List.listLengthHint
 refine wpAny_bind (wpAny_specialOf hT PySem.F.slot_set_len.lookup ?_)
 generalize hid : ("set.__len__" : String) = id0
 wp_delta
 rw [show splitId id0 = some ("set","__len__") from by subst hid; decide +kernel]
 subst hid
 refine wpAny_bind (wpAny_isInstance (T:="set") (b:=true) hT (by rw [isSubtype_type]; kernel_rfl) ?_)
 refine wpAny_ite_split (fun hab=>absurd hab (by decide)) (fun _=>?_)
 refine wpAny_ite_split (fun _=>?_) (fun hab=>absurd (by decide +kernel) hab)
 refine wpAny_bind (wpAny_typeOf hT ?_)
 exact wpAny_pure h
theorem zpM : KdlSrc prog w "set" a a es.size (fun i v=>∃ e,(zc3 w a ep es)[i]? = some e /\ v = e.2) (fun h=>SetFix w h a es ep t) where
 type:=fun _ y=>y.type
 there:=fun _ y=>let ⟨_,h1,_⟩:=y.at'; ⟨Heap.lt_size h1,Heap.lt_size h1⟩
 keep:=fun _ _ y hk=>y.same fun o e=>hk a (.inl rfl) o e
 notList:=by decide
 notTuple:=by decide
 hint:=fun _ _ _ _ y hq=>zob y.type hq
 iter:=fun _ s hh y=>⟨zq9 w a es ep t 0,_,(fun _ _ hq=>znC y hq),zmq hh _ (let ⟨_,h1,_⟩:=y.at'; Nat.ne_of_lt (Heap.lt_size h1)),⟨⟨_,Heap.get?_push_size _ rfl,rfl,rfl⟩,y.same fun o e=>Heap.get?_push_of_some _ e⟩⟩
theorem ziY (hh : A.handled = none) (y : SetFix w s.heap a es ep t) {Q : List Value -> Shared -> Prop}
   (q : ∀ h' tk,s.heap.objs.size < h'.objs.size -> (∀ b o,s.heap.get? b = some o -> h'.get? b = some o) -> Q ((zc3 w a ep es).toList.map (·.2)) { s with heap:=h',toks:=tk }) : wpAny (model prog w) A (collect (.ref a)) Q E s:=by
 have la : a < s.heap.objs.size:=let ⟨_,h1,_⟩:=y.at'; Heap.lt_size h1
 unfold collect
 refine wpAny_bind (wpAny_runValue (codeAny_builtin PySem.F.entry_proto_collect ?_))
 rw [Around.under_plainId PySem.F.plain_proto_collect _]
 show wpAny _ A.in1 (newList [] >>= fun l=>again (.builtin "list.__iadd__" ⟨[l,.ref a],[]⟩)) _ _ s
 refine wpAny_bind (wpAny_newObj_type ?_)
 refine wpAny_pure ⟨plainId_quiet PySem.F.plain_list_iadd _,codeAny_builtin PySem.F.entry_list_iadd ?_⟩
 rw [Around.under_plainId PySem.F.plain_list_iadd _]
 have hS : (s.heap.push { cls:=.type "list",data:=.seq #[] }).get? s.heap.objs.size = some { cls:=.type "list",data:=.seq #[] }:=Heap.get?_push_size _ rfl
 show wpAny _ A.in1 (Builtin.List.listExtendWith (.ref s.heap.objs.size) (.ref a) (.ref s.heap.objs.size)) _ _ _
 refine kdl_extend (R:=wants (fun v s'=>wpAny (model prog w) A ((?f : Value -> Sem (List Value)) v) Q E s') E) (s:={ s with heap:=s.heap.push { cls:=.type "list",data:=.seq #[] } }) zpM hh (y.same fun o e=>Heap.get?_push_of_some _ e) s.heap.objs.size (Nat.ne_of_gt la) (Nat.ne_of_gt la) _ _ hS
   (fun h' tk acc' c' hk hS' hacc=>?_) (by rw [sizeLine_eq]; have:=y.few; omega)
 show wpAny _ A (load s.heap.objs.size >>= _) _ _ _
 refine wpAny_bind (wpAny_load hS' ?_)
 have e : acc'.toList = (zc3 w a ep es).toList.map (·.2):=by
   apply List.ext_getElem?
   intro j
   rw [Array.getElem?_toList,List.getElem?_map,Array.getElem?_toList]
   cases e : acc'[j]? with
   | some v =>
     obtain ⟨e',h1,h2⟩:=hacc.2 j v e
     rw [h1,h2]; rfl
   | none =>
     rw [Array.getElem?_eq_none (by rw [zgT,<- hacc.1]; exact Array.getElem?_eq_none_iff.mp e)]; rfl
 refine wpAny_pure ?_
 show Q acc'.toList _
 rw [e]
 exact q h' tk (Heap.lt_size hS') fun b o e=>hk b o (Nat.ne_of_lt (Heap.lt_size e)) (Heap.get?_push_of_some _ e)
end
end TB
set_option Elab.async false
set_option linter.all false
set_option maxRecDepth 100000
namespace TB
open PySem PySem.W PyProof.Rows
section
variable {prog : Program} {w : World} {A : Around} {E : Value -> Shared -> Prop} {s : Shared}
theorem zmR {a : Addr} {vs : List Value} {n : Nat} {P : PySem.Fin -> Shared -> Prop} (ho : s.heap.get? a = some (seqObj "list" vs.toArray n)) (h2 : vs.length < 2)
   (q : ∀ (g : Heap) (c : Nat),g.get? a = some (seqObj "list" vs.toArray c) -> (∀ b o,b ≠ a -> s.heap.get? b = some o -> g.get? b = some o) -> P (.done (.ret .none)) { s with heap:=g }) :
   wpAny (model prog w) A (Builtin.«list.sort» ⟨[.ref a],[]⟩) P E s:=by
 have sb:=Heap.SameBut.update s.heap a (Obj.mapSeq fun _=>(#[] : Array Value))
 obtain ⟨e1,ho1⟩ : ∃ e1,(s.heap.update a (Obj.mapSeq fun _=>(#[] : Array Value))).get? a = some (seqObj "list" #[] e1):=⟨_,get?_update_seq ho fun _=>#[]⟩
 have kp : ∀ b o,b ≠ a -> s.heap.get? b = some o -> (((s.heap.update a (Obj.mapSeq fun _=>(#[] : Array Value))).push (seqObj "tuple" vs.toArray 0)).push (seqObj "list" #[] 0)).get? b = some o:=fun b o hb e =>
   Heap.get?_push_of_some _ (Heap.get?_push_of_some _ ((sb.2 b hb).trans e))
 have ho3 : (((s.heap.update a (Obj.mapSeq fun _=>(#[] : Array Value))).push (seqObj "tuple" vs.toArray 0)).push (seqObj "list" #[] 0)).get? a = some (seqObj "list" #[] e1):=Heap.get?_push_of_some _ (Heap.get?_push_of_some _ ho1)
 have nz : vs.toArray.size < 2:=by rw [List.size_toArray]; omega
 rw [list_sort_plain]
 refine wpAny_bind (listItems_at ho rfl ?_)
 refine wpAny_bind (listUpdate_at ho rfl ?_ (by rw [List.size_toArray,sizeLine_eq]; omega) (Nat.zero_le _))
 refine wpAny_bind (seqEpoch_at ho1 rfl ?_)
 refine wpAny_bind (wpAny_newTuple ?_ (by show vs.length <= _; rw [sizeLine_eq]; omega))
 refine wpAny_bind (wpAny_newList ?_ (Nat.zero_le _))
 refine wpAny_holding ?_
 show wpAny (model prog w) A _ P E { s with heap:=((s.heap.update a (Obj.mapSeq fun _=>(#[] : Array Value))).push (seqObj "tuple" vs.toArray 0)).push (seqObj "list" #[] 0) }
 dsimp only
 rw [if_pos nz,if_pos nz]
 generalize ((s.heap.update a (Obj.mapSeq fun _=>(#[] : Array Value))).push (seqObj "tuple" vs.toArray 0)).push (seqObj "list" #[] 0) = g at *
 refine wpAny_bind (wpAny_pure ?_)
 rw [StateT.run_pure]
 refine wpAny_bind (wpAny_pure ?_)
 dsimp only
 have es : (arrOf (SortSt.mk' general' (vs.toArray.zip vs.toArray) #[] 7 none)).map (·.2) = vs.toArray:=by
   show (vs.toArray.zip vs.toArray).map (·.2) = vs.toArray
   apply Array.ext'
   simp [List.map_snd_zip]
 rw [es]
 refine wpAny_bind (seqEpoch_at (s:={ s with heap:=g }) ho3 rfl ?_)
 refine wpAny_bind (listUpdate_at (s:={ s with heap:=g }) ho3 rfl ?_ (Nat.zero_le _) (by rw [List.size_toArray,sizeLine_eq]; omega))
 simp only [bne_self_eq_false,Bool.false_eq_true,if_false]
 have sb2:=Heap.SameBut.update g a (Obj.mapSeq fun _=>vs.toArray)
 refine wpAny_pure (q _ _ (get?_update_seq ho3 fun _=>vs.toArray) fun b o hb e=>(sb2.2 b hb).trans (kp b o hb e))
theorem zrn {vs : List Value} {p : Array Nat} (h : Pm vs.length p) : (p.toList.map fun i=>vs.getD i Value.none).Perm vs:=by
 have:=h.map fun i=>vs.getD i Value.none
 rwa [zfq] at this
theorem zlT {a : Addr} {vs : List Value} {n : Nat} {P : PySem.Fin -> Shared -> Prop} (ho : s.heap.get? a = some (seqObj "list" vs.toArray n)) (h64 : vs.length < 64) (ht : ∀ v ∈ vs,Tw s.heap v)
   (q : ∀ (g : Heap) (us : List Value) (c : Nat),us.Perm vs -> g.get? a = some (seqObj "list" us.toArray c) -> (∀ b o,b ≠ a -> s.heap.get? b = some o -> g.get? b = some o) -> P (.done (.ret .none)) { s with heap:=g }) :
   wpAny (model prog w) A (Builtin.«list.sort» ⟨[.ref a],[]⟩) P E s:=by
 rcases Nat.lt_or_ge vs.length 2 with h | h
 . exact zmR ho h fun g c h1 h2=>q g vs c (.refl _) h1 h2
 . exact zox ho h h64 ht fun g p c h1 h2 h3=>q g _ c (zrn h1) h2 h3
end
end TB
namespace L2
open PySem PySem.Spec PyProof.Rows GM
def SetO (w : World) (a : Addr) (ws : List V) : HO:=.ext fun h=>∃ es ep t,TB.SetFix w h a es ep t /\ zay ws (es.toList.map (·.2))
def TpI (K : PySem.W.Frag) (H : Hp) (v : V) (k : List Int) : Prop:=∃ q,v = .ref q /\ SqT K H q (k.map V.int)
theorem items_int {P : Program} {w : World} : ∀ {us : List Value} {ns : List Int},IntsAre us ns -> ItemsAre (intKind P w) ns us
 | _,_,.nil=>.nil
 | _,_,.cons n t r=>.cons (by show Value.isInt n (Value.int n t) = true; simp [Value.isInt]) (items_int r)
theorem zlY {P : Program} {w : World} (k : Int) (v : Value) (h : (intKind P w).is k v = true) : ∃ i t,v = .int i t:=by
 have h : Value.isInt k v = true:=h
 cases v with
 | int i t=>exact ⟨i,t,rfl⟩
 | _=>exact absurd h (by simp [Value.isInt])
theorem Inv.key {X : Cx} {pins : List (Addr × Obj)} {σ : List (Option V)} {H : Hp} {s : Shared} (I : Inv X pins σ H s) {q : Addr} {k : List Int} (h : SqT X.K H q (k.map V.int)) : IsTupleKey (intKind X.prog X.w) s.heap k q:=by
 obtain ⟨its,r,⟨o,e,hc,n,hd⟩,_⟩:=I.tuple h
 exact ⟨o,its.toArray,n,e,hc,hd,items_int (zev r)⟩
theorem Inv.tw {X : Cx} {pins : List (Addr × Obj)} {σ : List (Option V)} {H : Hp} {s : Shared} (I : Inv X pins σ H s) {q : Addr} {k : List Int} (h : SqT X.K H q (k.map V.int)) (hk : k ≠ []) : TB.Tw s.heap (.ref q):=by
 obtain ⟨its,r,⟨o,e,hc,n,hd⟩,_⟩:=I.tuple h
 have hi : ∀ {us : List Value} {ns : List Int},IntsAre us ns -> ∀ y ∈ us,∃ i u,y = Value.int i u:=fun {us ns} h=>by
   induction h with
   | nil=>intro y hy; cases hy
   | cons n t _ ih =>
     intro y hy
     rcases List.mem_cons.mp hy with e | hy
     . exact ⟨n,t,e⟩
     . exact ih y hy
 have r:=zev r
 cases r with
 | nil=>exact absurd rfl hk
 | cons x t r'=>exact ⟨q,o,_,n,x,t,_,rfl,e,hc,hd,rfl,hi r'⟩
def znr (K : PySem.W.Frag) (w : World) : List V -> Hp -> VK -> Prop:=fun xs H Q=>∃ (p : Addr) (vs : List V) (key : Nat -> List Int),xs = [.ref p] /\ SqL K H p vs /\ vs.length <= 999 /\ (∀ j v,vs[j]? = some v -> TpI K H v (key j)) /\
 ∀ (l : Addr) (ws : List V) (ks : List (List Int)),H l = none -> ws.length = ks.length -> (∀ (i : Nat) (v : V) (k : List Int),ws[i]? = some v -> ks[i]? = some k -> TpI K H v k) -> ks.Nodup -> (∀ x,x ∈ ks ↔ ∃ j,j < vs.length /\ key j = x) ->
   Q (.ref l) (upd H l (SetO w l ws))
theorem zfu : ∀ {ws : List V} {us : List Value},zay ws us -> ∀ {i : Nat} {q : Addr},ws[i]? = some (.ref q) -> us[i]? = some (.ref q)
 | _,_,.nil,i,q,h=>by simp at h
 | _,_,.cons r1 r2,0,q,h=>by
   simp only [List.getElem?_cons_zero,Option.some.injEq] at h ⊢
   subst h
   exact r1
 | _,_,.cons r1 r2,i + 1,q,h=>by
   simp only [List.getElem?_cons_succ] at h ⊢
   exact zfu r2 h
def zkT : Value -> V
 | .ref a=>.ref a
 | _=>.non
theorem zdc : ∀ (us : List Value),(∀ u ∈ us,∃ a,u = .ref a) -> zay (us.map zkT) us
 | [],_=>.nil
 | u :: us,h=>by
   obtain ⟨a,rfl⟩:=h u (List.mem_cons_self ..)
   exact .cons rfl (zdc us fun u hu=>h u (List.mem_cons_of_mem _ hu))
theorem zig (es : List (Int × Value)) (h : ∀ e ∈ es,∃ a,e.2 = .ref a) : zay (es.map fun e=>zkT e.2) (es.map (·.2)):=by
 have:=zdc (es.map (·.2)) fun u hu=>by
   obtain ⟨e,he,rfl⟩:=List.mem_map.mp hu
   exact h e he
 rwa [List.map_map] at this
theorem zeJ {α : Type} [DecidableEq α] : ∀ {ks l : List α},ks.Nodup -> (∀ x ∈ ks,x ∈ l) -> ks.length <= l.length
 | [],l,_,_=>Nat.zero_le _
 | k :: ks,l,h,hs=>by
   rw [List.nodup_cons] at h
   have hk:=hs k (List.mem_cons_self ..)
   have:=zeJ (l:=l.erase k) h.2 fun x hx=>(List.mem_erase_of_ne (fun e=>h.1 (by rw [<- e]; exact hx))).mpr (hs x (List.mem_cons_of_mem _ hx))
   rw [List.length_erase_of_mem hk] at this
   have:=List.length_pos_of_mem hk
   rw [List.length_cons]
   omega
theorem Paired.back {α β : Type} {R : α -> β -> Prop} : ∀ {xs : List α} {us : List β},Paired R xs us -> ∀ {i : Nat} {u : β},us[i]? = some u -> ∃ x,xs[i]? = some x /\ R x u
 | _,_,.nil,i,u,h=>by simp at h
 | _,_,.cons r1 r2,0,u,h=>by
   simp only [List.getElem?_cons_zero,Option.some.injEq] at h ⊢
   subst h
   exact ⟨_,rfl,r1⟩
 | _,_,.cons r1 r2,i + 1,u,h=>by
   simp only [List.getElem?_cons_succ] at h ⊢
   exact Paired.back r2 h
theorem zko {X : Cx} (hu : X.A.units + 64 < cLine) (hc : X.calm = true) : zaj X (.type "set") (znr X.K X.w):=by
 intro pins s σ H xs us Q I r h
 obtain ⟨p,vs,key,rfl,hq,hn,hk,q⟩:=h
 obtain ⟨u,rfl,rx⟩:=zcR r
 cases rx
 obtain ⟨its,r',pl,hz⟩:=I.list hq
 have hlen:=r'.length
 have hx : ∀ j : Nat,∃ ad : Addr,∀ v,vs[j]? = some v -> v = .ref ad /\ SqT X.K H ad ((key j).map V.int):=fun j=>by
   cases e : vs[j]? with
   | none=>exact ⟨0,fun v h=>by cases h⟩
   | some v =>
     obtain ⟨ad,h1,h2⟩:=hk j v e
     exact ⟨ad,fun v' h=>by cases h; exact ⟨h1,h2⟩⟩
 obtain ⟨ad,had⟩ : ∃ ad : Nat -> Addr,∀ j v,vs[j]? = some v -> v = .ref (ad j) /\ SqT X.K H (ad j) ((key j).map V.int):=⟨fun j=>(hx j).choose,fun j=>(hx j).choose_spec⟩
 have hg : ∀ j,j < its.length -> ∃ v,vs[j]? = some v:=fun j hj=>⟨vs[j]'(by omega),List.getElem?_eq_getElem _⟩
 refine TB.call_setT (knd:=intKind X.prog X.w) (U:=fun a k=>SqT X.K H a (k.map V.int)) zlY (key:=key) (ad:=ad) (I.ok.hd hc) hu pl.isList (fun j v hv=>?_) (fun j hj=>?_) (by omega) (fun j hj=>?_) fun g tk ks hS hm kp=>?_
 . obtain ⟨v',hv'⟩:=hg j (by rcases Nat.lt_or_ge j its.length with h | h; exact h; rw [List.getElem?_eq_none h] at hv; cases hv)
   obtain ⟨rfl,_⟩:=had j v' hv'
   have:=zfu r' hv'
   rw [hv] at this
   exact Option.some.inj this
 . obtain ⟨v',hv'⟩:=hg j hj
   exact I.key (had j v' hv').2
 . obtain ⟨v',hv'⟩:=hg j hj
   exact (had j v' hv').2
 . obtain ⟨o,es,ep,t,e1,e2,e3,e4,e5,e6,e7,e8,e9,e10⟩:=hS
   obtain ⟨f1,f2⟩:=e9
   have kl : ks.length <= 999:=Nat.le_trans (zeJ e10 (l:=(List.range its.length).map key) fun x hx=>by
     obtain ⟨j,h1,h2⟩:=(hm x).mp hx
     exact List.mem_map.mpr ⟨j,List.mem_range.mpr h1,h2⟩) (by rw [List.length_map,List.length_range]; omega)
   have hz' : es.size = ks.length:=by rw [<- f1,Array.length_toList]
   have hr : ∀ e ∈ es.toList,∃ a,e.2 = .ref a:=fun e he=>by
     obtain ⟨i,hi⟩:=List.mem_iff_getElem?.mp he
     obtain ⟨k,hk'⟩ : ∃ k,ks[i]? = some k:=⟨_,List.getElem?_eq_getElem (by rw [<- f1]; exact (List.getElem?_eq_some_iff.mp hi).1)⟩
     obtain ⟨a,h1,_⟩:=f2 i e k hi hk'
     exact ⟨a,h1⟩
   refine ⟨.ref s.heap.objs.size,_,I.laid (t':=tk) kp (Nat.le_refl _) (show za9 X.prog X.w _ _ _ (SetO X.w s.heap.objs.size (es.toList.map fun e=>zkT e.2)) from ⟨⟨es,ep,t,⟨⟨o,e1,e2,e3⟩,?_,?_,e4.ris,e8,e7,by omega⟩,?_⟩,⟨o,e1⟩,?_⟩),rfl,
     q _ _ ks (I.hok.fresh (Nat.le_refl _)) (by rw [List.length_map]; exact f1) (fun i v k hv hk'=>?_) e10 fun x=>by rw [hlen]; exact hm x⟩
   . have:=e4.fits
     rwa [List.length_map,Array.length_toList] at this
   . rw [e4.size,List.length_map,Array.length_toList]
   . exact zig _ hr
   . rintro h1 h2 ⟨es',ep',t',a1,a2⟩ hh
     exact ⟨es',ep',t',a1.same hh,a2⟩
   . rw [List.getElem?_map] at hv
     cases e : es.toList[i]? with
     | none=>rw [e] at hv; cases hv
     | some x =>
       rw [e] at hv
       cases hv
       obtain ⟨a,h1,_,_,h2⟩:=f2 i x k e hk'
       exact ⟨a,by show zkT x.2 = _; rw [h1]; rfl,h2⟩
theorem znF : ∀ {us : List Value} {ws : List V},(∀ u ∈ us,∃ a,u = .ref a) -> zay ws us -> ws = us.map zkT
 | _,_,_,.nil=>rfl
 | y :: us,x :: ws,h,.cons r1 r2=>by
   obtain ⟨a,rfl⟩:=h _ (List.mem_cons_self ..)
   rw [List.map_cons,<- znF (fun u hu=>h u (List.mem_cons_of_mem _ hu)) r2]
   congr 1
   cases x <;> first | (obtain ⟨_,e⟩:=r1; cases e; done) | (cases r1; rfl) | (cases r1; done)
def zqb (w : World) : List V -> Hp -> VK -> Prop:=fun xs H Q=>∃ (p : Addr) (ws : List V),xs = [.ref p] /\ H p = some (SetO w p ws) /\ Q (.int (ws.length : Int)) H
theorem zlP {X : Cx} : zaj X (.builtin "len") (zqb X.w):=by
 intro pins s σ H xs us Q I r h
 obtain ⟨p,ws,rfl,hp,q⟩:=h
 obtain ⟨u,rfl,rx⟩:=zcR r
 cases rx
 obtain ⟨⟨es,ep,t,y,r'⟩,_,_⟩:=I.hok p _ hp
 obtain ⟨o,h1,h2,h3⟩:=y.at'
 have hl : ws.length = es.size:=by have:=r'.length; simpa using this
 have:=y.few
 exact PySem.call_len_set h1 h2 h3 y.fits (by omega) ⟨.int (ws.length : Int),H,I.tok _,⟨s.toks + 1,by rw [hl]⟩,q⟩
end L2
set_option Elab.async false
set_option linter.all false
set_option maxRecDepth 100000
namespace TB
open PySem PySem.W PyProof.Rows MeetsSeq
section
variable {prog : Program} {w : World} {A : Around} {s : Shared} {R : Result -> Shared -> Prop}
end
end TB
namespace L2
open PySem PySem.Spec PyProof.Rows GM
end L2
namespace L2
open PySem PySem.Spec PyProof.Rows GM
section
variable {K : PySem.W.Frag} {w : World} {H H' : Hp} {Q : VK} {v : V} {p l : Addr} {xs ys : List Rat} {us ws : List V}
theorem zdm : ∀ {ws : List V} {ys : List Rat},ws.length = ys.length -> (∀ (i : Nat) (v : V) (r : Rat),ws[i]? = some v -> ys[i]? = some r -> Is K H v (N r)) -> IsAll K H ws (ys.map N)
 | [],[],_,_=>.nil
 | [],_ :: _,h,_=>absurd h (by simp)
 | _ :: _,[],h,_=>absurd h (by simp)
 | v :: ws,y :: ys,h,hh=>.cons (hh 0 v y rfl rfl) (zdm (by simpa using h) fun i v r h1 h2=>hh (i + 1) v r (by simpa using h1) (by simpa using h2))
theorem zjb {α : Type} : ∀ {ys : List α},ys.Nodup -> ∀ {i j : Nat} (hi : i < ys.length) (hj : j < ys.length),ys[i] = ys[j] -> i = j
 | [],_,_,_,hi,_,_=>absurd hi (Nat.not_lt_zero _)
 | y :: ys,h,0,0,_,_,_=>rfl
 | y :: ys,h,0,j + 1,hi,hj,e=>by
   rw [List.nodup_cons] at h
   exact absurd (List.getElem_mem (Nat.lt_of_succ_lt_succ hj)) (by rw [List.getElem_cons_zero,List.getElem_cons_succ] at e; rw [<- e]; exact h.1)
 | y :: ys,h,i + 1,0,hi,hj,e=>by
   rw [List.nodup_cons] at h
   exact absurd (List.getElem_mem (Nat.lt_of_succ_lt_succ hi)) (by rw [List.getElem_cons_zero,List.getElem_cons_succ] at e; rw [e]; exact h.1)
 | y :: ys,h,i + 1,j + 1,hi,hj,e=>by
   rw [List.nodup_cons] at h
   rw [List.getElem_cons_succ,List.getElem_cons_succ] at e
   rw [zjb h.2 (Nat.lt_of_succ_lt_succ hi) (Nat.lt_of_succ_lt_succ hj) e]
end
end L2
set_option Elab.async false
set_option linter.all false
set_option maxRecDepth 100000
namespace L2
open PySem PySem.Spec PyProof.Rows GM
theorem zfe : fillsNumberSlot (.type "tuple") "mul" = pure false :=
 PySem.fillsNumberSlot_seq (id:="tuple.__mul__") (r:=some (.builtin "tuple.__rmul__")) F.slot_tuple_mul.lookup (by decide +kernel) F.slot_tuple_rmul.lookup (by decide +kernel)
theorem ziP : seqRepeat? (.type "tuple") = pure (some (.builtin "tuple.__mul__")):=by
 unfold seqRepeat?
 rw [PySem.seqSlot_of (T:="tuple") (name:="__mul__") (id:="tuple.__mul__") F.slot_tuple_mul.lookup (by decide +kernel),PySem.seqSlot_of (T:="tuple") (name:="__rmul__") (id:="tuple.__rmul__") F.slot_tuple_rmul.lookup (by decide +kernel)]
 rfl
theorem zge (a : Int) (t : Tok) (l : Addr) (items : Array Value) (n : Nat) (dd : Option Addr) (sl : Array (Option Value)) :
   Meets (Builtin.«int.__rmul__» ⟨[.int a t,.ref l],[]⟩) (fun _ R s=>s.heap.get? l = some { cls:=.type "tuple",dict:=dd,data:=.seq items n,slots:=sl } /\ R (.ok (.ret Value.notImplemented)) s) :=
 .of_wp fun prog w A R s h=>by obtain ⟨hp,g,d,tk,os⟩:=s; obtain ⟨hl,h⟩:=h; wp_walk; exact ⟨_,rfl,h⟩
theorem zkp (l : Addr) (items : Array Value) (n : Nat) (dd : Option Addr) (sl : Array (Option Value)) (u : Tok) (hne : items.isEmpty = false) :
   Meets (Builtin.«tuple.__mul__» ⟨[.ref l,.int 1 u],[]⟩) (fun _ R s=>s.heap.get? l = some { cls:=.type "tuple",dict:=dd,data:=.seq items n,slots:=sl } /\ R (.ok (.ret (.ref l))) s) :=
 .of_wp fun prog w A R s h=>by
   obtain ⟨hp,g,d,tk,os⟩:=s; obtain ⟨hl,h⟩:=h
   wp_walk
   exact ⟨_,rfl,h⟩
theorem zkP (l : Addr) (items : Array Value) (n : Nat) (dd : Option Addr) (sl : Array (Option Value)) (k : Int) (u : Tok) (hne : items.isEmpty = false) (h1 : 1 < k) (h2 : k <= 1000) (h3 : items.size <= 1000) (hz : ((List.replicate k.toNat items).foldl (· ++ ·) #[]).size <= sizeLine) :
   Meets (Builtin.«tuple.__mul__» ⟨[.ref l,.int k u],[]⟩) (fun _ R s=>s.heap.get? l = some { cls:=.type "tuple",dict:=dd,data:=.seq items n,slots:=sl } /\
     R (.ok (.ret (.ref s.heap.objs.size))) { s with heap:=s.heap.push { cls:=.type "tuple",data:=.seq ((List.replicate k.toNat items).foldl (· ++ ·) #[]) } }) :=
 .of_wp fun prog w A R s h=>by
   obtain ⟨hp,g,d,tk,os⟩:=s; obtain ⟨hl,h⟩:=h
   have c1 : (k == 1) = false:=by simp; omega
   have c2 : (decide (k < -(2 ^ 63)) || decide (k ≥ 2 ^ 63)) = false:=by simp; omega
   have c3 : (decide (k <= 0) || items.isEmpty) = false:=by rw [hne]; simp; omega
   have c4 : (items.isEmpty || k == 1) = false:=by rw [hne,c1]; rfl
   have c7 : items.size * k.toNat <= 1000000:=Nat.le_trans (Nat.mul_le_mul h3 (show k.toNat <= 1000 by omega)) (by decide)
   have c8 : (items.size : Int) * k = ((items.size * k.toNat : Nat) : Int):=by rw [Int.natCast_mul]; congr 1; omega
   have c5 : ¬ ((items.size : Int) * k > (2 ^ 63 - 1) / 8):=by rw [c8]; omega
   have c6 : Builtin.Tuple.tupleTooMany ((items.size : Int) * k) = false:=by
     rw [c8]
     unfold Builtin.Tuple.tupleTooMany
     simp only [decide_eq_false_iff_not,sizeLine_eq]
     omega
   have ff : ∀ {b : Bool},b = false -> decide (b = true) = false:=fun {b} e=>by subst e; rfl
   wp_walk
   refine wpAny_ite_false (ff c2) ?_
   wp_walk
   refine wpAny_ite_false (ff c3) ?_
   wp_walk
   refine wpAny_ite_false (decide_eq_false c5) ?_
   wp_walk
   refine wpAny_ite_false (ff c6) ?_
   wp_walk
   exact ⟨_,rfl,h⟩
def zgR (K : PySem.W.Frag) : R2:=fun x y H Q=>∃ l k xs,x = .ref l /\ y = .int k /\ SqT K H l xs /\ xs ≠ [] /\ 1 <= k /\ k <= 1000 /\ xs.length <= 1000 /\ (k = 1 -> Q (.ref l) H) /\
 ∀ p,H p = none -> Q (.ref p) (upd H p (.tup (List.replicate k.toNat xs).flatten))
theorem zf1 {X : Cx} : OpR X (binaryOp .Mult) (zgR X.K):=by
 intro pins s σ H x y v u Q I rx ry h
 obtain ⟨l,k,xs,rfl,rfl,hH,hne,h1,h2,h3,q1,q⟩:=h
 cases rx
 obtain ⟨t,rfl⟩:=ry
 obtain ⟨its,r,p1,hz⟩:=I.tuple hH
 obtain ⟨⟨cls,dd,data,sl⟩,ho,hc,n,hd⟩:=id p1
 simp only at hc hd
 subst hc hd
 have hl:=r.length
 have hne' : its.toArray.isEmpty = false:=by
   cases its with
   | nil=>exact absurd (List.eq_nil_of_length_eq_zero (by simpa using hl)) hne
   | cons a b=>rfl
 have f0 : ∀ m : Nat,List.foldl (fun x1 x2=>x1 ++ x2) #[] (List.replicate m its.toArray) = (List.replicate m its).flatten.toArray:=fun m=>by
   have:=zhx its m []
   rw [List.nil_append] at this
   exact this
 refine wpAny_binaryOp_repeat_ref (T:="tuple") (U:="int") (by decide) ⟨_,ho,rfl⟩ (fun s'=>typeIs_int s' k t) zfe F.fills_int_mul F.slot_int_rmul ziP F.slot_int_index.lookup
   (call_meets F.slot_int_rmul (typeIs_int s k t) F.entry_int_rmul (F.args_int_rmul_2 _ _) (zge k t l its.toArray n dd sl)
     ⟨ho,rfl,⟨_,ho,rfl⟩,?_⟩)
 by_cases e1 : k = 1
 . subst e1
   exact call_meets F.slot_tuple_mul ⟨_,ho,rfl⟩ F.entry_tuple_mul (F.args_tuple_mul_2 _ _) (zkp l its.toArray n dd sl t hne') ⟨ho,⟨.ref l,H,I,rfl,q1 rfl⟩⟩
 . have hlen : (List.replicate k.toNat its).flatten.length <= 1000000:=by
     rw [ziL]
     exact Nat.le_trans (Nat.mul_le_mul (show k.toNat <= 1000 by omega) (show its.length <= 1000 by omega)) (by decide)
   refine call_meets F.slot_tuple_mul ⟨_,ho,rfl⟩ F.entry_tuple_mul (F.args_tuple_mul_2 _ _) (zkP l its.toArray n dd sl k t hne' (by omega) h2 (by rw [List.size_toArray]; omega) (by rw [f0,List.size_toArray,sizeLine_eq]; omega)) ⟨ho,?_⟩
   rw [f0]
   have hlen' : (List.replicate k.toNat xs).flatten.length = (List.replicate k.toNat its).flatten.length:=by rw [ziL,ziL,hl]
   exact ⟨.ref _,_,I.laid (t':=s.toks) (fun b o e=>Heap.get?_push_of_some _ e) (Nat.le_refl _) (show za9 X.prog X.w _ _ _ (.tup (List.replicate k.toNat xs).flatten) from ⟨by rw [hlen',sizeLine_eq]; omega,_,r.rep k.toNat,IsTup.new _ _⟩),rfl,q _ (I.hok.fresh (Nat.le_refl _))⟩
section
variable {K : PySem.W.Frag} {H : Hp} {Q : VK} {v : V} {ds : List PyData} {k : Int}
theorem IsAll.rep {xs : List V} {ds : List PyData} (h : IsAll K H xs ds) : ∀ n : Nat,IsAll K H (List.replicate n xs).flatten (List.replicate n ds).flatten
 | 0=>.nil
 | n + 1=>by
   rw [List.replicate_succ,List.replicate_succ,List.flatten_cons,List.flatten_cons]
   exact h.append (IsAll.rep h n)
theorem znt (h : Is K H v (.tuple ds)) (hne : ds ≠ []) (h1 : 1 <= k) (h2 : k <= 1000) (h3 : ds.length <= 1000) (q : ∀ w H',zaf H H' -> Is K H' w (.tuple (List.replicate k.toNat ds).flatten) -> Q w H') : zgR K v (.int k) H Q:=by
 obtain ⟨a,xs,rfl,hs,t⟩:=zaH.mp h
 have hl:=t.length
 refine ⟨a,k,xs,rfl,rfl,hs,fun z=>?_,h1,h2,by omega,fun z=>?_,fun p hp=>q _ _ (zaf.upd hp) (zaH.mpr ⟨p,_,rfl,.of zar,IsAll.same (zaf.upd hp) _ _ (t.rep _)⟩)⟩
 . rw [z] at hl; exact hne (List.eq_nil_of_length_eq_zero (by simpa using hl.symm))
 . subst z
   refine q _ H (zaf.refl _) ?_
   rw [show (1 : Int).toNat = 1 from rfl,List.replicate_one,List.flatten_cons,List.flatten_nil,List.append_nil]
   exact h
theorem zjS {α : Type} (d : α) : ∀ n : Nat,(List.replicate n [d]).flatten = List.replicate n d
 | 0=>rfl
 | n + 1=>by rw [List.replicate_succ,List.flatten_cons,zjS d n,List.replicate_succ]; rfl
theorem zeT {d : PyData} (h : Is K H v (.tuple [d])) (h1 : 1 <= k) (h2 : k <= 1000) (q : ∀ w H',zaf H H' -> Is K H' w (.tuple (List.replicate k.toNat d)) -> Q w H') : zgR K v (.int k) H Q :=
 znt h (by simp) h1 h2 (by simp) fun w H' s i=>q w H' s (by rw [zjS] at i; exact i)
end
end L2
set_option Elab.async false
set_option linter.all false
set_option maxRecDepth 100000
namespace TB
open PySem PySem.W PyProof.Rows
section
variable {prog : Program} {w : World} {A : Around} {E : Value -> Shared -> Prop} {s : Shared}
theorem sorted_list {a : Addr} {vs : List Value} (hl : s.heap.IsList a vs.toArray) (h64 : vs.length < 64) (ht : ∀ v ∈ vs,Tw s.heap v) {Q : Value -> Shared -> Prop}
   (q : ∀ (l : Addr) (g : Heap) (us : List Value) (c : Nat),us.Perm vs -> s.heap.objs.size <= l -> g.get? l = some (seqObj "list" us.toArray c) -> (∀ b o,s.heap.get? b = some o -> g.get? b = some o) -> Q (.ref l) { s with heap:=g }) :
   wpAny (model prog w) A (call (.builtin "sorted") [.ref a]) Q E s:=by
 refine Calls.call_function_entry kind_sorted plain_sorted entry_sorted (args_sorted1 _) ?_
 unfold Builtin.«sorted»
 refine wpAny_bind (m:=checkCount "sorted" 1 1 _) (wpAny_pure ?_)
 refine wpAny_bind (collect_list hl ?_)
 have kp : ∀ b o,s.heap.get? b = some o -> ((s.heap.push (seqObj "list" #[] 0)).update s.heap.objs.size (Obj.mapSeq (· ++ vs.toArray))).get? b = some o:=fun b o e =>
   ((Heap.SameBut.update (s.heap.push (seqObj "list" #[] 0)) s.heap.objs.size (Obj.mapSeq (· ++ vs.toArray))).2 b (Nat.ne_of_lt (Heap.lt_size e))).trans (Heap.get?_push_of_some _ e)
 have sz : ((s.heap.push (seqObj "list" #[] 0)).update s.heap.objs.size (Obj.mapSeq (· ++ vs.toArray))).objs.size = s.heap.objs.size + 1:=by
   rw [Heap.size_update,Heap.size_push]
 show wpAny (model prog w) A.in1 _ _ E { s with heap:=(s.heap.push (seqObj "list" #[] 0)).update s.heap.objs.size (Obj.mapSeq (· ++ vs.toArray)) }
 generalize (s.heap.push (seqObj "list" #[] 0)).update s.heap.objs.size (Obj.mapSeq (· ++ vs.toArray)) = h' at *
 have tw : ∀ v ∈ vs,Tw (h'.push (seqObj "list" vs.toArray 0)) v:=fun v hv=>(ht v hv).grow fun b o _ ho=>Heap.get?_push_of_some _ (kp b o ho)
 refine wpAny_bind (wpAny_newList ?_ (by rw [sizeLine_eq]; omega))
 have hoL : (h'.push (seqObj "list" vs.toArray 0)).get? h'.objs.size = some (seqObj "list" vs.toArray 0):=Heap.get?_push_size _ rfl
 refine wpAny_bind (wpAny_holding (wpAny_call_entry slot_list_sort ⟨_,hoL,rfl⟩ entry_list_sort (zlT (s:={ s with heap:=h'.push (seqObj "list" vs.toArray 0) }) hoL h64 tw fun g us c h1 h2 h3=>⟨_,rfl,?_⟩) (args_list_sort _)))
 exact wpAny_pure ⟨_,rfl,q _ g us c h1 (by show s.heap.objs.size <= h'.objs.size; omega) h2 fun b o e=>h3 b o (Nat.ne_of_lt (Heap.lt_size (kp b o e))) (Heap.get?_push_of_some _ (kp b o e))⟩
end
end TB
namespace L2
open PySem PySem.Spec PyProof.Rows GM
def zkF (K : PySem.W.Frag) : List V -> Hp -> VK -> Prop:=fun xs H Q=>∃ (p : Addr) (ws : List V),xs = [.ref p] /\ SqL K H p ws /\ ws.length < 64 /\ (∀ v ∈ ws,∃ k,k ≠ [] /\ TpI K H v k) /\ ∀ (l : Addr) (us : List V),H l = none -> us.Perm ws -> Q (.ref l) (upd H l (.lst us))
theorem zkm {X : Cx} : zaj X (.builtin "sorted") (zkF X.K):=by
 intro pins s σ H xs us Q I r h
 obtain ⟨p,ws,rfl,hp,h64,ht,q⟩:=h
 obtain ⟨u,rfl,rx⟩:=zcR r
 cases rx
 obtain ⟨its,r',pl,hz⟩:=I.list hp
 have hl:=r'.length
 have hr : ∀ u ∈ its,∃ a k,k ≠ [] /\ u = .ref a /\ SqT X.K H a (k.map V.int):=fun u hu=>by
   obtain ⟨i,hi⟩:=List.mem_iff_getElem?.mp hu
   obtain ⟨x,hx,hxr⟩:=Paired.back r' hi
   obtain ⟨k,k0,a,rfl,h2⟩:=ht x (List.mem_of_getElem? hx)
   exact ⟨a,k,k0,hxr,h2⟩
 refine TB.sorted_list pl.isList (by omega) (fun u hu=>?_) fun l g us c pm hle hg kp=>?_
 . obtain ⟨a,k,k0,e2,hs⟩:=hr u hu
   rw [e2]
   exact I.tw hs k0
 . have hu : ∀ u ∈ us,∃ a,u = .ref a:=fun u hu=>by
     obtain ⟨a,k,k0,e2,hs⟩:=hr u (pm.mem_iff.mp hu)
     exact ⟨a,e2⟩
   have pw : (us.map zkT).Perm ws:=by
     rw [znF (fun u hu=>by obtain ⟨a,k,k0,e2,hs⟩:=hr u hu; exact ⟨a,e2⟩) r']
     exact pm.map _
   refine ⟨.ref l,_,I.laid (t':=s.toks) kp hle (show za9 X.prog X.w _ _ _ (.lst (us.map zkT)) from ⟨?_,us,c,zdc us hu,hg⟩),rfl,q l _ (I.hok.fresh hle) pw⟩
   rw [pw.length_eq]
   exact Nat.le_of_lt (zbH (by omega))
theorem zgO {K : PySem.W.Frag} {H : Hp} {α : Type} {f : α -> PyData} : ∀ {ks : List α} {ws : List V},IsAll K H ws (ks.map f) -> ∀ v ∈ ws,∃ k ∈ ks,Is K H v (f k)
 | [],ws,h,v,hv=>by rw [za4.mp h] at hv; cases hv
 | k :: ks,ws,h,v,hv=>by
   rw [List.map_cons] at h
   obtain ⟨x,r,rfl,q,t⟩:=zaA.mp h
   rcases List.mem_cons.mp hv with e | hv
   . subst e; exact ⟨k,List.mem_cons_self ..,q⟩
   . obtain ⟨k',m,i⟩:=zgO t v hv
     exact ⟨k',List.mem_cons_of_mem _ m,i⟩
theorem zkA {K : PySem.W.Frag} {H : Hp} {α : Type} {f : α -> PyData} {us ws : List V} (p : us.Perm ws) : ∀ {ks : List α},IsAll K H ws (ks.map f) -> ∃ js : List α,js.Perm ks /\ IsAll K H us (js.map f):=by
 induction p with
 | nil=>intro ks h; exact ⟨ks,.refl _,h⟩
 | cons x _ ih =>
   intro ks h
   cases ks with
   | nil=>exact absurd (za4.mp h) (by simp)
   | cons k ks =>
     rw [List.map_cons] at h
     obtain ⟨y,r,e,q,t⟩:=zaA.mp h
     cases e
     obtain ⟨js,pj,tj⟩:=ih t
     exact ⟨k :: js,.cons k pj,.cons q tj⟩
 | swap x y l =>
   intro ks h
   cases ks with
   | nil=>exact absurd (za4.mp h) (by simp)
   | cons k ks =>
     rw [List.map_cons] at h
     obtain ⟨y',r,e,q,t⟩:=zaA.mp h
     cases e
     cases ks with
     | nil=>exact absurd (za4.mp t) (by simp)
     | cons k' ks =>
       rw [List.map_cons] at t
       obtain ⟨y',r,e,q',t⟩:=zaA.mp t
       cases e
       exact ⟨k' :: k :: ks,.swap k k' ks,.cons q' (.cons q t)⟩
 | trans _ _ ih1 ih2 =>
   intro ks h
   obtain ⟨js,pj,tj⟩:=ih2 h
   obtain ⟨is,pi,ti⟩:=ih1 tj
   exact ⟨is,pi.trans pj,ti⟩
theorem znY {K : PySem.W.Frag} {H : Hp} {Q : VK} {v : V} {ks : List (List Int)} (h : Is K H v (.list (ks.map TZ))) (z : ks.length < 64) (hk : ∀ k ∈ ks,k ≠ []) (q : ∀ (l : Addr) (H' : Hp) (us : List V) (js : List (List Int)),H l = none -> zaf H H' -> H' l = some (.lst us) -> js.Perm ks -> IsAll K H' us (js.map TZ) -> Q (.ref l) H') : zkF K [v] H Q:=by
 obtain ⟨p,ws,rfl,hs,t⟩:=zaM.mp h
 have hl:=t.length
 rw [List.length_map] at hl
 refine ⟨p,ws,rfl,hs,by omega,fun v hv=>?_,fun l us hn pm=>?_⟩
 . obtain ⟨k,m,i⟩:=zgO t v hv
   exact ⟨k,hk k m,zdp.mp i⟩
 . obtain ⟨js,pj,tj⟩:=zkA pm t
   exact q l _ us js hn (zaf.upd hn) zar pj (IsAll.same (zaf.upd hn) _ _ tj)
end L2
set_option Elab.async false
set_option linter.all false
set_option maxRecDepth 100000
namespace L2
open PySem PySem.Spec PyProof.Rows GM
def zpW (K : PySem.W.Frag) (ta : TA) : TI:=fun σ H R=>ta σ H fun vs H1=>∃ t u a b,vs = [.ref a,.ref b] /\ (∃ xs,SqK t K H1 a xs) /\ (∃ ys,SqK u K H1 b ys) /\ R (Itz t u K a b) H1
theorem zlI {X : Cx} {elts : List Expr} {k1} {tpos p pos : Pos} {l m : Expr} {ta : TA} (hg : Gl X "zip") (hm : X.mg "zip" = none) (ha : PA X [l,m] ta) (hs : starEach [l,m] X.env = [(false,eval l X.env),(false,eval m X.env)]:=by rfl) (hs2 : starEach [m] X.env = [(false,eval m X.env)]:=by rfl) :
   PI X (.Tuple elts k1 tpos) (.Call (.Name "zip" p) [l,m] [] pos) (zpW X.K ta):=by
 intro pins s σ H R I h
 refine Call_ (zcW I hg hm znT (PyProof.Rows.callWith_type1 (thn (ha pos pins s σ H _ I h) fun us s1 ⟨vs,H1,I1,r1,q1⟩=>?_) (by rw [hs,hs2]) (by rw [hs2]; rfl)))
 obtain ⟨t,u,a,b,rfl,⟨xs,hq1⟩,⟨ys,hq2⟩,q⟩:=q1
 obtain ⟨u',v,rfl,ru,rv⟩:=zgB r1
 cases ru
 cases rv
 obtain ⟨its,_,p1⟩:=I1.seqK hq1
 obtain ⟨jts,_,p2⟩:=I1.seqK hq2
 cases t with
 | true =>
   have la : a < s1.heap.objs.size:=by obtain ⟨o,e,_⟩:=(show s1.heap.IsTuple a its.toArray from p1); exact Heap.lt_size e
   cases u with
   | true =>
     have lb : b < s1.heap.objs.size:=by obtain ⟨o,e,_⟩:=(show s1.heap.IsTuple b jts.toArray from p2); exact Heap.lt_size e
     exact zhP p1 p2 fun h' hz hi ho t1 t2 kp=>zgJ (t:=true) (u:=true) I1 la lb hz hi ho t1 t2 kp q
   | false =>
     have lb : b < s1.heap.objs.size:=by obtain ⟨o,e,_⟩:=(show s1.heap.IsList b jts.toArray from p2); exact Heap.lt_size e
     exact zl0 p1 p2 fun h' hz hi ho t1 t2 kp=>zgJ (t:=true) (u:=false) I1 la lb hz hi ho t1 t2 kp q
 | false =>
   have la : a < s1.heap.objs.size:=by obtain ⟨o,e,_⟩:=(show s1.heap.IsList a its.toArray from p1); exact Heap.lt_size e
   cases u with
   | true =>
     have lb : b < s1.heap.objs.size:=by obtain ⟨o,e,_⟩:=(show s1.heap.IsTuple b jts.toArray from p2); exact Heap.lt_size e
     exact zms p1 p2 fun h' hz hi ho t1 t2 kp=>zgJ (t:=false) (u:=true) I1 la lb hz hi ho t1 t2 kp q
   | false =>
     have lb : b < s1.heap.objs.size:=by obtain ⟨o,e,_⟩:=(show s1.heap.IsList b jts.toArray from p2); exact Heap.lt_size e
     exact call_zip_2 p1 p2 fun h' hz hi ho t1 t2 _ kp=>zgJ (t:=false) (u:=false) I1 la lb hz hi ho t1 t2 kp q
section
variable {K : PySem.W.Frag} {g : TG} {tt : TT} {te : TE} {tb : TS} {ta : TA} {D : zbR} {src : List (Option Nat)} {σ : L2.St} {H : Hp} {Q : VK}
theorem zlR (h : ta σ H fun vs H1=>∃ t u,zld t u K g tt te src σ vs H1 Q) : ze4 src (zpW K ta) g tt te σ H Q:=by
 refine (show ta σ H _ from ?_)
 have e : (fun vs H1=>∃ t u,zld t u K g tt te src σ vs H1 Q) = fun vs H1=>∃ t u a b,vs = [.ref a,.ref b] /\ (∃ xs,SqK t K H1 a xs) /\ (∃ ys,SqK u K H1 b ys) /\ ∀ D,H1 D = none -> zdB g tt te (Itz t u K a b) D (zaO src σ) (upd H1 D (.lst [])) (fun H'=>Q (.ref D) H'):=rfl
 rw [e] at h
 exact h
theorem zkD {v : V} {ds : List PyData} (h : Is K H v (.list ds) \/ Is K H v (.tuple ds)) : ∃ t a us,v = .ref a /\ SqK t K H a us /\ IsAll K H us ds:=by
 rcases h with h | h
 . obtain ⟨a,xs,e,hs,t⟩:=zaM.mp h
   exact ⟨false,a,xs,e,hs,t⟩
 . obtain ⟨a,xs,e,hs,t⟩:=zaH.mp h
   exact ⟨true,a,xs,e,hs,t⟩
end
end L2
set_option Elab.async false
set_option linter.all false
set_option maxRecDepth 100000
namespace TB
open PySem PySem.W PyProof.Rows
section
variable {prog : Program} {w : World} {A : Around} {E : Value -> Shared -> Prop} {s : Shared}
theorem typeCall_enumS (a : Value) (t : Tok) : checkTypeCall "enumerate" ⟨[a],[("start",.int 1 t)]⟩ = pure ():=by kernel_rfl
theorem newCall_enumS (a : Value) (t : Tok) : checkBuiltinCall "enumerate.__new__" ⟨[.type "enumerate",a],[("start",.int 1 t)]⟩ = pure ():=by kernel_rfl
theorem argsInit_enumS (o a : Value) (t : Tok) : argsOk "object.__init__" ⟨[o,a],[("start",.int 1 t)]⟩:=by
 unfold argsOk; rw [signature?_of (id:="object.__init__") (n:=['_','_','t','i','n','i','_','_']) (o:=['t','c','e','j','b','o']) (by kernel_rfl) F.owner_object]; kernel_rfl
theorem callType_meetsK {T newId initId : String} {Bn Bi : Builtin} {args : List Value} {kw : List (Str × Value)} {S : PySem.Spec} {Q Q₁ : Value -> Shared -> Prop} (ft : TypeCalled T newId initId)
   (hct : checkTypeCall T ⟨args,kw⟩ = pure ()) (hcn : checkBuiltinCall newId ⟨.type T :: args,kw⟩ = pure ())
   (entryN : entryFor table newId = some Bn) (entryI : entryFor table initId = some Bi) (g : Meets (Bn ⟨.type T :: args,kw⟩) S)
   (h : S A.in1 (wants Q₁ E) s)
   (hnext : ∀ obj s₁,Q₁ obj s₁ -> s₁.TypeIs obj T /\ argsOk initId ⟨obj :: args,kw⟩ /\ ∃ Si,Meets (Bi ⟨obj :: args,kw⟩) Si /\ Si A.in1 (wants (fun r s₂=>r = .none /\ Q obj s₂) E) s₁) :
   wpAny (model prog w) A (call (.type T) args kw) Q E s:=by
 obtain ⟨c,tl,hmro⟩:=ft.mro
 have hmade:=ft.made
 have hsub:=ft.sub
 refine wpAny_call (codeAny_of_tree ?_)
 show wpAny _ _ (callAny (.type T) _) _ _ _
 refine wpAny_pure ⟨Code.quiet_builtin _ (by decide +kernel),codeAny_builtin F.entry_type_call ?_⟩
 rw [Around.under_plain (weight_type_call_type T args kw) (units_type_call_type T args kw)]
 have h1:=ft.notType
 have h2:=ft.canCreate
 repeat (any_goals (first | assumption | wp_step))
 refine codeAny_mono (codeAny_call_builtin ft.plain entryN (wpAny_of_eq hcn (g prog w A.in1 _ s h))) fun r s₁ hr=>?_
 cases r with
 | error e=>exact hr
 | ok fl =>
   cases fl with
   | ret obj =>
     obtain ⟨hT,hok,Si,gi,hsi⟩:=hnext _ _ hr
     have hli:=ft.init.lookup
     have hbi:=ft.init.bind obj
     repeat (any_goals (first | assumption | wp_step))
     refine codeAny_mono (codeAny_call_builtin ft.init.plain entryI (ft.init.check _ _ _ _ _ _ _ _ hT hok (gi prog w A.in1 _ s₁ hsi))) fun r₂ s₂ hr₂=>?_
     cases r₂ with
     | error e=>exact hr₂
     | ok fl₂ =>
       cases fl₂ with
       | ret r =>
         obtain ⟨rfl,hq⟩:=hr₂
         repeat (any_goals (first | assumption | wp_step))
       | _=>exact hr₂.elim
   | _=>exact hr.elim
theorem object_init_K {T newId : String} {self : Value} {rest : List Value} {kw : List (Str × Value)} (hl : typeLookup (.type T) "__init__" = pure (some (.builtin "object.__init__")))
   (hm : Bind.madeBy (.type T) = pure (some newId)) (hne : (some newId != some "object.__new__") = true) (hk : rest ≠ []) :
   Meets (Builtin.«object.__init__» ⟨self :: rest,kw⟩) (fun _ R s=>s.TypeIs self T /\ R (.ok (.ret .none)) s):=by
 refine Meets.of_wp fun prog w A R s hs=>?_
 obtain ⟨hT,hq⟩:=hs
 cases rest with
 | nil=>exact absurd rfl hk
 | cons a rest =>
   repeat (any_goals (first | assumption | wp_step))
   exact ⟨_,rfl,hq⟩
open AutoSeq1 (wpAny_loadPart') in
set_option maxHeartbeats 1000000 in
theorem meets_enumS (tu : Addr) (its : Array Value) (n : Nat) (dct : Option Addr) (sl : Array (Option Value)) (t : Tok) : Meets (Builtin.«enumerate.__new__» ⟨[.type "enumerate",.ref tu],[("start",.int 1 t)]⟩) (fun _ R s=>s.heap.get? tu = some { cls:=.type "tuple",dict:=dct,data:=.seq its n,slots:=sl } /\
   R (.ok (.ret (.ref (s.heap.push { cls:=.type "tuple_iterator",data:=.fields #[.ref tu,.int 0 0] }).objs.size))) { s with heap:=(s.heap.push { cls:=.type "tuple_iterator",data:=.fields #[.ref tu,.int 0 0] }).push { cls:=.type "enumerate",data:=.fields #[.none,.bool false,.ref s.heap.objs.size,rawInt 1,.none,.none] } }) :=
 .of_wp fun prog w A R s h=>by
   obtain ⟨hp,g,d,tk,os⟩:=s
   obtain ⟨et,h⟩:=h
   have hsub:=sub_enumerate
   have hT : Heap.IsTuple (Shared.heap ⟨hp,g,d,tk,os⟩) tu its:=⟨_,et,rfl,n,rfl⟩
   wp_walk using wpAny_loadPart' et
   refine wpAny_stack_any fun st=>wpAny_pure ?_
   split
   . rename_i c _ _ _ _ _
     cases (c == Value.type "enumerate") <;> (wp_walk using wpAny_loadPart' et,wpAny_pyIter_tuple hT; exact ⟨_,rfl,h⟩)
   . wp_walk using wpAny_loadPart' et,wpAny_pyIter_tuple hT
     exact ⟨_,rfl,h⟩
end
end TB
namespace L2
open PySem PySem.Spec PyProof.Rows GM
theorem zqQ {prog : Program} {w : World} {A : Around} (hh : A.handled = none) (it tu : Addr) (hne : tu ≠ it) (its : Array Value) : Draws prog w A it [it,tu] (its.size + 1) (fun i v=>1 <= i /\ its[i - 1]? = some v) (fun i h=>1 <= i /\ h.IsTupleIter it tu (i - 1) /\ h.IsTuple tu its) where
 live:=fun _ _ st=>let ⟨o,ho,_⟩:=st.2.1; ⟨o,ho⟩
 frame:=fun _ _ _ st hk=>⟨st.1,st.2.1.at fun o e=>hk it (by simp) o e,st.2.2.at fun o e=>hk tu (by simp) o e⟩
 item:=fun i s Q E hi st hQ=>by
   obtain ⟨h1,h2,h3⟩:=st
   obtain ⟨j,rfl⟩ : ∃ j,i = j + 1:=⟨i - 1,by omega⟩
   have hj : j < its.size:=by omega
   exact zfA h2 h3 (x:=its[j]) (by simp [hj]) fun h' hit' hs'=>hQ _ h' s.toks ⟨by omega,by simp [hj]⟩ ⟨by omega,hit',h3.extBut hs'.extBut hne⟩ hs'
 done:=fun s Q E st hE=>zc6 hh st.2.1 st.2.2 (by simp) hE
def zor (K : PySem.W.Frag) (a : Addr) : It :=
 ⟨fun i H=>∃ xs x,SqT K H a xs /\ xs[i]? = some x,fun i H y H'=>∃ t x,y = .ref t /\ H t = none /\ (∀ xs,SqT K H a xs -> xs[i]? = some x) /\ H' = upd H t (.tup [.int ((i : Int) + 1),x]),fun i H=>∃ xs,SqT K H a xs /\ xs.length <= i⟩
theorem zkl {P : Program} {w : World} {K : PySem.W.Frag} {elts : List Expr} {k1} {tpos : Pos} (a e it : Addr) (hne : e ≠ it) : zhi P w K (.Tuple elts k1 tpos) (zor K a) [e,it] e (fun i h=>(∃ old,IsEnum h e it ((i : Int) + 1) old) /\ h.IsTupleIter it a i) where
 mem:=by simp
 obj:=fun i h st b hb=>by
   obtain ⟨⟨old,he⟩,o,eo,c,d⟩:=st
   rcases List.mem_cons.mp hb with rfl | hb
   . exact ⟨_,he,fun v z=>by cases (show Data.fields _ = Data.cell v from z)⟩
   . rw [List.mem_singleton.mp hb]
     exact ⟨o,eo,fun v z=>by rw [d] at z; cases z⟩
 keep:=fun i h h' st k=>⟨let ⟨old,he⟩:=st.1; ⟨old,k e (by simp) _ he⟩,st.2.at fun o eo=>k it (by simp) o eo⟩
 item:=by
   intro X hP hw hK hc i pins s σ H E I hf st hg
   subst hP hw hK
   obtain ⟨⟨old,he⟩,st⟩:=st
   obtain ⟨xs,x,hq,hx⟩:=hg
   obtain ⟨its,rv,p,hz⟩:=I.tuple hq
   obtain ⟨u,hu,ru⟩:=rv.get hx
   have p' : s.heap.IsTuple a its.toArray:=p
   have hai : a ≠ it:=fun z=>by
     subst z
     obtain ⟨o,e1,c1,_⟩:=st
     obtain ⟨o',e2,c2,_⟩:=p'
     rw [e1] at e2; cases e2
     rw [c1] at c2; exact absurd c2 (by decide)
   have hae : e ≠ a:=fun z=>by
     subst z
     obtain ⟨o',e2,c2,_⟩:=p'
     rw [he] at e2; cases e2
     exact absurd (show Value.type "enumerate" = Value.type "tuple" from c2) (by decide)
   have hlt : i < its.toArray.size:=by
     rcases Nat.lt_or_ge i its.length with z | z
     . simpa using z
     . rw [List.getElem?_eq_none z] at hu; cases hu
   refine wpAny_pyNext_enum_itemD (i:=i + 1) (zqQ (A:=X.A.in1) (I.ok.hd hc) it a hai its.toArray) he ⟨by omega,st,p'⟩ (by omega) hne (by simp [hne,hae]) fun v h1 tk hv ho hs1 hT hsz hk=>?_
   have hvu : v = u:=by
     have hv' : its[i]? = some v:=by simpa using hv.2
     rw [hu] at hv'; exact (Option.some.inj hv').symm
   subst hvu
   have I1 : Inv X pins σ (upd H s.heap.objs.size (.tup [.int ((i : Int) + 1),x])) { s with heap:=s.heap.push { cls:=.type "tuple",data:=.seq ([.int ((i : Int) + 1) tk,v] : List Value).toArray },toks:=tk + 1 } :=
     I.laid (fun b o q=>Heap.get?_push_of_some _ q) (Nat.le_refl _) (show za9 X.prog X.w _ _ _ (.tup [.int ((i : Int) + 1),x]) from ⟨zdk (by simp),_,.cons ⟨_,rfl⟩ (.cons ru .nil),IsTup.new _ _⟩)
   have lt1 : ∀ b ∈ [e,it],b < s.heap.objs.size:=fun b hb=>by
     rcases List.mem_cons.mp hb with rfl | hb
     . exact Heap.lt_size he
     . rw [List.mem_singleton.mp hb]
       obtain ⟨o,eo,_⟩:=st
       exact Heap.lt_size eo
   have hf1 : ∀ b ∈ [e,it],zdD X pins (upd H s.heap.objs.size (.tup [.int ((i : Int) + 1),x])) b:=fun b hb=>⟨by rw [zbj (Nat.ne_of_lt (lt1 b hb))]; exact (hf b hb).1,(hf b hb).2⟩
   refine ⟨_,rfl,wpAny_letOwnedTupleGo_enum ho fun h2 he2 hs2=>?_⟩
   refine ⟨.ref s.heap.objs.size,_,Inv.turnedL (s:={ s with heap:=s.heap.push { cls:=.type "tuple",data:=.seq ([.int ((i : Int) + 1) tk,v] : List Value).toArray },toks:=tk + 1 }) (ch:=[e,it]) I1 (fun b o hb q=>?_) hf1,rfl,⟨_,x,rfl,I.hok.fresh (Nat.le_refl _),fun ys hy=>by rw [I.tuple_inj hy hq]; exact hx,rfl⟩,⟨⟨_,by rw [show ((i + 1 : Nat) : Int) + 1 = (i : Int) + 1 + 1 from by omega]; exact he2⟩,hs1.2.1.at fun o eo=>(hs2.2 it (Ne.symm hne)).trans eo⟩,fun b hb=>(hf1 b hb).1⟩
   have hbe : b ≠ e:=fun z=>hb (by simp [z])
   have hbi : b ≠ it:=fun z=>hb (by simp [z])
   refine (hs2.2 b hbe).trans ?_
   by_cases hb2 : b = s.heap.objs.size
   . subst hb2
     rw [Heap.get?_push_size _ rfl] at q
     cases q
     exact hT
   . exact hk b o hbe hbi (by rw [Heap.get?_push_ne _ _ _ hb2] at q; exact q)
 done:=by
   intro X hP hw hK hc i pins s σ H E I hf st hg
   subst hP hw hK
   obtain ⟨⟨old,he⟩,st⟩:=st
   obtain ⟨xs,hq,hx⟩:=hg
   obtain ⟨its,rv,p,hz⟩:=I.tuple hq
   have p' : s.heap.IsTuple a its.toArray:=p
   have hai : a ≠ it:=fun z=>by
     subst z
     obtain ⟨o,e1,c1,_⟩:=st
     obtain ⟨o',e2,c2,_⟩:=p'
     rw [e1] at e2; cases e2
     rw [c1] at c2; exact absurd c2 (by decide)
   have hl:=rv.length
   have hT : s.TypeIs (.ref e) "enumerate":=⟨_,he,rfl⟩
   unfold pyNext
   refine wpAny_bind (wpAny_attempt (wpAny_callSpecial?_slot (name:=Str.ofString "__next__") hT F.slot_enumerate_next (wpAny_call_entry F.slot_enumerate_next hT F.entry_enumerate_next ?_ (F.args_enumerate_next_1 _))))
   show wpAny _ _ (field (.ref e) 2 >>= _) _ _ _; refine wpAny_bind (wpAny_field he rfl (x:=.ref it) rfl ?_)
   refine wpAny_bind (zc6 (A:=X.A.in1) (I.ok.hd hc) st p' (by simp; omega) fun h' y he' hx'=>?_)
   obtain ⟨o,ho,hcl⟩:=hx'
   refine wpAny_bind (wpAny_isInstance (T:="StopIteration") (b:=true) ⟨o,ho,hcl⟩ isSubtype_stop (wpAny_pure ⟨rfl,?_⟩))
   obtain ⟨f0,f1,f2,f3,f4,f5⟩:=hf it (by simp)
   exact I.turned (t':=s.toks) (fun b o hb e=>he' b o hb e) f0 f1 f3 f4 f5
 self:=fun _ _ _ _ _ st h=>let ⟨_,he⟩:=st.1; wpAny_pyIter_enum he h
def znZ (K : PySem.W.Frag) (ta : TA) : TI:=fun σ H R=>ta σ H fun vs H1=>∃ a,vs = [.ref a] /\ (∃ xs,SqT K H1 a xs) /\ R (zor K a) H1
open PySem.W in
theorem zky {prog : Program} {w : World} {A : Around} {E : Value -> Shared -> Prop} {s : Shared} {tu : Addr} {its : Array Value} {t : Tok} {Q : Value -> Shared -> Prop} (hT : s.heap.IsTuple tu its) (fin : ∀ h',IsEnum h' (s.heap.objs.size + 1) s.heap.objs.size 1 .none -> h'.IsTupleIter s.heap.objs.size tu 0 -> (∀ b o,s.heap.get? b = some o -> h'.get? b = some o) -> Q (.ref (s.heap.objs.size + 1)) { s with heap:=h' }) :
   wpAny (model prog w) A (call (.type "enumerate") [.ref tu] [("start",.int 1 t)]) Q E s:=by
 obtain ⟨⟨c,dct,dt,sl⟩,et,hc,n,hd⟩:=hT
 obtain rfl : c = .type "tuple":=hc
 obtain rfl : dt = .seq its n:=hd
 refine TB.callType_meetsK F.called_enumerate (TB.typeCall_enumS _ t) (TB.newCall_enumS _ t) F.entry_enumerate_new F.entry_object_init (TB.meets_enumS tu its n dct sl t) (Q₁:=fun obj s₁=>s₁.TypeIs obj "enumerate" /\ Q obj s₁) ⟨et,?_⟩ fun obj s₁ hq=>⟨hq.1,TB.argsInit_enumS obj _ t,_,TB.object_init_K F.called_enumerate.init.lookup F.called_enumerate.made (by decide) (by simp),hq.1,rfl,hq.2⟩
 have hz : (s.heap.push { cls:=.type "tuple_iterator",data:=.fields #[.ref tu,.int 0 0] }).objs.size = s.heap.objs.size + 1:=Heap.size_push ..
 show _ /\ _
 rw [hz]
 have he : IsEnum ((s.heap.push { cls:=.type "tuple_iterator",data:=.fields #[.ref tu,.int 0 0] }).push { cls:=.type "enumerate",data:=.fields #[.none,.bool false,.ref s.heap.objs.size,rawInt 1,.none,.none] }) (s.heap.objs.size + 1) s.heap.objs.size 1 .none:=by
   rw [<- hz]; exact Heap.get?_push_size _ rfl
 exact ⟨⟨_,he,rfl⟩,fin _ he ⟨_,Heap.get?_push_of_some _ (Heap.get?_push_size _ rfl),rfl,rfl⟩ fun b o x=>Heap.get?_push_of_some _ (Heap.get?_push_of_some _ x)⟩
theorem zf8 {M : Model} {A : Around} {E : Value -> Shared -> Prop} {s : Shared} {pos : Pos} {T : String} {first : List Value} {args : List (Bool × Sem Value)} {keywords : List (Option Str × Sem Value)} {Q : Value -> Shared -> Prop}
   (hplain : args.any (·.1) = false) (hkw : keywords.any (·.1.isNone) = false)
   (h : wpAny M A (evalArgs (.type T) true args keywords) (fun a s₁=>wpAny M A (call (.type T) (first ++ a.pos) a.kw) Q E s₁) E s) :
   wpAny M A (callWith pos (.type T) first args keywords) Q E s:=by
 unfold callWith
 refine wpAny_bind (wpAny_holding (wpAny_mono h (fun a s₁ h₁=>wpAny_bind (wpAny_standAt ?_)) fun _ _ x=>x))
 simp only [hplain,hkw,Bool.or_false]
 refine wpAny_bind (wpAny_pure ?_)
 exact wpAny_bind (wpAny_mono h₁ (fun r s₂ hr=>wpAny_bind (wpAny_holding (wpAny_point (wpAny_pure hr)))) fun _ _ x=>x)
theorem zm2 {X : Cx} {elts : List Expr} {k1 : Nat} {c1 : Nat} {tpos p pos kp cp : Pos} {l : Expr} {ta : TA} (hg : Gl X "enumerate") (hm : X.mg "enumerate" = none) (ha : PA X [l] ta) (hs : starEach [l] X.env = [(false,eval l X.env)]:=by rfl) :
   PI X (.Tuple elts k1 tpos) (.Call (.Name "enumerate" p) [l] [⟨some "start",.Constant (.int 1) c1 cp,kp⟩] pos) (znZ X.K ta):=by
 intro pins s σ H R I h
 refine wpAny_Call_Name_kw (zcW I hg hm zeO ?_)
 refine zf8 (by rw [hs]; rfl) (by rfl) ?_
 rw [show backTo pos (starEach [l] X.env) = (false,eval l X.env) :: backTo pos [] from by rw [hs]; rfl]
 refine evalArgs_kwB (by rfl) ?_
 have ha':=ha pos pins s σ H _ I h
 rw [hs] at ha'
 refine thn ha' fun us s1 ⟨vs,H1,I1,r1,q1⟩=>?_
 refine kws_cons (rest:=[]) ?_
 refine wpAny_Constant_int ?_
 refine kws_nil ?_
 obtain ⟨a,rfl,⟨xs,hq⟩,q⟩:=q1
 obtain ⟨u,rfl,ru⟩:=zcR r1
 cases ru
 have I1:=I1.tok (s1.toks + 1)
 obtain ⟨its,rv,pt,hz⟩:=I1.tuple hq
 refine zky (show Heap.IsTuple _ a its.toArray from pt) fun h' he hit kp=>?_
 refine wpAny_pyIter_enum he ?_
 refine ⟨s1.heap.objs.size + 1,[s1.heap.objs.size + 1,s1.heap.objs.size],_,_,H1,rfl,I1.kept (t':=s1.toks + 1) kp,zkl a (s1.heap.objs.size + 1) s1.heap.objs.size (Nat.succ_ne_self _),⟨⟨_,he⟩,hit⟩,fun b hb=>?_,q⟩
 have hb' : s1.heap.objs.size <= b:=by
   rcases List.mem_cons.mp hb with rfl | hb
   . omega
   . rw [List.mem_singleton.mp hb]; exact Nat.le_refl _
 exact I1.fpOk hb' (I1.hok.fresh hb')
def zpY (K : PySem.W.Frag) (g : TG) (tb : TS) (D : zbR) (σ : St) (vs : List V) (H1 : Hp) : Prop:=∃ a,vs = [.ref a] /\ (∃ xs,SqT K H1 a xs) /\
 ∃ W : Nat -> Nat -> St -> Hp -> Prop,(∃ m,W 0 m σ H1) /\ ∀ i m σ H,W i m σ H ->
   ((zor K a).stop i H /\ D.nx σ H) \/ ((zor K a).go i H /\ ∃ M : St -> Hp -> Prop,(∀ σ' H',M σ' H' -> ∃ m',m' < m /\ W (i + 1) m' σ' H') /\ ∀ x H',(zor K a).yld i H x H' -> g x σ H' fun σ2 H2=>tb { D with nx:=M,ct:=M,bk:=D.nx } σ2 H2)
section
variable {K : PySem.W.Frag} {ta : TA} {g : TG} {tb : TS} {D : zbR} {σ : St} {H : Hp} {a : Addr} {xs : List V}
theorem zmK (h : ta σ H fun vs H1=>zpY K g tb D σ vs H1) : zjP (znZ K ta) g tb D σ H:=h
theorem zkv (hx : SqT K H a xs) (Pv : Nat -> St -> Hp -> Prop) (h0 : Pv 0 σ H) (hl : ∀ i σ H,i <= xs.length -> Pv i σ H -> SqT K H a xs)
   (hs : ∀ i x σ H t H',xs[i]? = some x -> Pv i σ H -> H t = none -> zaf H H' -> H' t = some (.tup [.int ((i : Int) + 1),x]) -> g (.ref t) σ H' fun σ2 H2=>tb { D with nx:=Pv (i + 1),ct:=Pv (i + 1),bk:=D.nx } σ2 H2) (hd : ∀ σ H,Pv xs.length σ H -> D.nx σ H) : zpY K g tb D σ [.ref a] H:=by
 refine ⟨a,rfl,⟨xs,hx⟩,fun i m σ H=>i + m = xs.length /\ Pv i σ H,⟨xs.length,by omega,h0⟩,?_⟩
 rintro i m σ H ⟨him,hp⟩
 have hq:=hl i σ H (by omega) hp
 by_cases hm : m = 0
 . have e : i = xs.length:=by omega
   subst e
   exact .inl ⟨⟨xs,hq,Nat.le_refl _⟩,hd _ _ hp⟩
 . have hi : i < xs.length:=by omega
   refine .inr ⟨⟨xs,xs[i],hq,by simp [hi]⟩,fun σ' H'=>Pv (i + 1) σ' H',fun σ' H' h=>⟨m - 1,by omega,by omega,h⟩,?_⟩
   rintro y H' ⟨t,x,rfl,hn,hx',rfl⟩
   exact hs i x σ H t _ (hx' xs hq) hp hn (zaf.upd hn) zar
end
end L2
set_option Elab.async false
set_option linter.all false
set_option maxRecDepth 100000
namespace GM
def zbo (c : Int) (u : List Int) : Nat -> Int -> Int
 | 0,p=>p
 | k + 1,p=>if c <= p then p else zbo c u k (p + u.getD p.toNat 0)
theorem zhu {c p : Int} {u : List Int} (h : c <= p) : ∀ k,zbo c u k p = p
 | 0=>rfl
 | k + 1=>by rw [zbo,if_pos h]
theorem zd8 (c : Int) (u : List Int) (b : Nat) : ∀ (a : Nat) (p : Int),zbo c u b (zbo c u a p) = zbo c u (a + b) p
 | 0,p=>by rw [zbo,Nat.zero_add]
 | a + 1,p=>by
   rw [Nat.add_right_comm,zbo,zbo]
   split
   . rename_i h; exact zhu h b
   . exact zd8 c u b a _
theorem zmd {c : Int} {u : List Int} (k : Nat) (p : Int) : zbo c u (k + 1) p = if c <= zbo c u k p then zbo c u k p else zbo c u k p + u.getD (zbo c u k p).toNat 0:=by
 rw [<- zd8]
 rfl
theorem zn4 {α : Type} {P : α -> Prop} {l : List α} {d : α} (h : ∀ x ∈ l,P x) (hd : P d) (i : Nat) : P (l.getD i d):=by
 rw [List.getD_eq_getElem?_getD]
 cases e : l[i]? with
 | none=>exact hd
 | some x=>exact h x (List.mem_of_getElem? e)
theorem zgp {c : Int} {u : List Int} (hu : ∀ x ∈ u,0 <= x /\ x <= 60) : ∀ (k : Nat) (p : Int),p <= zbo c u k p /\ (zbo c u k p <= p \/ zbo c u k p <= c + 60)
 | 0,p=>⟨Int.le_refl _,.inl (Int.le_refl _)⟩
 | k + 1,p=>by
   rw [zbo]
   split
   . exact ⟨Int.le_refl _,.inl (Int.le_refl _)⟩
   . have h0:=zn4 (P:=fun x=>0 <= x /\ x <= 60) (d:=0) hu (by decide) p.toNat
     have:=zgp (c:=c) hu k (p + u.getD p.toNat 0)
     omega
def zcD (n : Nat) (t : List Int) : Prop:=∃ a b d : Nat,t = [(a : Int),(b : Int),(d : Int)] /\ a < n /\ b < n /\ a ≠ b /\ d <= 4
structure zaN (rs : List Int) (us ts : List (List Int)) : Prop where
 n1 : 1 <= rs.length
 n8 : rs.length <= 8
 r : ∀ r ∈ rs,1 <= r /\ r <= 60
 ul : us.length = rs.length
 u : ∀ i,i < rs.length -> ((us.getD i []).length : Int) = rs.getD i 0 /\ ∀ x ∈ us.getD i [],0 <= x /\ x <= 60
 tl : ts.length <= 60
 t : ∀ t ∈ ts,zcD rs.length t
 nd : ts.Nodup
theorem zaN.perm {rs : List Int} {us ts ts' : List (List Int)} (w : zaN rs us ts) (p : ts'.Perm ts) : zaN rs us ts' :=
 ⟨w.n1,w.n8,w.r,w.ul,w.u,by rw [p.length_eq]; exact w.tl,fun t ht=>w.t t (p.mem_iff.mp ht),p.nodup_iff.mpr w.nd⟩
theorem zaN.ri {rs : List Int} {us ts : List (List Int)} (w : zaN rs us ts) {i : Nat} (h : i < rs.length) : 1 <= rs.getD i 0 /\ rs.getD i 0 <= 60:=by
 rw [List.getD_eq_getElem?_getD,List.getElem?_eq_getElem h]
 exact w.r _ (List.getElem_mem h)
def zdK (g : List Nat) (w d : Nat) (t : List Int) : Bool:=decide ((t.getD 0 0).toNat ∈ g) && (decide (t.getD 1 0 = (w : Int)) && decide (t.getD 2 0 = (d : Int)))
def zcd (ts : List (List Int)) (g : List Nat) (w d : Nat) : Nat:=(ts.filter (zdK g w d)).length
theorem zk0 (ts : List (List Int)) (g : List Nat) (w d : Nat) : zcd ts g w d <= ts.length:=List.length_filter_le ..
theorem ziV {g f : List Nat} (h : ∀ x ∈ f,x ∉ g) (w d : Nat) : ∀ ts : List (List Int),zcd ts (g ++ f) w d = zcd ts g w d + zcd ts f w d
 | []=>rfl
 | t :: ts=>by
   have ih:=ziV h w d ts
   unfold zcd at ih ⊢
   rw [List.filter_cons,List.filter_cons,List.filter_cons]
   have e : zdK (g ++ f) w d t = (zdK g w d t || zdK f w d t):=by
     unfold zdK
     rw [show decide ((t.getD 0 0).toNat ∈ g ++ f) = (decide ((t.getD 0 0).toNat ∈ g) || decide ((t.getD 0 0).toNat ∈ f)) by
       rw [Bool.eq_iff_iff,Bool.or_eq_true,decide_eq_true_eq,decide_eq_true_eq,decide_eq_true_eq,List.mem_append]]
     cases decide ((t.getD 0 0).toNat ∈ g) <;> cases decide ((t.getD 0 0).toNat ∈ f) <;> cases (decide (t.getD 1 0 = (w : Int)) && decide (t.getD 2 0 = (d : Int))) <;> rfl
   have nb : ¬ (zdK g w d t = true /\ zdK f w d t = true):=by
     rintro ⟨h1,h2⟩
     unfold zdK at h1 h2
     rw [Bool.and_eq_true,decide_eq_true_eq] at h1 h2
     exact h _ h2.1 h1.1
   rw [e]
   cases h1 : zdK g w d t <;> cases h2 : zdK f w d t
   . simpa using ih
   . simp only [Bool.or_true,if_true,Bool.false_eq_true,if_false,List.length_cons,ih]; omega
   . simp only [Bool.true_or,if_true,Bool.false_eq_true,if_false,List.length_cons,ih]; omega
   . exact absurd ⟨h1,h2⟩ nb
theorem zj0 {g f : List Nat} {ts : List (List Int)} {n : Nat} (ht : ∀ t ∈ ts,zcD n t) (h : ∀ x,x < n -> (x ∈ g ↔ x ∈ f)) (w d : Nat) : zcd ts g w d = zcd ts f w d:=by
 unfold zcd
 congr 1
 refine List.filter_congr fun t hm=>?_
 obtain ⟨a,b,c,rfl,ha,_⟩:=ht t hm
 unfold zdK
 have : (([(a : Int),(b : Int),(c : Int)] : List Int).getD 0 0).toNat = a:=by simp
 rw [this]
 by_cases h1 : a ∈ g
 . rw [decide_eq_true h1,decide_eq_true ((h a ha).mp h1)]
 . rw [decide_eq_false h1,decide_eq_false fun z=>h1 ((h a ha).mpr z)]
section
variable (rs : List Int) (us ts : List (List Int)) (ps cs : List Int)
def phG (g : List Nat) (w : Nat) : Int:=zbo (rs.getD w 0) (us.getD w []) ((cs.getD w 0).toNat + zcd ts g w 0) (ps.getD w 0 + 1)
def fresh (g : List Nat) : List Nat:=(List.range rs.length).filter fun w=>!decide (w ∈ g) && decide (rs.getD w 0 <= phG rs us ts ps cs g w)
def zbP : Nat -> List Nat -> List (List Nat)
 | 0,_=>[]
 | f + 1,g=>if fresh rs us ts ps cs g = [] then [] else fresh rs us ts ps cs g :: zbP f (g ++ fresh rs us ts ps cs g)
def zcM : Nat -> List Nat -> List Nat
 | 0,g=>g
 | f + 1,g=>if fresh rs us ts ps cs g = [] then g else zcM f (g ++ fresh rs us ts ps cs g)
end
section
variable {rs : List Int} {us ts : List (List Int)} {ps cs : List Int}
theorem zdU {g : List Nat} {w : Nat} (h : w ∈ fresh rs us ts ps cs g) : w < rs.length /\ w ∉ g:=by
 unfold fresh at h
 rw [List.mem_filter,List.mem_range,Bool.and_eq_true,Bool.not_eq_true',decide_eq_false_iff_not] at h
 exact ⟨h.1,h.2.1⟩
theorem zhm : ∀ (n : Nat) (g : List Nat),g.Nodup -> (∀ w ∈ g,w < n) -> g.length <= n
 | 0,[],_,_=>Nat.le_refl _
 | 0,w :: g,_,h=>absurd (h w (List.mem_cons_self ..)) (Nat.not_lt_zero _)
 | n + 1,g,nd,h=>by
   have h1:=zhm n (g.erase n) (nd.erase n) fun w hw=>by
     have hm:=nd.mem_erase_iff.mp hw
     have:=h w hm.2
     have : w ≠ n:=hm.1
     omega
   have h2 : g.length <= (g.erase n).length + 1:=by
     rw [List.length_erase]
     split <;> omega
   omega
structure zhc (n : Nat) (g : List Nat) : Prop where
 nd : g.Nodup
 lt : ∀ w ∈ g,w < n
theorem zhc.len {n : Nat} {g : List Nat} (h : zhc n g) : g.length <= n:=by
 exact zhm n g h.nd h.lt
theorem zhc.app {g : List Nat} (h : zhc rs.length g) : zhc rs.length (g ++ fresh rs us ts ps cs g):=by
 refine ⟨List.nodup_append.mpr ⟨h.nd,(List.nodup_range).filter _,fun a ha b hb e=>?_⟩,fun w hw=>?_⟩
 . subst e; exact (zdU hb).2 ha
 . rcases List.mem_append.mp hw with z | z
   . exact h.lt w z
   . exact (zdU z).1
theorem zaI {g : List Nat} (h : fresh rs us ts ps cs g = []) : ∀ f,zbP rs us ts ps cs f g = [] /\ zcM rs us ts ps cs f g = g
 | 0=>⟨rfl,rfl⟩
 | f + 1=>⟨by rw [zbP,if_pos h],by rw [zcM,if_pos h]⟩
theorem zaE {g : List Nat} (h : fresh rs us ts ps cs g ≠ []) (f : Nat) : zbP rs us ts ps cs (f + 1) g = fresh rs us ts ps cs g :: zbP rs us ts ps cs f (g ++ fresh rs us ts ps cs g) /\ zcM rs us ts ps cs (f + 1) g = zcM rs us ts ps cs f (g ++ fresh rs us ts ps cs g) :=
 ⟨by rw [zbP,if_neg h],by rw [zcM,if_neg h]⟩
end
section
variable (rs : List Int) (us ts : List (List Int)) (ps cs : List Int)
structure Run (f : Nat) (g : List Nat) (acc : List (List Nat)) : Prop where
 go : zhc rs.length g
 fl : rs.length < f + g.length
 ws : acc ++ zbP rs us ts ps cs f g = zbP rs us ts ps cs 9 []
 ge : zcM rs us ts ps cs f g = zcM rs us ts ps cs 9 []
end
section
variable {rs : List Int} {us ts : List (List Int)} {ps cs : List Int} {f : Nat} {g : List Nat} {acc : List (List Nat)}
theorem Run.start (h : rs.length <= 8) : Run rs us ts ps cs 9 [] []:=⟨⟨List.nodup_nil,fun w hw=>by cases hw⟩,by simp; omega,rfl,rfl⟩
theorem Run.step (R : Run rs us ts ps cs f g acc) (h : fresh rs us ts ps cs g ≠ []) : ∃ f',f = f' + 1 /\ Run rs us ts ps cs f' (g ++ fresh rs us ts ps cs g) (acc ++ [fresh rs us ts ps cs g]):=by
 have hl:=R.go.len
 have hf:=R.fl
 obtain ⟨f',rfl⟩ : ∃ f',f = f' + 1:=⟨f - 1,by omega⟩
 have hp : 0 < (fresh rs us ts ps cs g).length:=List.length_pos_iff.mpr h
 refine ⟨f',rfl,R.go.app,by rw [List.length_append]; omega,?_,?_⟩
 . rw [<- R.ws,(zaE h f').1,List.append_assoc]; rfl
 . rw [<- R.ge,(zaE h f').2]
theorem Run.stop (R : Run rs us ts ps cs f g acc) (h : fresh rs us ts ps cs g = []) : acc = zbP rs us ts ps cs 9 [] /\ g = zcM rs us ts ps cs 9 []:=by
 obtain ⟨h1,h2⟩:=zaI h f
 have:=R.ws
 have hg:=R.ge
 rw [h1,List.append_nil] at this
 rw [h2] at hg
 exact ⟨this,hg⟩
theorem zjq : ∀ (f : Nat) (g : List Nat),zhc rs.length g -> rs.length < f + g.length -> zhc rs.length (zcM rs us ts ps cs f g) /\ fresh rs us ts ps cs (zcM rs us ts ps cs f g) = []
 | 0,g,h,k=>by have:=h.len; omega
 | f + 1,g,h,k=>by
   by_cases e : fresh rs us ts ps cs g = []
   . rw [(zaI e _).2]; exact ⟨h,e⟩
   . rw [(zaE e f).2]
     have hp : 0 < (fresh rs us ts ps cs g).length:=List.length_pos_iff.mpr e
     exact zjq f _ h.app (by rw [List.length_append]; omega)
end
section
variable (rs : List Int) (us ts : List (List Int)) (ps : List Int) (cm : List (List Int))
def zdf : List (List Nat):=zbP rs us ts ps (cm.getD 0 []) 9 []
def zcX : List Nat:=zcM rs us ts ps (cm.getD 0 []) 9 []
def zcA : List Int:=(List.range rs.length).map fun w=>if w ∈ zcX rs us ts ps cm then 0 else phG rs us ts ps (cm.getD 0 []) (zcX rs us ts ps cm) w
def zha (ts : List (List Int)) (cm : List (List Int)) (g : List Nat) (n : Nat) : List (List Int):=(List.range 4).map fun d=>(List.range n).map fun w=>(cm.getD (d + 1) []).getD w 0 + (zcd ts g w (d + 1) : Int)
def zeD : List (List Int):=zha ts cm (zcX rs us ts ps cm) rs.length
end
structure zdq (rs : List Int) (ps : List Int) (cm : List (List Int)) : Prop where
 pl : ps.length = rs.length
 p : ∀ i,i < rs.length -> 0 <= ps.getD i 0 /\ ps.getD i 0 < rs.getD i 0
 cl : cm.length = 4
 c : ∀ d,d < 4 -> (cm.getD d []).length = rs.length /\ ∀ i,i < rs.length -> 0 <= (cm.getD d []).getD i 0 /\ (cm.getD d []).getD i 0 <= 240 - 60 * (d : Int)
theorem zb9 {α : Type} {f : Nat -> α} {n i : Nat} {d : α} (h : i < n) : ((List.range n).map f).getD i d = f i:=by
 rw [List.getD_eq_getElem?_getD,List.getElem?_map,List.getElem?_range h]; rfl
section
variable {rs : List Int} {us ts : List (List Int)} {ps : List Int} {cm : List (List Int)}
theorem znn (w : zaN rs us ts) : zhc rs.length (zcX rs us ts ps cm) /\ fresh rs us ts ps (cm.getD 0 []) (zcX rs us ts ps cm) = [] :=
 zjq 9 [] ⟨List.nodup_nil,fun w hw=>by cases hw⟩ (by have:=w.n8; simp; omega)
theorem zlS {cs : List Int} {g : List Nat} (h : fresh rs us ts ps cs g = []) {w : Nat} (hw : w < rs.length) (hg : w ∉ g) : phG rs us ts ps cs g w < rs.getD w 0:=by
 apply Int.not_le.mp
 intro z
 have : w ∈ fresh rs us ts ps cs g:=by
   unfold fresh
   rw [List.mem_filter,List.mem_range,Bool.and_eq_true,Bool.not_eq_true',decide_eq_false_iff_not,decide_eq_true_eq]
   exact ⟨hw,hg,z⟩
 rw [h] at this
 cases this
theorem zkX (w : zaN rs us ts) (s : zdq rs ps cm) (g : List Nat) {i : Nat} (h : i < rs.length) : 1 <= phG rs us ts ps (cm.getD 0 []) g i /\ phG rs us ts ps (cm.getD 0 []) g i <= rs.getD i 0 + 60:=by
 have h1:=zgp (c:=rs.getD i 0) (w.u i h).2 (((cm.getD 0 []).getD i 0).toNat + zcd ts g i 0) (ps.getD i 0 + 1)
 have h2:=s.p i h
 unfold phG
 omega
theorem zdq.next (w : zaN rs us ts) (s : zdq rs ps cm) : zdq rs (zcA rs us ts ps cm) (zeD rs us ts ps cm):=by
 obtain ⟨g1,g2⟩:=znn (ps:=ps) (cm:=cm) w
 refine ⟨by simp [zcA],fun i h=>?_,by simp [zeD,zha],fun d hd=>?_⟩
 . unfold zcA
   rw [zb9 h]
   have:=w.ri h
   split
   . omega
   . rename_i hn
     have h1:=zlS g2 h hn
     have h2:=zkX w s (zcX rs us ts ps cm) h
     omega
 . unfold zeD zha
   rw [zb9 hd]
   refine ⟨by simp,fun i h=>?_⟩
   rw [zb9 h]
   have h1:=zk0 ts (zcX rs us ts ps cm) i (d + 1)
   have h2:=w.tl
   rcases Nat.lt_or_ge (d + 1) 4 with z | z
   . have:=(s.c (d + 1) z).2 i h
     omega
   . have e : cm.getD (d + 1) [] = []:=by
       rw [List.getD_eq_getElem?_getD,List.getElem?_eq_none (by rw [s.cl]; omega)]; rfl
     rw [e]
     simp
     omega
end
end GM
namespace L2
open PySem PySem.Spec PyProof.Rows GM
def TTr (rows : List (List Int)) : PyData:=.tuple (rows.map TZ)
def zbb (rs : List Int) (us ts : List (List Int)) : PyData:=.tuple [TZ rs,TTr us,TTr ts]
def StD (ps : List Int) (cm : List (List Int)) : PyData:=.tuple [TZ ps,TTr cm]
def zlp (ws : List (List Nat)) (ps : List Int) (cm : List (List Int)) : PyData:=.tuple [TWs ws,StD ps cm]
theorem za3 : ∀ rows : List (List Int),ImmAll (rows.map TZ) = true
 | []=>by simp [ImmAll]
 | x :: xs=>by rw [List.map_cons,ImmAll,zgv,za3 xs]; rfl
theorem zfT (rows : List (List Int)) : Imm (TTr rows) = true:=by rw [TTr,Imm]; exact za3 rows
theorem zjO (rs : List Int) (us ts : List (List Int)) : Imm (zbb rs us ts) = true:=by rw [zbb,Imm,ImmAll,ImmAll,ImmAll,ImmAll,zgv,zfT,zfT]; rfl
theorem zk5 (ps : List Int) (cm : List (List Int)) : Imm (StD ps cm) = true:=by rw [StD,Imm,ImmAll,ImmAll,ImmAll,zgv,zfT]; rfl
section
variable {K : PySem.W.Frag} {H H' : Hp} {Q : VK} {v : V} {rs ps : List Int} {us ts cm rows : List (List Int)} {m : Int} {ws : List (List Nat)}
theorem Is.thruW (h : Is K H v (zbb rs us ts)) (k : za7 H H') : Is K H' v (zbb rs us ts):=h.byK k (zjO _ _ _)
theorem Is.thruS (h : Is K H v (StD ps cm)) (k : za7 H H') : Is K H' v (StD ps cm):=h.byK k (zk5 _ _)
theorem zbJ (h : Is K H v (zbb rs us ts)) (q : ∀ x,Is K H x (TZ rs) -> Q x H) : rIx K v (.int 0) H Q:=zdP (j:=0) h rfl q
theorem zec (h : Is K H v (zbb rs us ts)) (q : ∀ x,Is K H x (TTr us) -> Q x H) : rIx K v (.int 1) H Q:=zdP (j:=1) h rfl q
theorem zeN (h : Is K H v (zbb rs us ts)) (q : ∀ x,Is K H x (TTr ts) -> Q x H) : rIx K v (.int 2) H Q:=zdP (j:=2) h rfl q
theorem zgU (h : Is K H v (StD ps cm)) (q : ∀ x,Is K H x (TZ ps) -> Q x H) : rIx K v (.int 0) H Q:=zdP (j:=0) h rfl q
theorem ziQ (h : Is K H v (StD ps cm)) (q : ∀ x,Is K H x (TTr cm) -> Q x H) : rIx K v (.int 1) H Q:=zdP (j:=1) h rfl q
theorem zn7 (h : Is K H v (zlp ws ps cm)) (q : ∀ x,Is K H x (TWs ws) -> Q x H) : rIx K v (.int 0) H Q:=zdP (j:=0) h rfl q
theorem zou (h : Is K H v (zlp ws ps cm)) (q : ∀ x,Is K H x (StD ps cm) -> Q x H) : rIx K v (.int 1) H Q:=zdP (j:=1) h rfl q
theorem zgg (h : Is K H v (TTr rows)) (h0 : 0 <= m) (h1 : m < rows.length) (q : ∀ x,Is K H x (TZ (rows.getD m.toNat [])) -> Q x H) : rIx K v (.int m) H Q:=by
 obtain ⟨j,rfl⟩:=Int.eq_ofNat_of_zero_le h0
 have hj : j < rows.length:=by omega
 refine zdP (j:=j) h (d:=TZ (rows.getD j [])) ?_ q
 rw [List.getElem?_map,List.getD_eq_getElem?_getD,List.getElem?_eq_getElem hj]; rfl
end
theorem zq6 (rows : List (List Int)) : PyData.eqv (TTr rows) (TTr rows) = true:=zgm fun d hd=>by
 obtain ⟨r,_,rfl⟩:=List.mem_map.mp hd
 exact zp2 r
theorem znq (ps : List Int) (cm : List (List Int)) : PyData.eqv (StD ps cm) (StD ps cm) = true:=zgm fun d hd=>by
 simp only [List.mem_cons,List.not_mem_nil,or_false] at hd
 rcases hd with rfl | rfl
 . exact zp2 _
 . exact zq6 _
theorem zmX {α : Type} {l : List α} {x : α} (d : α) (h : x ∈ l) : ∃ i,i < l.length /\ l.getD i d = x:=by
 obtain ⟨i,hi,e⟩:=List.getElem_of_mem h
 exact ⟨i,hi,by rw [List.getD_eq_getElem?_getD,List.getElem?_eq_getElem hi]; exact e⟩
end L2
namespace L2
open PySem PySem.Spec PyProof.Rows GM
theorem zq2 {i : Nat} {te : TE} {ti : TIp} {D : zbR} {σ : L2.St} {H : Hp} (h : ∃ x,σ[i]? = some (some x) /\ te σ H fun y H1=>ti x y H1 fun z H2=>D.nx (σ.set i (some z)) H2) : zrK i te ti D σ H:=h
theorem zpa {v : V} {P : V -> Prop} {o : Option (Option V)} (h : o = some (some v)) (q : P v) : ∃ x,o = some (some x) /\ P x:=⟨v,h,q⟩
theorem zqu {f : Int -> Int -> Int} {m n : Int} {H : Hp} {Q : VK} (q : Q (.int (f m n)) H) : ipI f (.int m) (.int n) H Q:=⟨m,n,rfl,rfl,q⟩
end L2
set_option Elab.async false
set_option linter.all false
set_option maxRecDepth 100000
namespace TB
open PySem PySem.W PyProof.Rows
def valI : Value -> Int
 | .int n _=>n
 | _=>0
section
variable {prog : Program} {w : World} {A : Around} {E : Value -> Shared -> Prop} {s : Shared}
def IS (prog : Program) (w : World) (h : Heap) (a : Addr) (led : Bool) (ks : List Int) : Prop :=
 ∃ o es ep t,h.get? a = some o /\ o.ExactSet /\ o.data = .set es ep t /\ Tb t (es.toList.map (·.1)) /\ es.size * 5 < t.mask * 3 /\ (t.mask <= 7 \/ t.mask <= 8 * es.size) /\ t.led = led /\ t.plain = true /\ ElemsOf (intKind prog w) es.toList /\ es.toList.map (fun e=>valI e.2) = ks /\ ks.Nodup
theorem IS.same {h g : Heap} {S : Addr} {led : Bool} {ks : List Int} (x : IS prog w h S led ks) (e : ∀ o,h.get? S = some o -> g.get? S = some o) : IS prog w g S led ks:=by
 obtain ⟨o,es,ep,t,c1,r⟩:=x
 exact ⟨o,es,ep,t,e o c1,r⟩
theorem IS.new {h : Heap} {S : Addr} {led : Bool} (e : h.get? S = some { cls:=.type "set",dict:=none,data:=.set #[] 0 (.fresh 0 0 led) }) : IS prog w h S led [] :=
 ⟨_,#[],0,_,e,⟨rfl,rfl,rfl⟩,rfl,⟨fun i j _ hj=>absurd hj (Nat.not_lt_zero _),rfl,rfl,⟨3,Nat.le_refl _,rfl⟩,fun i hi=>absurd hi (Nat.not_lt_zero _),Nat.zero_le _,fun i hi=>absurd hi (Nat.not_lt_zero _)⟩,(by show 0 * 5 < 7 * 3; decide),.inl (Nat.le_refl _),rfl,rfl,(fun e he=>by simp at he),rfl,List.nodup_nil⟩
theorem isI_iff {k : Int} {v : Value} : (intKind prog w).is k v = true ↔ ∃ t,v = .int k t:=by
 constructor
 . intro h
   have h : Value.isInt k v = true:=h
   cases v with
   | int i t=>simp [Value.isInt] at h; exact ⟨t,by rw [h]⟩
   | _=>exact absurd h (by simp [Value.isInt])
 . rintro ⟨t,rfl⟩
   show Value.isInt k (Value.int k t) = true
   simp [Value.isInt]
theorem zhX {l : List (Int × Value)} (h : ElemsOf (intKind prog w) l) {k : Int} : k ∈ l.map (fun e=>valI e.2) ↔ ∃ e ∈ l,(intKind prog w).is k e.2 = true:=by
 rw [List.mem_map]
 constructor
 . rintro ⟨e,he,rfl⟩
   obtain ⟨⟨k',hk,_⟩,_⟩:=h e he
   obtain ⟨t,e2⟩:=isI_iff.mp hk
   exact ⟨e,he,isI_iff.mpr ⟨t,by rw [e2]; rfl⟩⟩
 . rintro ⟨e,he,hk⟩
   obtain ⟨t,e2⟩:=isI_iff.mp hk
   exact ⟨e,he,by rw [e2]; rfl⟩
theorem zoK {t : SetTable} {hs : List Int} (b : Tb t hs) (h : Int) : ∃ n0,(¬ In t (way t.mask (start t.mask h) n0).j /\ ∀ m,m < n0 -> In t (way t.mask (start t.mask h) m).j) /\ t.freeSlot h = some ((way t.mask (start t.mask h) n0).j,false):=by
 obtain ⟨n0,hf0,hE,hF⟩:=b.free h
 refine ⟨n0,⟨hE,hF⟩,?_⟩
 have hp:=zgi b.ris b.dum (fun _=>h + 1) h (p:=start t.mask h) rfl hE hF (10 * SetTable.turns t.mask) 0 (Nat.zero_le _) (by omega)
 unfold SetTable.freeSlot
 rcases hp with ⟨m,i,_,_,_,_,z,_⟩ | ⟨_,e⟩
 . exact absurd z (by omega)
 . have e : t.probe (fun _=>h + 1) h (t.probeStart h) = some (.empty (way t.mask (start t.mask h) n0).j none):=e
   rw [e]; rfl
theorem zpo {a : Addr} {k : Int} {tk : Nat} {led : Bool} {ks : List Int} (hS : IS prog w s.heap a led ks) (hz : ks.length + 1 <= 1000)
   {Q : Bool -> Shared -> Prop} (q : ∀ h' ks',Heap.SameBut a s.heap h' -> IS prog w h' a led ks' -> (k ∈ ks -> ks' = ks) -> (k ∉ ks -> ks'.Perm (k :: ks)) -> ∀ b,Q b { s with heap:=h' }) :
   wpAny (model prog w) A (setAddHashed a (.int k tk) ((intKind prog w).hash k)) Q E s:=by
 obtain ⟨o,es,ep,t,ho,hex,hd,b,hfew,hmask,hled,hpl,hel,hks,hnd⟩:=hS
 have hkl : es.size = ks.length:=by rw [<- hks,List.length_map,Array.length_toList]
 have hfit : t.fits es.size = true:=by have:=b.fits; rwa [List.length_map,Array.length_toList] at this
 have hsz : t.place.size = es.size:=by rw [b.size,List.length_map,Array.length_toList]
 have hkey : (intKind prog w).is k (.int k tk) = true:=isI_iff.mpr ⟨tk,rfl⟩
 have hsc : (Value.int k tk).scannable = true:=rfl
 unfold setAddHashed setAddHashedIn
 refine wpAny_holding (wpAny_bind (wpAny_setState_of ho hd hfit ?_))
 dsimp only
 rw [byScan_of hsc (by unfold scanBound; omega) hel]
 simp only [↓reduceIte]
 unfold setAddByScan
 refine wpAny_bind ?_
 refine wpAny_bind (wpAny_rule ?_)
 refine wpAny_bind (wpAny_setScan_of hkey ho hd hfit hel ?_)
 cases hr : List.findIdx? (fun e=>(intKind prog w).is k e.2) es.toList with
 | some j =>
   dsimp only
   obtain ⟨hj,hpj,_⟩:=List.findIdx?_eq_some_iff_getElem.mp hr
   have hk : k ∈ ks:=by rw [<- hks]; exact (zhX hel).mpr ⟨_,List.getElem_mem hj,hpj⟩
   refine wpAny_pure (wpAny_pure ?_)
   exact q s.heap ks (Heap.SameBut.refl a s.heap) ⟨o,es,ep,t,ho,hex,hd,b,hfew,hmask,hled,hpl,hel,hks,hnd⟩ (fun _=>rfl) (fun h=>absurd hk h) _
 | none =>
   dsimp only
   have hk : k ∉ ks:=fun hm=>by
     rw [<- hks] at hm
     obtain ⟨e,he,hp⟩:=(zhX hel).mp hm
     have:=List.findIdx?_eq_none_iff.mp hr e he
     rw [hp] at this; exact Bool.noConfusion this
   obtain ⟨n0,⟨hE,hF⟩,hfs⟩:=zoK b ((intKind prog w).hash k)
   generalize hH : (intKind prog w).hash k = H at *
   obtain ⟨k8,k3,kk⟩:=b.two
   have m7 : 7 <= t.mask:=by
     have : 2 ^ 3 <= 2 ^ k8:=Nat.pow_le_pow_right (by decide) k3
     omega
   obtain ⟨hp,tb⟩:=b.put hE hF (by rw [hsz]; omega)
   rw [List.length_map,Array.length_toList,hkl] at hp
   have q1 : (t.put (way t.mask (start t.mask H) n0).j).1.plain = t.plain:=rfl
   have q2 : (t.put (way t.mask (start t.mask H) n0).j).1.led = t.led:=rfl
   have q3 : (t.put (way t.mask (start t.mask H) n0).j).1.mask = t.mask:=rfl
   have hlay : layNew t es H (.int k tk) = (SetTable.insertAt es (t.put (way t.mask (start t.mask H) n0).j).2 (H,.int k tk),(t.put (way t.mask (start t.mask H) n0).j).1.orStandIn (SetTable.insertAt es (t.put (way t.mask (start t.mask H) n0).j).2 (H,.int k tk)).size,false,!(t.put (way t.mask (start t.mask H) n0).j).1.fits (SetTable.insertAt es (t.put (way t.mask (start t.mask H) n0).j).2 (H,.int k tk)).size):=by
     unfold layNew
     rw [hfs]
   rw [hlay]
   generalize (t.put (way t.mask (start t.mask H) n0).j).2 = p at *
   generalize (t.put (way t.mask (start t.mask H) n0).j).1 = t1 at *
   have tb' : Tb t1 ((SetTable.insertAt es p (H,Value.int k tk)).toList.map (·.1)):=by
     rw [zbn,zi3]; exact tb
   have z1 : (SetTable.insertAt es p (H,Value.int k tk)).size = es.size + 1:=by
     rw [<- Array.length_toList,zbn,zdt _ (by rw [Array.length_toList,hkl]; exact hp),Array.length_toList]
   have pe : (SetTable.insertAt es p (H,Value.int k tk)).toList.Perm ((H,Value.int k tk) :: es.toList):=by rw [zbn]; exact zhS _ _ _
   have hel1 : ElemsOf (intKind prog w) (SetTable.insertAt es p (H,Value.int k tk)).toList:=fun e he=>by
     rcases List.mem_cons.mp (pe.mem_iff.mp he) with rfl | he
     . exact ⟨⟨k,hkey,hH.symm⟩,rfl⟩
     . exact hel e he
   have pm : ((SetTable.insertAt es p (H,Value.int k tk)).toList.map (fun e=>valI e.2)).Perm (k :: ks):=by
     have:=pe.map (fun e=>valI e.2)
     rw [List.map_cons,hks] at this
     exact this
   have nd : ((SetTable.insertAt es p (H,Value.int k tk)).toList.map (fun e=>valI e.2)).Nodup:=pm.nodup_iff.mpr (List.nodup_cons.mpr ⟨hk,hnd⟩)
   have fit1 : t1.fits (SetTable.insertAt es p (H,Value.int k tk)).size = true:=by
     have:=tb'.fits
     rwa [List.length_map,Array.length_toList] at this
   have hor : t1.orStandIn (SetTable.insertAt es p (H,Value.int k tk)).size = t1:=by unfold SetTable.orStandIn; rw [if_pos fit1]
   rw [hor,fit1]
   clear hor hlay
   generalize SetTable.insertAt es p (H,Value.int k tk) = es1 at *
   dsimp only
   refine wpAny_bind (wpAny_pure ?_)
   rw [if_pos (q1.trans hpl)]
   refine wpAny_bind ?_
   rw [hashByValue_scannable 8 hsc]
   refine wpAny_pure ?_
   rw [show plainKind (Value.int k tk) = true from rfl]
   simp only [↓reduceIte,Bool.not_false,Bool.true_and]
   refine wpAny_bind (wpAny_storeSet_of ho hd ?_ (by rw [z1,sizeLine_eq]; omega))
   have hsb:=Heap.SameBut.update s.heap a (Obj.putSet es1 t1)
   have ho1:=zf5 ho hd es1 t1
   have pz : t1.fill = es.size + 1:=by
     unfold SetTable.fill
     rw [tb'.dum,tb'.size,List.length_map,Array.length_toList,z1]; rfl
   split
   . have h1 : 1 <= es1.size:=by omega
     have hg : SetTable.grown es1.size = 4 * es1.size:=by unfold SetTable.grown; rw [if_neg (by omega),Nat.mul_comm]
     obtain ⟨k2,k3,s1,s2,s3⟩:=zp6 (n:=es1.size) h1 (by omega)
     obtain ⟨t2,ord,e2,m2,l2,p2,_,op,b2⟩:=zlm k3 s1 t1.finger (t1.movedTo (SetTable.sizeAbove (4 * es1.size) - 1)) t1.led t1.plain (hs:=es1.map (·.1)) (by rw [Array.size_map]; omega)
     rw [Array.size_map] at op
     have olt : ∀ i ∈ ord.toList,i < es1.size:=fun i hi=>List.mem_range.mp (op.mem_iff.mp hi)
     have e2' : t1.relaid (es1.map (·.1)) (4 * es1.size) = some (t2,ord):=e2
     have fe : (ord.filterMap (fun i=>es1[i]?)).toList = ord.toList.map fun i=>es1.toList.getD i (0,.none):=by
       rw [Array.toList_filterMap]; exact znP _ es1 _ olt
     have fz : (ord.filterMap (fun i=>es1[i]?)).size = es1.size:=by
       rw [<- Array.length_toList,fe,List.length_map,op.length_eq,List.length_range]
     have b3 : Tb t2 ((ord.filterMap (fun i=>es1[i]?)).toList.map (·.1)):=by
       rw [fe,List.map_map]
       have : (ord.toList.map ((fun x : Int × Value=>x.1) ∘ fun i=>es1.toList.getD i (0,.none))) = ord.toList.map fun k=>(es1.map (·.1)).toList.getD k 0:=by
         refine List.map_congr_left fun i hi=>?_
         have:=olt i hi
         show (es1.toList.getD i (0,.none)).1 = _
         rw [List.getD_eq_getElem?_getD,List.getD_eq_getElem?_getD,Array.toList_map,List.getElem?_map,Array.getElem?_toList,Array.getElem?_eq_getElem this]
         rfl
       rw [this]; exact b2
     have fit2 : t2.fits (ord.filterMap (fun i=>es1[i]?)).size = true:=by
       have:=b3.fits
       rwa [List.length_map,Array.length_toList] at this
     have pe2 : (ord.filterMap (fun i=>es1[i]?)).toList.Perm es1.toList:=by
       rw [fe]
       have:=op.map (fun i=>es1.toList.getD i (0,.none))
       rw [<- Array.length_toList,zfq] at this
       exact this
     have hrel : relayAll t1 es1 (SetTable.grown es1.size) = (ord.filterMap (fun i=>es1[i]?),t2,false):=by
       unfold relayAll
       rw [hg,e2']
       dsimp only
       rw [if_pos (by rw [fit2,Bool.and_true]; unfold coversAll; exact List.isPerm_iff.mpr op)]
     rw [hrel]
     clear hrel
     dsimp only
     generalize ord.filterMap (fun i=>es1[i]?) = es2 at *
     refine wpAny_bind (wpAny_pure ?_)
     refine wpAny_bind (wpAny_storeSet_of ho1 rfl ?_ (by rw [fz,sizeLine_eq]; omega))
     have hsb2:=Heap.SameBut.update (s.heap.update a (Obj.putSet es1 t1)) a (Obj.putSet es2 t2)
     have ho2:=zf5 ho1 rfl es2 t2
     refine wpAny_pure (wpAny_pure (q _ _ (hsb.trans hsb2) ⟨_,es2,_,t2,ho2,hex,rfl,b3,?_,?_,?_,?_,hel1.perm pe2,rfl,?_⟩ (fun h=>absurd h hk) (fun _=>(pe2.map _).trans pm) _))
     . rw [fz,m2]; omega
     . right; rw [fz,m2]; omega
     . rw [l2,q2,hled]
     . rw [p2,q1,hpl]
     . exact (pe2.map (fun e=>valI e.2)).nodup_iff.mpr nd
   . rename_i c
     have c : ¬ t1.tooFull = true:=by simpa using c
     unfold SetTable.tooFull at c
     rw [pz] at c
     refine wpAny_pure (wpAny_pure (q _ _ hsb ⟨_,es1,_,t1,ho1,hex,rfl,tb',?_,?_,q2.trans hled,q1.trans hpl,hel1,rfl,nd⟩ (fun h=>absurd h hk) (fun _=>pm) _))
     . rw [z1]
       have : ¬ t1.mask * 3 <= (es.size + 1) * 5:=by simpa using c
       omega
     . rw [z1,q3]; omega
end
section
variable {prog : Program} {w : World} {A : Around} {R : Result -> Shared -> Prop} {I : Addr} {fp wr : List Addr} {G : Array GenState -> Array GenState -> Prop} {n : Nat} {P : Nat -> Value -> Prop} {St : Nat -> Shared -> Prop}
theorem zsr (W : WalksS prog w A.in1 I fp wr G n P St) {S : Addr} (hSf : S ∉ fp) {led : Bool} {val : Nat -> Int}
   (hval : ∀ i v,P i v -> ∃ t,v = .int (val i) t) (hn : n <= 999) :
   ∀ (c i : Nat) (s : Shared) (ks : List Int),n - i = c -> i <= n -> St i s -> IS prog w s.heap S led ks -> (∀ x,x ∈ ks ↔ ∃ j,j < i /\ val j = x) -> ks.length <= i ->
     (∀ s' ks',Moved (S :: wr) G s s' -> IS prog w s'.heap S led ks' -> (∀ x,x ∈ ks' ↔ ∃ j,j < n /\ val j = x) -> R (.ok (.ret .none)) s') ->
     codeAny (model prog w) A (.builtin "set.update.loop" ⟨[.ref S,.ref I],[]⟩) R s:=by
 have nw : S ∉ wr:=fun x=>hSf (W.sub _ x)
 intro c
 induction c with
 | zero =>
   intro i s ks ec ei st hs hx hl r
   obtain rfl : i = n:=by omega
   refine codeAny_builtin PyProof.Rows.F.entry_set_update_loop ?_
   rw [Around.under_plainId PyProof.Rows.F.plain_set_update_loop _]
   refine wpAny_bind (m:=pyNext (.ref I)) (W.done s _ _ st fun s' mv=>?_)
   exact wpAny_pure (r s' ks (mv.mono fun _ q=>.tail _ q) (hs.same fun o eo=>mv.heap S o nw eo) hx)
 | succ c ih =>
   intro i s ks ec ei st hs hx hl r
   have lt : i < n:=by omega
   refine codeAny_builtin PyProof.Rows.F.entry_set_update_loop ?_
   rw [Around.under_plainId PyProof.Rows.F.plain_set_update_loop _]
   refine wpAny_bind (m:=pyNext (.ref I)) (W.item i s _ _ lt st fun v s' pv st' mv=>?_)
   obtain ⟨tv,rfl⟩:=hval i v pv
   have hs':=hs.same fun o eo=>mv.heap S o nw eo
   refine wpAny_bind (m:=holding [Value.int (val i) tv] (setAdd S (.int (val i) tv))) (wpAny_holding ?_)
   unfold setAdd
   refine wpAny_holding (wpAny_bind ((intKind prog w).pyHash (k:=val i) (isI_iff.mpr ⟨tv,rfl⟩) ?_))
   refine zpo (s:={ s' with toks:=s'.toks + 1 }) hs' (by omega) fun h2 ks2 sb ts2 y1 y2 b=>?_
   have zpB : ∀ x,x ∈ ks2 ↔ ∃ j,j < i + 1 /\ val j = x:=fun x=>by
     have old : x ∈ ks2 ↔ x = val i \/ x ∈ ks:=by
       by_cases d : val i ∈ ks
       . rw [y1 d]; exact ⟨.inr,fun q=>q.elim (fun e=>e ▸ d) id⟩
       . rw [(y2 d).mem_iff,List.mem_cons]
     rw [old,hx]
     constructor
     . rintro (rfl | ⟨j,j1,j2⟩)
       . exact ⟨i,by omega,rfl⟩
       . exact ⟨j,by omega,j2⟩
     . rintro ⟨j,j1,j2⟩
       rcases Nat.eq_or_lt_of_le (Nat.le_of_lt_succ j1) with e | e
       . subst e; exact .inl j2.symm
       . exact .inr ⟨j,e,j2⟩
   have len2 : ks2.length <= i + 1:=by
     by_cases d : val i ∈ ks
     . rw [y1 d]; omega
     . rw [(y2 d).length_eq,List.length_cons]; omega
   refine wpAny_pure ⟨plainId_quiet PyProof.Rows.F.plain_set_update_loop _,ih (i + 1) _ ks2 (by omega) lt (W.frame _ s' _ _ st' (Nat.le_add_right _ _) fun z hz o e=>?_) ts2 zpB len2 fun s3 ks3 mv3 ts3 m3=>?_⟩
   . rw [sb.2 z (fun q=>hSf (q ▸ hz))]; exact e
   . refine r s3 ks3 (Moved.trans W.gtrans ((mv.mono fun _ q=>.tail _ q).then_heap (Nat.le_add_right _ _) fun z o hz e=>?_) mv3) ts3 m3
     rw [sb.2 z (fun q=>hz (q ▸ .head _))]; exact e
end
section
variable {prog : Program} {w : World} {A : Around} {E : Value -> Shared -> Prop} {s : Shared}
set_option maxHeartbeats 3200000 in
theorem call_setI {l : Addr} {its : List Value} {val : Nat -> Int} (hh : A.handled = none) (hl : s.heap.IsList l its.toArray)
   (hi : ∀ (i : Nat) v,its[i]? = some v -> ∃ t,v = .int (val i) t) (hn : its.length <= 999) {Q : Value -> Shared -> Prop}
   (q : ∀ (g : Heap) (tk : Nat) (ks : List Int),IS prog w g s.heap.objs.size (zbf w) ks -> (∀ x,x ∈ ks ↔ ∃ j,j < its.length /\ val j = x) -> (∀ b o,s.heap.get? b = some o -> g.get? b = some o) -> Q (.ref s.heap.objs.size) { s with heap:=g,toks:=tk }) :
   wpAny (model prog w) A (call (.type "set") [.ref l]) Q E s:=by
 obtain ⟨c1,c2,mro⟩:=F.called_set.mro
 have f1:=F.called_set.made
 have f2:=F.called_set.sub
 have f3:=F.called_set.notType
 have f4:=F.called_set.canCreate
 have f5:=F.typeCall_set_1 (.ref l)
 refine wpAny_call (codeAny_of_tree (show wpAny _ _ (callAny (.type "set") _) _ _ _ from ?_))
 refine wpAny_pure ⟨Code.quiet_builtin _ (by decide +kernel),codeAny_builtin F.entry_type_call ?_⟩
 rw [Around.under_plain (weight_type_call_type "set" [.ref l] []) rfl]
 repeat (any_goals (first | assumption | wp_step))
 have nd:=zlK (prog:=prog) (w:=w) (A:=A.in1) (E:=E) (s:=s) (.ref l) (Q:=fun v s1=>v = .ref s.heap.objs.size /\ s1 = { s with heap:=s.heap.push (zaK (zbf w)) }) ⟨rfl,rfl⟩
 refine codeAny_mono nd fun r s1 hr=>?_
 cases r with
 | error e=>exact hr
 | ok fl =>
   cases fl with
   | ret obj =>
     obtain ⟨rfl,rfl⟩:=hr
     have gS : (s.heap.push (zaK (zbf w))).get? s.heap.objs.size = some (zaK (zbf w)):=Heap.get?_push_size _ rfl
     have tS : Shared.TypeIs { s with heap:=s.heap.push (zaK (zbf w)) } (.ref s.heap.objs.size) "set":=⟨_,gS,rfl⟩
     have g1:=F.called_set.init.lookup
     have g2:=F.called_set.init.bind (.ref s.heap.objs.size)
     repeat (any_goals (first | assumption | wp_step))
     refine codeAny_mono (codeAny_call_builtin (R:=wants (fun v s2=>v = .none /\ ∃ g tk ks,s2 = { s with heap:=g,toks:=tk } /\ IS prog w g s.heap.objs.size (zbf w) ks /\ (∀ x,x ∈ ks ↔ ∃ j,j < its.length /\ val j = x) /\ ∀ b o,s.heap.get? b = some o -> g.get? b = some o) E)
       F.called_set.init.plain F.entry_set_init (check_set_init_1 tS ?_)) fun r2 s2 hr2=>?_
     . obtain ⟨ol,e1,e2,nl,e3⟩:=hl
       obtain ⟨y1,y2,y3,y4⟩:=ol
       dsimp only at e2 e3
       subst e2
       subst e3
       have gl : (s.heap.push (zaK (zbf w))).get? l = some { cls:=.type "list",dict:=y2,data:=.seq its.toArray nl,slots:=y4 }:=Heap.get?_push_of_some _ e1
       have n1:=F.sub_list_set
       have n2:=F.sub_list_frozenset
       have n3 : (Value.type "list" == Value.type "dict") = false:=by decide
       have il : (s.heap.push (zaK (zbf w))).IsList l its.toArray:=⟨_,gl,rfl,nl,rfl⟩
       unfold Builtin.«set.__init__» noKeywords Builtin.Frozenset.updateFrom
       generalize hPI : pyIter = PI
       wp_walk
       subst hPI
       refine wpAny_pyIter_list il ?_
       refine wpAny_bind (wpAny_runValue ?_)
       have ls : l < s.heap.objs.size:=Heap.lt_size e1
       have zs : (s.heap.push (zaK (zbf w))).objs.size = s.heap.objs.size + 1:=Heap.size_push ..
       have ne : l ≠ (s.heap.push (zaK (zbf w))).objs.size:=by rw [zs]; exact Nat.ne_of_lt (Nat.lt_succ_of_lt ls)
       have nf : s.heap.objs.size ∉ [(s.heap.push (zaK (zbf w))).objs.size,l]:=by
         rw [zs]
         intro hm
         rcases List.mem_cons.mp hm with e | hm
         . exact absurd e (Nat.ne_of_lt (Nat.lt_succ_self _))
         . rcases List.mem_cons.mp hm with e | hm
           . exact absurd e (Nat.ne_of_gt ls)
           . cases hm
       have kp : ∀ b o,s.heap.get? b = some o -> ((s.heap.push (zaK (zbf w))).push { cls:=.type "list_iterator",data:=.fields #[.ref l,.int 0 0] }).get? b = some o:=fun b o e=>Heap.get?_push_of_some _ (Heap.get?_push_of_some _ e)
       refine zsr ((Walks.list (by simp [hh]) _ l ne its.toArray).toS) (S:=s.heap.objs.size) nf (led:=zbf w) (val:=val)
         (fun i v hp=>hi i v (by simpa using hp)) (by simpa using hn) (its.toArray.size - 0) 0 _ [] rfl (Nat.zero_le _) ⟨⟨_,Heap.get?_push_size _ rfl,rfl,rfl⟩,il.push _⟩
         (IS.new (Heap.get?_push_of_some _ gS)) (fun x=>⟨fun h=>absurd h List.not_mem_nil,fun ⟨j,j1,_⟩=>absurd j1 (Nat.not_lt_zero _)⟩) (Nat.le_refl _) ?fin
       case fin =>
         intro s9 ks9 mv ts9 m9
         obtain ⟨g,x1,x2,x3,x4⟩:=s9
         obtain rfl : x1 = s.gens:=mv.gens
         obtain rfl : x2 = s.drawn:=mv.drawn
         obtain rfl : x4 = s.os:=mv.os
         refine wpAny_pure (wpAny_pure ⟨rfl,g,x3,ks9,rfl,ts9,by simpa using m9,fun b o e=>?_⟩)
         have lb : b < s.heap.objs.size:=Heap.lt_size e
         refine mv.heap b o (fun hm=>?_) (kp b o e)
         rcases List.mem_cons.mp hm with e' | hm
         . exact absurd e' (Nat.ne_of_lt lb)
         . rcases List.mem_cons.mp hm with e' | hm
           . rw [zs] at e'; exact absurd e' (Nat.ne_of_lt (Nat.lt_succ_of_lt lb))
           . cases hm
     . cases r2 with
       | error e=>exact hr2
       | ok fl2 =>
         cases fl2 with
         | ret v =>
           obtain ⟨rfl,g,tk,ks,rfl,a1,a2,a3⟩:=hr2
           repeat (any_goals (first | assumption | wp_step))
           exact q g tk ks a1 a2 a3
         | _=>exact hr2.elim
   | _=>exact hr.elim
theorem zhL : ∀ (l : List (Int × Value)),(∀ e ∈ l,∃ k t,e.2 = Value.int k t) -> IntsAre (l.map (·.2)) (l.map fun e=>valI e.2)
 | [],_=>.nil
 | e :: l,h=>by
   obtain ⟨k,t,e2⟩:=h e (.head _)
   rw [List.map_cons,List.map_cons,e2]
   exact .cons k t (zhL l fun e he=>h e (.tail _ he))
theorem sorted_setI (hh : A.handled = none) {a : Addr} {es : Array (Int × Value)} {ep : Nat} {t : SetTable} (y : SetFix w s.heap a es ep t) (h64 : es.size < 64) (he : ∀ e ∈ es.toList,∃ k t,e.2 = Value.int k t) {Q : Value -> Shared -> Prop}
   (q : ∀ (l : Addr) (g : Heap) (tk : Nat) (us : List Value) (ns : List Int) (c : Nat),IntsAre us ns -> ns.Perm (es.toList.map fun e=>valI e.2) -> ns.Pairwise (· <= ·) -> s.heap.objs.size <= l -> g.get? l = some (seqObj "list" us.toArray c) -> (∀ b o,s.heap.get? b = some o -> g.get? b = some o) -> Q (.ref l) { s with heap:=g,toks:=tk }) :
   wpAny (model prog w) A (call (.builtin "sorted") [.ref a]) Q E s:=by
 refine Calls.call_function_entry kind_sorted plain_sorted entry_sorted (args_sorted1 _) ?_
 unfold Builtin.«sorted»
 refine wpAny_bind (m:=checkCount "sorted" 1 1 _) (wpAny_pure ?_)
 refine wpAny_bind (ziY (A:=A.in1) hh y fun h' tk sz kp=>?_)
 have pm:=zjx w a ep es
 have hI:=zhL _ fun e h=>he e (pm.mem_iff.mp h)
 have ln : ((zc3 w a ep es).toList.map (·.2)).length < 64:=by rw [List.length_map,pm.length_eq,Array.length_toList]; exact h64
 have pk:=pm.map fun e=>valI e.2
 generalize (zc3 w a ep es).toList.map (·.2) = vs at *
 generalize (zc3 w a ep es).toList.map (fun e=>valI e.2) = ks at *
 refine wpAny_bind (wpAny_newList ?_ (by rw [sizeLine_eq]; omega))
 have hoL : (h'.push (seqObj "list" vs.toArray 0)).get? h'.objs.size = some (seqObj "list" vs.toArray 0):=Heap.get?_push_size _ rfl
 refine wpAny_bind (wpAny_holding (wpAny_call_entry slot_list_sort ⟨_,hoL,rfl⟩ entry_list_sort (list_sort_tree (s:={ s with heap:=h'.push (seqObj "list" vs.toArray 0),toks:=tk }) hoL hI ln fun out ns' a1 a2 a3=>⟨_,rfl,?_⟩) (args_list_sort _)))
 obtain ⟨e,he'⟩:=sortedHeap_at (out:=out) hoL
 exact wpAny_pure ⟨_,rfl,q _ _ tk out.toList ns' e a1 (a2.trans pk) a3 (Nat.le_of_lt sz) (by simpa using he') fun b o eb=>(sortedHeap_old (Nat.ne_of_lt (Heap.lt_size (kp b o eb))) (by rw [size_push']; exact Nat.lt_succ_of_lt (Heap.lt_size (kp b o eb)))).trans (Heap.get?_push_of_some _ (kp b o eb))⟩
end
end TB
namespace L2
open PySem PySem.Spec PyProof.Rows GM
def znh (w : World) (a : Addr) (ks : List Int) : HO:=.ext fun h=>∃ es ep t,TB.SetFix w h a es ep t /\ (∀ e ∈ es.toList,∃ k u,e.2 = Value.int k u) /\ es.toList.map (fun e=>TB.valI e.2) = ks
def znI (K : PySem.W.Frag) (w : World) : List V -> Hp -> VK -> Prop:=fun xs H Q=>∃ (p : Addr) (ns : List Int),xs = [.ref p] /\ SqL K H p (ns.map V.int) /\ ns.length <= 999 /\
 ∀ (l : Addr) (ks : List Int),H l = none -> ks.Nodup -> (∀ x,x ∈ ks ↔ x ∈ ns) -> Q (.ref l) (upd H l (znh w l ks))
theorem zkd {X : Cx} (hc : X.calm = true) : zaj X (.type "set") (znI X.K X.w):=by
 intro pins s σ H xs us Q I r h
 obtain ⟨p,ns,rfl,hq,hn,q⟩:=h
 obtain ⟨u,rfl,rx⟩:=zcR r
 cases rx
 obtain ⟨its,r',pl,hz⟩:=I.list hq
 have hlen:=r'.length
 rw [List.length_map] at hlen
 have hI:=zev r'
 refine TB.call_setI (val:=fun i=>ns.getD i 0) (I.ok.hd hc) pl.isList (fun i v hv=>hI.int_at i v hv) (by omega) fun g tk ks hS hm kp=>?_
 obtain ⟨o,es,ep,t,e1,e2,e3,e4,e5,e6,e7,e8,e9,e10,e11⟩:=hS
 have hmem : ∀ x,x ∈ ks ↔ x ∈ ns:=fun x=>by
   rw [hm x,<- hlen]
   constructor
   . rintro ⟨j,hj,rfl⟩; exact GM.getD_mem hj
   . intro hx
     obtain ⟨j,hj,rfl⟩:=List.getElem_of_mem hx
     exact ⟨j,hj,by rw [List.getD_eq_getElem?_getD,List.getElem?_eq_getElem hj]; rfl⟩
 have kl : ks.length <= 999:=Nat.le_trans (zeJ e11 fun x hx=>(hmem x).mp hx) hn
 have hz' : es.size = ks.length:=by rw [<- e10,List.length_map,Array.length_toList]
 refine ⟨.ref s.heap.objs.size,_,I.laid (t':=tk) kp (Nat.le_refl _) (show za9 X.prog X.w _ _ _ (znh X.w s.heap.objs.size ks) from ⟨⟨es,ep,t,⟨⟨o,e1,e2,e3⟩,?_,?_,e4.ris,e8,e7,by omega⟩,?_,e10⟩,⟨o,e1⟩,?_⟩),rfl,
   q _ ks (I.hok.fresh (Nat.le_refl _)) e11 hmem⟩
 . have:=e4.fits
   rwa [List.length_map,Array.length_toList] at this
 . rw [e4.size,List.length_map,Array.length_toList]
 . intro e he
   obtain ⟨⟨k,hk,_⟩,_⟩:=e9 e he
   obtain ⟨u,eu⟩:=TB.isI_iff.mp hk
   exact ⟨k,u,eu⟩
 . rintro h1 h2 ⟨es',ep',t',a1,a2⟩ hh
   exact ⟨es',ep',t',a1.same hh,a2⟩
def zkN (w : World) : List V -> Hp -> VK -> Prop:=fun xs H Q=>∃ (p : Addr) (ks : List Int),xs = [.ref p] /\ H p = some (znh w p ks) /\ ks.length < 64 /\
 ∀ (l : Addr) (ms : List Int),H l = none -> ms.Perm ks -> ms.Pairwise (· <= ·) -> Q (.ref l) (upd H l (.lst (ms.map V.int)))
theorem zku {X : Cx} (hc : X.calm = true) : zaj X (.builtin "sorted") (zkN X.w):=by
 intro pins s σ H xs us Q I r h
 obtain ⟨p,ks,rfl,hp,h64,q⟩:=h
 obtain ⟨u,rfl,rx⟩:=zcR r
 cases rx
 obtain ⟨⟨es,ep,t,y,he,hk⟩,_,_⟩:=I.hok p _ hp
 have hl : ks.length = es.size:=by rw [<- hk,List.length_map,Array.length_toList]
 refine TB.sorted_setI (I.ok.hd hc) y (by omega) he fun l g tk us ns c hI pm so hle hg kp=>?_
 rw [hk] at pm
 have hnl : ns.length < 64:=by rw [pm.length_eq]; exact h64
 refine ⟨.ref l,_,I.laid (t':=tk) kp hle (show za9 X.prog X.w _ _ _ (.lst (ns.map V.int)) from ⟨?_,us,c,zfj hI,hg⟩),rfl,q l ns (I.hok.fresh hle) pm so⟩
 rw [List.length_map]
 exact Nat.le_of_lt (zbH (by omega))
section
variable {K : PySem.W.Frag} {w : World} {H : Hp} {Q : VK} {p : Addr}
theorem zoV {ns : List Int} (h : SqL K H p (ns.map V.int)) (hn : ns.length <= 999) (q : ∀ (l : Addr) (H' : Hp) (ks : List Int),H l = none -> zaf H H' -> H' l = some (znh w l ks) -> ks.Nodup -> (∀ x,x ∈ ks ↔ x ∈ ns) -> Q (.ref l) H') : znI K w [.ref p] H Q :=
 ⟨p,ns,rfl,h,hn,fun l ks hl nd hm=>q l _ ks hl (zaf.upd hl) zar nd hm⟩
theorem zm9 {ks : List Int} (h : H p = some (znh w p ks)) (hn : ks.length < 64) (q : ∀ (l : Addr) (H' : Hp) (ms : List Int),H l = none -> zaf H H' -> H' l = some (.lst (ms.map V.int)) -> ms.Perm ks -> ms.Pairwise (· <= ·) -> Q (.ref l) H') : zkN w [.ref p] H Q :=
 ⟨p,ks,rfl,h,hn,fun l ms hl pm so=>q l _ ms hl (zaf.upd hl) zar pm so⟩
end
end L2
set_option Elab.async false
set_option linter.all false
set_option maxRecDepth 100000
namespace TB
open PySem PySem.W PyProof.Rows
theorem zmc : typeLookup (.type "list") "keys" = pure none:=am_miss_of_fast (by decide +kernel)
theorem zhJ : entryFor table "dict.update.loop" = some Builtin.«dict.update.loop»:=entryFor_of_tree (by kernel_rfl)
theorem zea : plainId "dict.update.loop" = true:=by decide +kernel
section
variable {prog : Program} {w : World} {A : Around} {E : Value -> Shared -> Prop} {s : Shared}
theorem zrt {a : Addr} {o : Obj} {xs : Array Value} {k : Nat} {Q : Option Value -> Shared -> Prop}
   (hx : s.heap.get? a = some o) (hc : o.cls = .type "list") (hdat : o.data = .seq xs k) (hd : o.dict = none) (hA : A.handled = none)
   (q : ∀ h' tk,(∀ b ob,s.heap.get? b = some ob -> h'.get? b = some ob) -> Q none { s with heap:=h',toks:=tk }) :
   wpAny (model prog w) A (getAttr? (.ref a) "keys") Q E s:=by
 obtain ⟨c,dct,dat,sl⟩:=o
 simp only at hc hdat hd
 subst hc hdat hd
 obtain ⟨hp,g,d,tk,os⟩:=s
 have hT : ∀ tk',(⟨hp,g,d,tk',os⟩ : Shared).TypeIs (.ref a) "list":=fun _=>⟨_,hx,rfl⟩
 have f1:=sub_AttributeError
 have f3:=PySem.F.slot_list_getattribute.lookup
 have f4:=PySem.F.slot_list_getattribute.bind (.ref a)
 have f5:=am_list_getattr_none
 unfold getAttr? getAttrBy? getAttrBy
 repeat (any_goals (first | assumption | exact hT _ | ((with_reducible show wpAny _ _ (call (Value.builtin "list.__getattribute__") _ _) _ _ _); refine call_meets PySem.F.slot_list_getattribute (hT _) am_entry_list_getattribute (PySem.F.args_list_getattribute_2 _ _) (meets_getattribute_miss_list a xs k sl "keys" _ zmc (by decide +kernel)) ⟨hx,hA,fun h' tk' e hx'=>?_⟩) | wp_step))
 obtain ⟨t',u',he⟩:=hx'.there
 show wpAny _ _ (getattributeRaised _ _ _ _ _ _ _) _ _ _
 unfold getattributeRaised
 repeat (any_goals (first | assumption | wp_step))
 exact q _ _ hx'.keeps
def PairAt (h : Heap) (a : Addr) (k : Int) (v : Value) : Prop:=∃ o m t,h.get? a = some o /\ o.cls = .type "tuple" /\ o.data = .seq #[.int k t,v] m
theorem PairAt.same {h g : Heap} {a : Addr} {k : Int} {v : Value} (x : PairAt h a k v) (e : ∀ o,h.get? a = some o -> g.get? a = some o) : PairAt g a k v:=by
 obtain ⟨o,m,t,h1,r⟩:=x
 exact ⟨o,m,t,e o h1,r⟩
theorem zpg {a : Addr} {k : Int} {v : Value} (x : PairAt s.heap a k v) {Q : List Value -> Shared -> Prop} (q : ∀ t,Q [.int k t,v] s) : wpAny (model prog w) A (Builtin.Dict.pairItems (.ref a)) Q E s:=by
 obtain ⟨o,m,t,h1,h2,h3⟩:=x
 have hT : s.TypeIs (.ref a) "tuple":=⟨o,h1,h2⟩
 unfold Builtin.Dict.pairItems
 refine wpAny_bind (wpAny_typeOf hT ?_)
 rw [if_pos (by decide)]
 refine wpAny_bind (wpAny_seqItems h1 h3 ?_)
 exact wpAny_pure (q t)
end
section
variable {prog : Program} {w : World} {A : Around} {R : Result -> Shared -> Prop} {I : Addr} {fp wr : List Addr} {G : Array GenState -> Array GenState -> Prop} {n : Nat} {P : Nat -> Value -> Prop} {St : Nat -> Shared -> Prop}
theorem zrP (W : WalksS prog w A.in1 I fp wr G n P St) {d : Addr} (hdf : d ∉ fp) {key : Nat -> Int} {ad : Nat -> Addr} {val : Nat -> Value}
   (hval : ∀ i v,P i v -> v = .ref (ad i)) (hI : ∀ i s a k v,St i s -> PairAt s.heap a k v -> a ∉ wr) (hn : n <= 999) (hk : ∀ i j,i < n -> j < n -> key i = key j -> i = j) :
   ∀ (c i : Nat) (s : Shared),n - i = c -> i <= n -> St i s -> (∀ j,j < n -> PairAt s.heap (ad j) (key j) (val j)) -> s.heap.DictOf (L2.mixKind prog w) d ((List.range i).map fun j=>(.inl (key j),val j)) ->
     (∀ s',Moved (d :: wr) G s s' -> s'.heap.DictOf (L2.mixKind prog w) d ((List.range n).map fun j=>(.inl (key j),val j)) -> R (.ok (.ret .none)) s') ->
     codeAny (model prog w) A (.builtin "dict.update.loop" ⟨[.ref d,.ref I,rawInt i,.none],[]⟩) R s:=by
 have nw : d ∉ wr:=fun x=>hdf (W.sub _ x)
 intro c
 induction c with
 | zero =>
   intro i s ec ei st ht hs r
   obtain rfl : i = n:=by omega
   refine codeAny_builtin zhJ ?_
   rw [Around.under_plainId zea _]
   refine wpAny_bind (m:=pyNext (.ref I)) (W.done s _ _ st fun s' mv=>?_)
   refine wpAny_bind (wpAny_pure ?_)
   refine wpAny_pure (r s' (mv.mono fun _ q=>.tail _ q) ?_)
   obtain ⟨o,es,ep,ho,x⟩:=hs
   exact ⟨o,es,ep,mv.heap d o nw ho,x⟩
 | succ c ih =>
   intro i s ec ei st ht hs r
   have lt : i < n:=by omega
   refine codeAny_builtin zhJ ?_
   rw [Around.under_plainId zea _]
   refine wpAny_bind (m:=pyNext (.ref I)) (W.item i s _ _ lt st fun v s' pv st' mv=>?_)
   obtain rfl:=hval i v pv
   have f : ∀ j,j < n -> PairAt s'.heap (ad j) (key j) (val j):=fun j hj=>(ht j hj).same fun o eo=>mv.heap _ o (hI i s _ _ _ st (ht j hj)) eo
   have hs' : s'.heap.DictOf (L2.mixKind prog w) d ((List.range i).map fun j=>(.inl (key j),val j)):=by
     obtain ⟨o,es,ep,ho,x⟩:=hs
     exact ⟨o,es,ep,mv.heap d o nw ho,x⟩
   refine wpAny_bind (wpAny_holding (wpAny_bind (wpAny_tryCatch (zpg (f i lt) fun t=>?_))))
   refine wpAny_holding (wpAny_dictSet_pairs (k:=.inl (key i)) (by show Value.isInt (key i) (.int (key i) t) = true; simp [Value.isInt]) hs' (fun h2 hd2 sb=>?_) (by rw [List.length_map,List.length_range,sizeLine_eq]; omega))
   have e2 : stored ((List.range i).map fun j=>((.inl (key j) : L2.Key),val j)) (.inl (key i)) (val i) = (List.range (i + 1)).map fun j=>((.inl (key j) : L2.Key),val j):=by
     unfold stored
     rw [if_neg,List.range_succ,List.map_append]
     . rfl
     . intro z
       obtain ⟨x,hx,hxe⟩:=List.any_eq_true.mp z
       obtain ⟨j,hj,rfl⟩:=List.mem_map.mp hx
       have hj:=List.mem_range.mp hj
       have hxe:=Sum.inl.inj (of_decide_eq_true hxe)
       exact absurd (hk j i (by omega) lt hxe) (by omega)
   rw [e2] at hd2
   have nd : ∀ a k v,PairAt s'.heap a k v -> a ≠ d:=fun a k v x z=>by
     subst z
     obtain ⟨o,_,_,h1,h2,_⟩:=x
     obtain ⟨o',_,_,h1',h2',_⟩:=hs'
     rw [h1] at h1'; cases h1'
     rw [h2'.1] at h2
     exact absurd (Value.type.inj h2) (by decide)
   refine wpAny_pure ⟨plainId_quiet zea _,?_⟩
   have:=ih (i + 1) { s' with heap:=h2,toks:=s'.toks + 1 } (by omega) lt (W.frame _ s' _ _ st' (Nat.le_add_right _ _) fun z hz o e=>?_) (fun j hj=>(f j hj).same fun o eo=>(sb.2 _ (nd _ _ _ (f j hj))).trans eo) hd2 fun s3 mv3 d3=>?_
   . exact this
   . rw [sb.2 z (fun q=>hdf (q ▸ hz))]; exact e
   . refine r s3 (Moved.trans W.gtrans ((mv.mono fun _ q=>.tail _ q).then_heap (Nat.le_add_right _ _) fun z o hz e=>?_) mv3) d3
     rw [sb.2 z (fun q=>hz (q ▸ .head _))]; exact e
end
section
variable {prog : Program} {w : World} {A : Around} {E : Value -> Shared -> Prop} {s : Shared}
theorem call_dictL {l : Addr} {its : List Value} {key : Nat -> Int} {ad : Nat -> Addr} {val : Nat -> Value} (hh : A.handled = none) (hl : ∃ o n,s.heap.get? l = some o /\ o.cls = .type "list" /\ o.dict = none /\ o.data = .seq its.toArray n)
   (hi : ∀ (i : Nat) v,its[i]? = some v -> v = .ref (ad i)) (hp : ∀ j,j < its.length -> PairAt s.heap (ad j) (key j) (val j)) (hn : its.length <= 999) (hk : ∀ i j,i < its.length -> j < its.length -> key i = key j -> i = j) {Q : Value -> Shared -> Prop}
   (q : ∀ (g : Heap) (tk : Nat),g.DictOf (L2.mixKind prog w) s.heap.objs.size ((List.range its.length).map fun j=>(.inl (key j),val j)) -> (∀ b o,s.heap.get? b = some o -> g.get? b = some o) -> Q (.ref s.heap.objs.size) { s with heap:=g,toks:=tk }) :
   wpAny (model prog w) A (call (.type "dict") [.ref l]) Q E s:=by
 refine callType_codes (Q₁:=fun obj s₁=>obj = .ref s.heap.objs.size /\ s₁ = { s with heap:=s.heap.push { cls:=.type "dict",data:=.dict #[] } }) PySem.F.kt_called_dict (PySem.F.kt_typeCall_dict_1 _) PySem.F.entry_dict_init (kt_code_dict_new _ ⟨rfl,rfl⟩) ?_
 rintro obj s₁ ⟨rfl,rfl⟩
 have hnew : (s.heap.push { cls:=.type "dict",data:=.dict #[] }).DictOf (L2.mixKind prog w) s.heap.objs.size []:=Heap.DictOf.new s.heap
 obtain ⟨ol,nl,e1,e2,e3,e4⟩:=hl
 have ll : l < s.heap.objs.size:=Heap.lt_size e1
 have e1' : (s.heap.push { cls:=.type "dict",data:=.dict #[] }).get? l = some ol:=Heap.get?_push_of_some _ e1
 refine ⟨hnew.typeIs,PySem.F.args_dict_init_2 _ _,?_⟩
 unfold Builtin.«dict.__init__»
 refine wpAny_bind ?_
 unfold Builtin.Dict.selfAndRest
 refine wpAny_bind (wpAny_notOrdered_dict hnew.typeIs ?_)
 show wpAny _ _ (pure (s.heap.objs.size,[Value.ref l])) _ _ _
 refine wpAny_pure ?_
 show wpAny _ _ (Builtin.Dict.updateFrom "dict.__init__" s.heap.objs.size (.ref l) [] .none) _ _ _
 unfold Builtin.Dict.updateFrom
 refine wpAny_bind (wpAny_typeOf (T:="list") ⟨ol,e1',e2⟩ ?_)
 rw [if_pos (by decide)]
 refine wpAny_bind (zrt e1' e2 e4 e3 (by exact hh) fun h1 tk1 kp1=>?_)
 simp only [Option.isNone_none,if_true]
 refine wpAny_bind (wpAny_rule ?_)
 have kp0 : ∀ b o,s.heap.get? b = some o -> h1.get? b = some o:=fun b o e=>kp1 b o (Heap.get?_push_of_some _ e)
 have il : h1.IsList l its.toArray:=⟨ol,kp1 _ _ e1',e2,nl,e4⟩
 have dn : h1.DictOf (L2.mixKind prog w) s.heap.objs.size []:=by
   obtain ⟨o,es,ep,ho,x⟩:=hnew
   exact ⟨o,es,ep,kp1 _ _ ho,x⟩
 refine wpAny_bind (wpAny_pyIter_list il ?_)
 have dl : s.heap.objs.size < h1.objs.size:=let ⟨o,_,_,ho,_⟩:=dn; Heap.lt_size ho
 have ne : l ≠ h1.objs.size:=Nat.ne_of_lt (Nat.lt_trans ll dl)
 refine wpAny_pure ⟨plainId_quiet zea _,?_⟩
 refine zrP ((Walks.list (by exact hh) _ l ne its.toArray).toS) (d:=s.heap.objs.size) ?nf (key:=key) (ad:=ad) (val:=val)
   (fun i v hp=>hi i v (by simpa using hp)) ?hI (by simpa using hn) (fun i j h1 h2=>hk i j (by simpa using h1) (by simpa using h2)) (its.toArray.size - 0) 0 _ rfl (Nat.zero_le _) ⟨⟨_,Heap.get?_push_size _ rfl,rfl,rfl⟩,il.push _⟩
   (fun j hj=>(hp j (by simpa using hj)).same fun o eo=>Heap.get?_push_of_some _ (kp0 _ o eo)) (dn.push _) ?fin
 case nf =>
   intro hm
   rcases List.mem_cons.mp hm with e | hm
   . exact absurd e (Nat.ne_of_lt dl)
   . rcases List.mem_cons.mp hm with e | hm
     . exact absurd e (Nat.ne_of_gt ll)
     . cases hm
 case hI =>
   intro i s9 a9 k9 v9 st9 x9 hm
   obtain ⟨⟨o8,u1,u2,_⟩,_⟩:=st9
   obtain ⟨o9,_,_,v1,v2,_⟩:=x9
   rcases List.mem_cons.mp hm with e | hm
   . subst e
     rw [u1] at v1
     cases v1
     rw [u2] at v2
     exact absurd (Value.type.inj v2) (by decide)
   . cases hm
 case fin =>
   intro s9 mv d9
   obtain ⟨g,x1,x2,x3,x4⟩:=s9
   obtain rfl : x1 = s.gens:=mv.gens
   obtain rfl : x2 = s.drawn:=mv.drawn
   obtain rfl : x4 = s.os:=mv.os
   refine ⟨rfl,q g x3 (by simpa using d9) fun b o e=>?_⟩
   have lb : b < s.heap.objs.size:=Heap.lt_size e
   refine mv.heap b o (fun hm=>?_) (Heap.get?_push_of_some _ (kp0 b o e))
   rcases List.mem_cons.mp hm with e' | hm
   . exact absurd e' (Nat.ne_of_lt lb)
   . rcases List.mem_cons.mp hm with e' | hm
     . exact absurd e' (Nat.ne_of_lt (Nat.lt_trans lb dl))
     . cases hm
end
end TB
namespace L2
open PySem PySem.Spec PyProof.Rows GM
theorem zgI {α β γ : Type} {R : β -> γ -> Prop} {f : α -> β} {g : α -> γ} : ∀ {l : List α},(∀ x ∈ l,R (f x) (g x)) -> Paired R (l.map f) (l.map g)
 | [],_=>.nil
 | x :: l,h=>.cons (h x (.head _)) (zgI fun y hy=>h y (.tail _ hy))
theorem zej {β γ : Type} {R : β -> γ -> Prop} : ∀ {l : List β} {m : List γ},l.length = m.length -> (∀ (j : Nat) x y,l[j]? = some x -> m[j]? = some y -> R x y) -> Paired R l m
 | [],[],_,_=>.nil
 | [],_ :: _,h,_=>by simp at h
 | _ :: _,[],h,_=>by simp at h
 | x :: l,y :: m,h,f=>.cons (f 0 x y rfl rfl) (zej (by simpa using h) fun j a b h1 h2=>f (j + 1) a b h1 h2)
def zlj (K : PySem.W.Frag) (H : Hp) (u : V) (k : Int) (v : V) : Prop:=∃ q,u = .ref q /\ SqT K H q [.int k,v]
def zie (K : PySem.W.Frag) : List V -> Hp -> VK -> Prop:=fun xs H Q=>∃ (p : Addr) (us : List V) (key : Nat -> Int) (val : Nat -> V),xs = [.ref p] /\ SqL K H p us /\ us.length <= 999 /\ (∀ j u,us[j]? = some u -> zlj K H u (key j) (val j)) /\ (∀ i j,i < us.length -> j < us.length -> key i = key j -> i = j) /\
 ∀ l : Addr,H l = none -> Q (.ref l) (upd H l (.dK ((List.range us.length).map fun j=>(.inl (key j),val j))))
theorem zlC : bootBuiltins "dict" = some (.type "dict"):=by decide +kernel
theorem zfO {X : Cx} (hc : X.calm = true) : zaj X (.type "dict") (zie X.K):=by
 intro pins s σ H xs us Q I r h
 obtain ⟨p,vs,key,val,rfl,hq,hn,hp,hk,q⟩:=h
 obtain ⟨u,rfl,rx⟩:=zcR r
 cases rx
 obtain ⟨its,r',pl,hz⟩:=I.list hq
 have hlen:=r'.length
 have hx : ∀ j : Nat,∃ (ad : Addr) (x : Value),∀ v,vs[j]? = some v -> v = .ref ad /\ TB.PairAt s.heap ad (key j) x /\ zaJ (val j) x:=fun j=>by
   cases e : vs[j]? with
   | none=>exact ⟨0,.none,fun v h=>by cases h⟩
   | some v =>
     obtain ⟨ad,h1,h2⟩:=hp j v e
     obtain ⟨is,r2,⟨o,e1,e2,n,e3⟩,_⟩:=I.tuple h2
     cases r2 with
     | cons a1 r3 =>
       cases r3 with
       | cons a2 r4 =>
         cases r4
         obtain ⟨t,rfl⟩:=a1
         exact ⟨ad,_,fun v' h=>by cases h; exact ⟨h1,⟨o,n,t,e1,e2,e3⟩,a2⟩⟩
 obtain ⟨ad,hx⟩ : ∃ ad : Nat -> Addr,∀ j,∃ x : Value,∀ v,vs[j]? = some v -> v = .ref (ad j) /\ TB.PairAt s.heap (ad j) (key j) x /\ zaJ (val j) x:=⟨fun j=>(hx j).choose,fun j=>(hx j).choose_spec⟩
 obtain ⟨vv,had⟩ : ∃ vv : Nat -> Value,∀ j v,vs[j]? = some v -> v = .ref (ad j) /\ TB.PairAt s.heap (ad j) (key j) (vv j) /\ zaJ (val j) (vv j):=⟨fun j=>(hx j).choose,fun j=>(hx j).choose_spec⟩
 have hg : ∀ j,j < its.length -> ∃ v,vs[j]? = some v:=fun j hj=>⟨vs[j]'(by omega),List.getElem?_eq_getElem _⟩
 obtain ⟨ol,nl,q1,q2,q3,q4⟩:=pl
 refine TB.call_dictL (key:=key) (ad:=ad) (val:=vv) (I.ok.hd hc) ⟨ol,nl,q1,q2,q3,q4⟩ (fun j v hv=>?_) (fun j hj=>?_) (by omega) (fun i j h1 h2=>hk i j (by omega) (by omega)) fun g tk dd kp=>?_
 . obtain ⟨v',hv'⟩:=hg j (by rcases Nat.lt_or_ge j its.length with h | h; exact h; rw [List.getElem?_eq_none h] at hv; cases hv)
   obtain ⟨rfl,_⟩:=had j v' hv'
   have:=zfu r' hv'
   rw [hv] at this
   exact Option.some.inj this
 . obtain ⟨v',hv'⟩:=hg j hj
   exact (had j v' hv').2.1
 . refine ⟨.ref s.heap.objs.size,_,I.laid (t':=tk) kp (Nat.le_refl _) (zqC (kvs:=(List.range vs.length).map fun j=>(.inl (key j),val j)) ?_ (beq_eq_false_iff_ne.mpr (Ne.symm (Nat.ne_of_lt I.big))) ?_ dd),rfl,q _ (I.hok.fresh (Nat.le_refl _))⟩
   . rw [List.length_map,List.length_range,sizeLine_eq]; omega
   . rw [<- hlen]
     refine zgI fun j hj=>⟨rfl,?_⟩
     obtain ⟨v',hv'⟩:=hg j (by rw [<- hlen]; exact List.mem_range.mp hj)
     exact (had j v' hv').2.2
theorem zr3 {P : Program} {w : World} {k : Key} {u : Value} (h : (mixKind P w).is k u = true) : zaJ (kV k) u:=by
 cases k with
 | inl i =>
   have h : Value.isInt i u = true:=h
   cases u with
   | int n t=>simp [Value.isInt] at h; exact ⟨t,by rw [h]⟩
   | _=>exact absurd h (by simp [Value.isInt])
 | inr x =>
   have h : Value.isStrOf x u = true:=h
   cases u with
   | str n t=>simp [Value.isStrOf] at h; exact ⟨t,by rw [h]⟩
   | _=>exact absurd h (by simp [Value.isStrOf])
def zia : List V -> Hp -> VK -> Prop:=fun xs H Q=>∃ (p : Addr) (kvs : List (Key × V)),xs = [.ref p] /\ H p = some (.dK kvs) /\ ∀ l : Addr,H l = none -> Q (.ref l) (upd H l (.lst (kvs.map fun kv=>kV kv.1)))
theorem zfv {X : Cx} (hc : X.calm = true) : zaj X (.type "list") zia:=by
 intro pins s σ H xs us Q I r h
 obtain ⟨p,kvs,rfl,hp,q⟩:=h
 obtain ⟨u,rfl,rx⟩:=zcR r
 cases rx
 obtain ⟨z,hd,vs,rel,dd⟩:=zsa I.hok hp
 obtain ⟨ep,da⟩:=dd.dictAt
 have hl:=rel.length
 refine PySem.W.kdl_call (PySem.W.kdl_dict (ep:=ep) hd) (I.ok.hd hc) da (by rw [<- hl]; exact z) fun g tk acc c kp hg ha=>?_
 refine ⟨.ref s.heap.objs.size,_,I.laid (t':=tk) kp (Nat.le_refl _) (show za9 X.prog X.w _ _ _ (.lst (kvs.map fun kv=>kV kv.1)) from ⟨?_,acc.toList,c,?_,by simpa using hg⟩),rfl,q _ (I.hok.fresh (Nat.le_refl _))⟩
 . rw [List.length_map]; exact z
 . refine zej (by have:=ha.1; simp only [List.length_map,Array.length_toList]; omega) fun j x y hx hy=>?_
   rw [Array.getElem?_toList] at hy
   obtain ⟨k,v,h1,h2⟩:=ha.2 j y hy
   obtain ⟨kv,hy1,hy2⟩:=Paired.back rel h1
   rw [List.getElem?_map,hy1] at hx
   cases hx
   have:=zr3 h2
   show zaJ (kV kv.1) y
   rw [show kv.1 = k from hy2.1]
   exact this
section
variable {K : PySem.W.Frag} {H : Hp} {Q : VK} {p : Addr} {td ty tx : TE} {σ : St}
theorem zjc {us : List V} {key : Nat -> Int} {val : Nat -> V} (h : SqL K H p us) (hn : us.length <= 999) (hp : ∀ j u,us[j]? = some u -> zlj K H u (key j) (val j)) (hk : ∀ i j,i < us.length -> j < us.length -> key i = key j -> i = j)
   (q : ∀ (l : Addr) (H' : Hp),H l = none -> zaf H H' -> H' l = some (.dK ((List.range us.length).map fun j=>(.inl (key j),val j))) -> Q (.ref l) H') : zie K [.ref p] H Q :=
 ⟨p,us,key,val,rfl,h,hn,hp,hk,fun l hl=>q l _ hl (zaf.upd hl) zar⟩
theorem zjp {kvs : List (Key × V)} (h : H p = some (.dK kvs)) (q : ∀ (l : Addr) (H' : Hp),H l = none -> zaf H H' -> H' l = some (.lst (kvs.map fun kv=>kV kv.1)) -> Q (.ref l) H') : zia [.ref p] H Q :=
 ⟨p,kvs,rfl,h,fun l hl=>q l _ hl (zaf.upd hl) zar⟩
theorem zjT (h : td σ H fun x H1=>∃ a,x = .ref a /\ IsD H1 a /\ ty σ H1 fun y H2=>tx σ H2 fun z H3=>∃ o,zhb H3 a y o /\ Q (o.getD z) H3) : zm3 td ty tx σ H Q:=h
theorem zp9 {kvs : List (Key × V)} (h : H p = some (.dK kvs)) : IsD H p:=.inl ⟨kvs,.inl h⟩
end
end L2
namespace G
open PySem PySem.Spec PyProof.Rows L2 GM
def top (i : Nat) : Stmt:=PySem.Challenge.pw_glowflock_k46_whole_webs_side_by_side.main.body.getD i (.Pass ⟨0,0,0,0⟩)
abbrev zci : Stmt:=top 5
theorem zjR : zav ["thing"] ["thing"] (zac zci):=⟨rfl,rfl,rfl,by decide +kernel,rfl,by decide +kernel,by decide +kernel⟩
abbrev zbe : Stmt:=top 6
theorem zft : zav ["least","most","thing"] ["least","most","thing"] (zac zbe):=⟨rfl,rfl,rfl,by decide +kernel,rfl,by decide +kernel,by decide +kernel⟩
abbrev zb2 : Stmt:=top 13
theorem zid : zav ["thing"] ["thing"] (zac zb2):=⟨rfl,rfl,rfl,by decide +kernel,rfl,by decide +kernel,by decide +kernel⟩
abbrev zaW : Stmt:=top 14
theorem zeQ : zav ["least","most","thing"] ["least","most","thing"] (zac zaW):=⟨rfl,rfl,rfl,by decide +kernel,rfl,by decide +kernel,by decide +kernel⟩
abbrev zbM : Stmt:=top 15
theorem zg8 : zav ["thing"] ["thing"] (zac zbM):=⟨rfl,rfl,rfl,by decide +kernel,rfl,by decide +kernel,by decide +kernel⟩
abbrev zcj : Stmt:=top 16
theorem zj8 : zav ["thing","rounds"] ["thing","rounds"] (zac zcj):=⟨rfl,rfl,rfl,by decide +kernel,rfl,by decide +kernel,by decide +kernel⟩
abbrev zdj : Stmt:=top 17
theorem zmh : zav ["thing","worms"] ["thing","worms"] (zac zdj):=⟨rfl,rfl,rfl,by decide +kernel,rfl,by decide +kernel,by decide +kernel⟩
abbrev zbF : Stmt:=top 18
theorem zi4 : zav ["thing","worms"] ["thing","worms"] (zac zbF):=⟨rfl,rfl,rfl,by decide +kernel,rfl,by decide +kernel,by decide +kernel⟩
abbrev zcw : Stmt:=top 19
theorem zmB : zav ["rounds","ups","ties"] ["rounds","ups","ties"] (zac zcw):=⟨rfl,rfl,rfl,by decide +kernel,rfl,by decide +kernel,by decide +kernel⟩
abbrev zaV : Stmt:=top 20
theorem zeG : zav ["thing","rounds"] ["thing","rounds"] (zac zaV):=⟨rfl,rfl,rfl,by decide +kernel,rfl,by decide +kernel,by decide +kernel⟩
abbrev zbi : Stmt:=top 21
theorem zg2 : zav ["web"] ["web"] (zac zbi):=⟨rfl,rfl,rfl,by decide +kernel,rfl,by decide +kernel,by decide +kernel⟩
abbrev zbY : Stmt:=top 22
theorem ziS : zav ["web","phases"] ["web","phases"] (zac zbY):=⟨rfl,rfl,rfl,by decide +kernel,rfl,by decide +kernel,by decide +kernel⟩
abbrev zcf : Stmt:=top 24
theorem zdY : zav ["count","ups","phase","many","done"] ["count","ups","phase","many"] (zac zcf):=⟨rfl,rfl,rfl,by decide +kernel,rfl,by decide +kernel,by decide +kernel⟩
abbrev zdx : Stmt:=top 25
theorem zoc : zav ["web","worms","phases"] ["web","worms","phases"] (zac zdx):=⟨rfl,rfl,rfl,by decide +kernel,rfl,by decide +kernel,by decide +kernel⟩
abbrev zbD : Stmt:=top 26
theorem ziE : zav ["web","worms"] ["web","worms"] (zac zbD):=⟨rfl,rfl,rfl,by decide +kernel,rfl,by decide +kernel,by decide +kernel⟩
abbrev zbX : Stmt:=top 27
theorem zjN : zav ["ties","worm","delay"] ["ties","worm","delay"] (zac zbX):=⟨rfl,rfl,rfl,by decide +kernel,rfl,by decide +kernel,by decide +kernel⟩
abbrev za6 : Stmt:=top 28
theorem zbk : zav ["web","coming","glowed","ties","told","delay","row"] ["web","coming","glowed"] (zac za6):=⟨rfl,rfl,rfl,by decide +kernel,rfl,by decide +kernel,by decide +kernel⟩
abbrev za2 : Stmt:=top 29
theorem zbv : zav ["web","stand","told","worm","many"] ["web","stand"] (zac za2):=⟨rfl,rfl,rfl,by decide +kernel,rfl,by decide +kernel,by decide +kernel⟩
abbrev zdy : Stmt:=top 30
theorem zbU : zav ["web","stand","phases","worms","left","waves","wave","ties","worm","anew","glowed"] ["web","stand"] (zac zdy):=⟨rfl,rfl,rfl,by decide +kernel,rfl,by decide +kernel,by decide +kernel⟩
abbrev zhQ : Stmt:=top 31
theorem zfg : zav ["web","stand","many","told","ahead","count","both"] ["web","stand","many"] (zac zhQ):=⟨rfl,rfl,rfl,by decide +kernel,rfl,by decide +kernel,by decide +kernel⟩
abbrev zbl : Stmt:=top 32
theorem zbT : zav ["web","stand","many","told","done"] ["web","stand","many"] (zac zbl):=⟨rfl,rfl,rfl,by decide +kernel,rfl,by decide +kernel,by decide +kernel⟩
abbrev zcI : Stmt:=top 34
theorem zel : zav ["_law_script","_law_k","_law_cell"] ["_law_script","_law_k"] (zac zcI):=⟨rfl,rfl,rfl,by decide +kernel,rfl,by decide +kernel,by decide +kernel⟩
abbrev zco : Stmt:=top 35
theorem zdS : zav ["_law_pen_here","_law_many","_law_digit","_law_mixed"] ["_law_pen_here","_law_many"] (zac zco):=⟨rfl,rfl,rfl,by decide +kernel,rfl,by decide +kernel,by decide +kernel⟩
abbrev zbW : Stmt:=top 36
theorem zbm : zav ["_law_pen_here","_law_many","_law_great","_law_left","_law_delay","_law_a","_law_near","_law_ties_here","_law_k"] ["_law_pen_here","_law_many","_law_great"] (zac zbW):=⟨rfl,rfl,rfl,by decide +kernel,rfl,by decide +kernel,by decide +kernel⟩
abbrev zb1 : Stmt:=top 37
theorem zcl : zav ["_law_pen_here","_law_most","_law_many","_law_sizes","_law_ups","_law_size","_law_high"] ["_law_pen_here","_law_most"] (zac zb1):=⟨rfl,rfl,rfl,by decide +kernel,rfl,by decide +kernel,by decide +kernel⟩
abbrev zb3 : Stmt:=top 38
theorem zcc : zav ["_law_pen_here","_law_web_here","_law_way","_law_found","_law_size","_law_drawn"] ["_law_pen_here","_law_web_here"] (zac zb3):=⟨rfl,rfl,rfl,by decide +kernel,rfl,by decide +kernel,by decide +kernel⟩
abbrev zbt : Stmt:=top 39
theorem zdb : zav ["_law_one","_law_other","_law_many","_law_ties_here"] ["_law_one","_law_other"] (zac zbt):=⟨rfl,rfl,rfl,by decide +kernel,rfl,by decide +kernel,by decide +kernel⟩
abbrev zbZ : Stmt:=top 40
theorem zct : zav ["_law_mine","_law_yours","_law_many","_law_found","_law_k","_law_first","_law_second"] ["_law_mine","_law_yours","_law_many"] (zac zbZ):=⟨rfl,rfl,rfl,by decide +kernel,rfl,by decide +kernel,by decide +kernel⟩
abbrev zbV : Stmt:=top 41
theorem zc8 : zav ["_law_mine","_law_yours","_law_many","_law_first","_law_second","_law_both_here"] ["_law_mine","_law_yours","_law_many"] (zac zbV):=⟨rfl,rfl,rfl,by decide +kernel,rfl,by decide +kernel,by decide +kernel⟩
abbrev zdX : Stmt:=top 42
theorem zbQ : zav ["_law_script","_law_drawn","_law_webs","_law_stands","_law_both_here","_law_web_here","_law_stand","_law_pen_here","_law_many","_law_told","_law_last","_law_one","_law_other","_law_cut","_law_there","_law_rest"] ["_law_script"] (zac zdX):=⟨rfl,rfl,rfl,by decide +kernel,rfl,by decide +kernel,by decide +kernel⟩
set_option genInjectivity false in
structure Ad where
 is_whole : Addr
 fd_is_whole : FuncData
 is_whole_from : Addr
 fd_is_whole_from : FuncData
 is_listed : Addr
 fd_is_listed : FuncData
 are_whole_from : Addr
 fd_are_whole_from : FuncData
 are_rounds : Addr
 fd_are_rounds : FuncData
 are_ups : Addr
 fd_are_ups : FuncData
 is_tie : Addr
 fd_is_tie : FuncData
 are_ties : Addr
 fd_are_ties : FuncData
 web_of : Addr
 fd_web_of : FuncData
 are_web_phases : Addr
 fd_are_web_phases : FuncData
 none_coming : Addr
 fd_none_coming : FuncData
 stand_of : Addr
 fd_stand_of : FuncData
 moved_up : Addr
 fd_moved_up : FuncData
 ended : Addr
 fd_ended : FuncData
 ties_from : Addr
 fd_ties_from : FuncData
 count_to : Addr
 fd_count_to : FuncData
 coming_behind : Addr
 fd_coming_behind : FuncData
 phases_at_first : Addr
 fd_phases_at_first : FuncData
 tick : Addr
 fd_tick : FuncData
 run : Addr
 fd_run : FuncData
 stand_behind : Addr
 fd_stand_behind : FuncData
 law_pen : Addr
 fd_law_pen : FuncData
 law_draw : Addr
 fd_law_draw : FuncData
 law_ties : Addr
 fd_law_ties : FuncData
 law_web : Addr
 fd_law_web : FuncData
 law_begin : Addr
 fd_law_begin : FuncData
 law_beside : Addr
 fd_law_beside : FuncData
 law_laid : Addr
 fd_law_laid : FuncData
 law_both : Addr
 fd_law_both : FuncData
 law : Addr
 fd_law : FuncData
 C_NoWeb : Addr
 C_NoStand : Addr
structure Txt (K : PySem.W.Frag) (mg : Str -> Option Value) (a : Ad) : Prop where
 F_is_whole : Fun K "is_whole" "is_whole" zci a.is_whole a.fd_is_whole
 g_is_whole : mg "is_whole" = some (.ref a.is_whole)
 b_is_whole : za0 K a.fd_is_whole ["thing"] []
 F_is_whole_from : Fun K "is_whole_from" "is_whole_from" zbe a.is_whole_from a.fd_is_whole_from
 g_is_whole_from : mg "is_whole_from" = some (.ref a.is_whole_from)
 b_is_whole_from : za0 K a.fd_is_whole_from ["least","most","thing"] []
 F_is_listed : Fun K "is_listed" "is_listed" zb2 a.is_listed a.fd_is_listed
 g_is_listed : mg "is_listed" = some (.ref a.is_listed)
 b_is_listed : za0 K a.fd_is_listed ["thing"] []
 F_are_whole_from : Fun K "are_whole_from" "are_whole_from" zaW a.are_whole_from a.fd_are_whole_from
 g_are_whole_from : mg "are_whole_from" = some (.ref a.are_whole_from)
 b_are_whole_from : za0 K a.fd_are_whole_from ["least","most","thing"] []
 F_are_rounds : Fun K "are_rounds" "are_rounds" zbM a.are_rounds a.fd_are_rounds
 g_are_rounds : mg "are_rounds" = some (.ref a.are_rounds)
 b_are_rounds : za0 K a.fd_are_rounds ["thing"] []
 F_are_ups : Fun K "are_ups" "are_ups" zcj a.are_ups a.fd_are_ups
 g_are_ups : mg "are_ups" = some (.ref a.are_ups)
 b_are_ups : za0 K a.fd_are_ups ["thing","rounds"] []
 F_is_tie : Fun K "is_tie" "is_tie" zdj a.is_tie a.fd_is_tie
 g_is_tie : mg "is_tie" = some (.ref a.is_tie)
 b_is_tie : za0 K a.fd_is_tie ["thing","worms"] []
 F_are_ties : Fun K "are_ties" "are_ties" zbF a.are_ties a.fd_are_ties
 g_are_ties : mg "are_ties" = some (.ref a.are_ties)
 b_are_ties : za0 K a.fd_are_ties ["thing","worms"] []
 F_web_of : Fun K "web_of" "web_of" zcw a.web_of a.fd_web_of
 g_web_of : mg "web_of" = some (.ref a.web_of)
 b_web_of : za0 K a.fd_web_of ["rounds","ups","ties"] []
 F_are_web_phases : Fun K "are_web_phases" "are_web_phases" zaV a.are_web_phases a.fd_are_web_phases
 g_are_web_phases : mg "are_web_phases" = some (.ref a.are_web_phases)
 b_are_web_phases : za0 K a.fd_are_web_phases ["thing","rounds"] []
 F_none_coming : Fun K "none_coming" "none_coming" zbi a.none_coming a.fd_none_coming
 g_none_coming : mg "none_coming" = some (.ref a.none_coming)
 b_none_coming : za0 K a.fd_none_coming ["web"] []
 F_stand_of : Fun K "stand_of" "stand_of" zbY a.stand_of a.fd_stand_of
 g_stand_of : mg "stand_of" = some (.ref a.stand_of)
 b_stand_of : za0 K a.fd_stand_of ["web","phases"] []
 F_moved_up : Fun K "moved_up" "moved_up" zcf a.moved_up a.fd_moved_up
 g_moved_up : mg "moved_up" = some (.ref a.moved_up)
 b_moved_up : za0 K a.fd_moved_up ["count","ups","phase","many"] []
 F_ended : Fun K "ended" "ended" zdx a.ended a.fd_ended
 g_ended : mg "ended" = some (.ref a.ended)
 b_ended : za0 K a.fd_ended ["web","worms","phases"] []
 F_ties_from : Fun K "ties_from" "ties_from" zbD a.ties_from a.fd_ties_from
 g_ties_from : mg "ties_from" = some (.ref a.ties_from)
 b_ties_from : za0 K a.fd_ties_from ["web","worms"] []
 F_count_to : Fun K "count_to" "count_to" zbX a.count_to a.fd_count_to
 g_count_to : mg "count_to" = some (.ref a.count_to)
 b_count_to : za0 K a.fd_count_to ["ties","worm","delay"] []
 F_coming_behind : Fun K "coming_behind" "coming_behind" za6 a.coming_behind a.fd_coming_behind
 g_coming_behind : mg "coming_behind" = some (.ref a.coming_behind)
 b_coming_behind : za0 K a.fd_coming_behind ["web","coming","glowed"] []
 F_phases_at_first : Fun K "phases_at_first" "phases_at_first" za2 a.phases_at_first a.fd_phases_at_first
 g_phases_at_first : mg "phases_at_first" = some (.ref a.phases_at_first)
 b_phases_at_first : za0 K a.fd_phases_at_first ["web","stand"] []
 F_tick : Fun K "tick" "tick" zdy a.tick a.fd_tick
 g_tick : mg "tick" = some (.ref a.tick)
 b_tick : za0 K a.fd_tick ["web","stand"] []
 F_run : Fun K "run" "run" zhQ a.run a.fd_run
 g_run : mg "run" = some (.ref a.run)
 b_run : za0 K a.fd_run ["web","stand","many"] []
 F_stand_behind : Fun K "stand_behind" "stand_behind" zbl a.stand_behind a.fd_stand_behind
 g_stand_behind : mg "stand_behind" = some (.ref a.stand_behind)
 b_stand_behind : za0 K a.fd_stand_behind ["web","stand","many"] []
 F_law_pen : Fun K "_law_pen" "_law_pen" zcI a.law_pen a.fd_law_pen
 g_law_pen : mg "_law_pen" = some (.ref a.law_pen)
 b_law_pen : za0 K a.fd_law_pen ["_law_script","_law_k"] []
 F_law_draw : Fun K "_law_draw" "_law_draw" zco a.law_draw a.fd_law_draw
 g_law_draw : mg "_law_draw" = some (.ref a.law_draw)
 b_law_draw : za0 K a.fd_law_draw ["_law_pen_here","_law_many"] []
 F_law_ties : Fun K "_law_ties" "_law_ties" zbW a.law_ties a.fd_law_ties
 g_law_ties : mg "_law_ties" = some (.ref a.law_ties)
 b_law_ties : za0 K a.fd_law_ties ["_law_pen_here","_law_many","_law_great"] []
 F_law_web : Fun K "_law_web" "_law_web" zb1 a.law_web a.fd_law_web
 g_law_web : mg "_law_web" = some (.ref a.law_web)
 b_law_web : za0 K a.fd_law_web ["_law_pen_here","_law_most"] []
 F_law_begin : Fun K "_law_begin" "_law_begin" zb3 a.law_begin a.fd_law_begin
 g_law_begin : mg "_law_begin" = some (.ref a.law_begin)
 b_law_begin : za0 K a.fd_law_begin ["_law_pen_here","_law_web_here"] []
 F_law_beside : Fun K "_law_beside" "_law_beside" zbt a.law_beside a.fd_law_beside
 g_law_beside : mg "_law_beside" = some (.ref a.law_beside)
 b_law_beside : za0 K a.fd_law_beside ["_law_one","_law_other"] []
 F_law_laid : Fun K "_law_laid" "_law_laid" zbZ a.law_laid a.fd_law_laid
 g_law_laid : mg "_law_laid" = some (.ref a.law_laid)
 b_law_laid : za0 K a.fd_law_laid ["_law_mine","_law_yours","_law_many"] []
 F_law_both : Fun K "_law_both" "_law_both" zbV a.law_both a.fd_law_both
 g_law_both : mg "_law_both" = some (.ref a.law_both)
 b_law_both : za0 K a.fd_law_both ["_law_mine","_law_yours","_law_many"] []
 F_law : Fun K "law" "law" zdX a.law a.fd_law
 g_law : mg "law" = some (.ref a.law)
 b_law : za0 K a.fd_law ["_law_script"] []
 z_all : mg "all" = none
 z_bool : mg "bool" = none
 z_dict : mg "dict" = none
 z_enumerate : mg "enumerate" = none
 z_int : mg "int" = none
 z_isinstance : mg "isinstance" = none
 z_len : mg "len" = none
 z_list : mg "list" = none
 z_max : mg "max" = none
 z_min : mg "min" = none
 z_range : mg "range" = none
 z_set : mg "set" = none
 z_sorted : mg "sorted" = none
 z_tuple : mg "tuple" = none
 z_zip : mg "zip" = none
 g_NoWeb : mg "NoWeb" = some (.ref a.C_NoWeb)
 g_NoStand : mg "NoStand" = some (.ref a.C_NoStand)
 x_NoWeb : PySem.W.excIn K a.C_NoWeb zjH "ValueError.__new__" = true
 x_NoStand : PySem.W.excIn K a.C_NoStand zjH "ValueError.__new__" = true
 c_MOST_WORMS : ∃ t,mg "MOST_WORMS" = some (.int 8 t)
 c_MOST_ROUND : ∃ t,mg "MOST_ROUND" = some (.int 60 t)
 c_MOST_UP : ∃ t,mg "MOST_UP" = some (.int 60 t)
 c_MOST_TIES : ∃ t,mg "MOST_TIES" = some (.int 60 t)
 c_MOST_DELAY : ∃ t,mg "MOST_DELAY" = some (.int 4 t)
end G
open L2 GM in
local macro_rules | `(tactic| wtm_at "is")=>`(tactic| first
 | assumption
 | exact zaT.mpr rfl
 | exact zdv.mpr rfl
 | exact zed.mpr rfl
 | exact ze7.mpr rfl
 | exact Is.thru (by assumption) (by wtm_at "same")
 | exact Is.thruN (by assumption) (by wtm_at "keep")
 | exact Is.thruR (by assumption) (by wtm_at "keep")
 | ((with_reducible apply is_tupAt); (focus assumption); (focus wtm_at "isall"); wtm_at "same")
 | ((with_reducible apply is_lstAt); (focus assumption); (focus wtm_at "isall"); wtm_at "same")
 | ((with_reducible apply is_dctAt); (focus assumption); wtm_at "same")
 | fail "is")
open L2 GM in
local macro_rules | `(tactic| wtm_at "isall")=>`(tactic| first
 | exact IsAll.nil
 | exact IsAll.cons (by wtm_at "is") (by wtm_at "isall")
 | fail "isall")
open L2 GM in
local macro_rules | `(tactic| wtm_at "ne")=>`(tactic| first
 | assumption
 | (apply Ne.symm; assumption))
/- a list that stands at an address -/
open L2 GM in
local macro_rules | `(tactic| wtm_at "lst")=>`(tactic| first
 | assumption
 | exact zaf.at (by assumption) (by wtm_at "lst")
 | exact Exc.at (by assumption) (by wtm_at "ne") (by wtm_at "lst")
 | fail "lst")
open L2 GM in
local macro_rules | `(tactic| wtm_at "same")=>`(tactic| first
 | assumption
 | exact zaf.refl _
 | exact zaf.back (by assumption) (by wtm_at "same")
 | fail "same")
open L2 GM in
local macro_rules | `(tactic| wtm_at "keep")=>`(tactic| first
 | assumption
 | exact za7.refl _
 | exact zaf.keep (by assumption)
 | exact za7.back (by assumption) (by wtm_at "keep")
 | exact za7.back (zaf.keep (by assumption)) (by wtm_at "keep")
 | fail "keep")
open L2 GM in
local macro_rules | `(tactic| wtm_at "exc")=>`(tactic| first
 | assumption
 | exact Exc.refl _ _
 | exact Exc.back (by assumption) (by wtm_at "exc")
 | exact Exc.back (zaf.exc (by assumption)) (by wtm_at "exc")
 | fail "exc")
open L2 GM in
local macro_rules | `(tactic| wtm_at "sqf")=>`(tactic| first
 | assumption
 | exact za7.sqF (by wtm_at "keep") (by assumption)
 | fail "sqf")
/- how great -/
open L2 GM in
local macro_rules | `(tactic| wtm_at "bd")=>`(tactic| first
 | assumption
 | exact Bd.mk (n:=128) (by decide)
 | exact Bd.mono (m:=128) ⟨by decide⟩ (by decide)
 | exact Bdr.t (by assumption)
 | exact Bdr.b (by assumption)
 | exact Bd.of128 (by omega) (by omega)
 | (apply Bd.neg; wtm_at "bd")
 | (apply Bd.mul; (focus wtm_at "bd"); wtm_at "bd")
 | (apply Bd.add; (focus wtm_at "bd"); wtm_at "bd")
 | (apply Bd.sub; (focus wtm_at "bd"); wtm_at "bd"))
open L2 GM PySem in
local macro_rules | `(tactic| wtm_at "mulok")=>`(tactic| first
 | exact IntMulOk.of_right (by decide)
 | exact IntMulOk.of_left (by decide)
 | exact IntMulOk.of_right (intBits_le_64 (by omega) (by omega))
 | exact IntMulOk.of_left (intBits_le_64 (by omega) (by omega))
 | (apply L2.MulBd; (focus wtm_at "bd"); (focus wtm_at "bd"); (focus decide); decide))
open L2 GM PySem in
local macro_rules | `(tactic| wtm_at "side")=>`(tactic| first
 | assumption
 | decide
 | omega
 | wtm_at "mulok"
 | (refine And.intro ?_ ?_ <;> wtm_at "side")
 | wtm_at "bd")
open L2 GM in
local macro_rules | `(tactic| wtm_at "gs")=>`(tactic| first
 | wtm_at "sq"
 | with_reducible (first | refine zqL ?_ | refine zrA ?_ | refine zqz ?_ | refine zpV ?_)
 | ((with_reducible apply zg4); (focus rfl))
 | with_reducible (first | refine zsD ?_ | refine zk9 ?_ | refine zng ?_ | refine zk2 ?_ | refine zsc ?_ | refine zog ?_ | refine zpw ?_ | refine zqm ?_ | refine zqU ?_ | refine zrc ?_ | refine zqT ?_ | refine zpu ?_)
 | ((with_reducible apply znu); (focus wtm_at "side"))
 | with_reducible (first | refine zo1 ?_ | refine zqv ?_ | refine zrr ?_ | refine zqW ?_ | refine zma ?_ | refine zpz ?_)
 | with_reducible refine zpl (fun _=>?_) (fun _=>?_)
 | with_reducible refine znp (fun _=>?_) (fun _=>?_)
 | with_reducible refine zoD (fun _=>?_) (fun _=>?_)
 | with_reducible (first | refine zqr ?_ | refine zr8 ?_ | refine zqI ?_ | refine zpb ?_ | refine zpL ?_ | refine zq3 ?_ | refine zoC ?_ | refine zoI ?_ | refine zo6 ?_ | refine zpr ?_ | refine zpx ?_ | refine zq1 ?_ | refine zgh ?_ | refine zoz ?_ | refine zpE ?_ | refine zo7 ?_)
 | ((with_reducible apply zfd); (focus (apply SqL.of; wtm_at "lst")); (focus rfl))
 | ((with_reducible apply zlE); (focus assumption); (focus rfl); intro hN eN lN; dsimp only [Int.reduceToNat,List.set_cons_succ,List.set_cons_zero] at lN)
 | ((with_reducible apply zmQ); (focus wtm_at "is"))
 | ((with_reducible apply zi5); (focus wtm_at "is"))
 | dsimp only [List.set_cons_succ,List.set_cons_zero])
/- one statement behind another: what follows stands behind a name -/
set_option hygiene false in
open L2 GM in
local macro_rules | `(tactic| wtm_at "sq")=>`(tactic| with_reducible refine zoL (fun tl_ htl_=>?_))
set_option hygiene false in
open L2 GM in
local macro_rules | `(tactic| wtm_at "tl")=>`(tactic| ((with_reducible refine zh8.go (by assumption) ?_); (try clear htl_ tl_)))
/- how great a number is -/
open L2 GM in
local macro_rules | `(tactic| wtm_at "bdr0")=>`(tactic| first
 | assumption
 | exact Bdr.zero
 | exact Bdr.one
 | exact Bdr.four
 | (apply Bdr.add; (focus wtm_at "bdr0"); wtm_at "bdr0")
 | (apply Bdr.sub; (focus wtm_at "bdr0"); wtm_at "bdr0")
 | (apply Bdr.mul; (focus wtm_at "bdr0"); wtm_at "bdr0"))
open L2 GM in
local macro_rules | `(tactic| wtm_at "bdr")=>`(tactic| first
 | assumption
 | (apply Bdr.mono; (focus wtm_at "bdr0"); (first | decide | omega)))
/- .. with new tuples,lists,dicts -/
open L2 GM in
local macro_rules | `(tactic| wtm_at "ga1")=>`(tactic| first
 | wtm_at "gs"
 | ((with_reducible apply zaQ); (focus (simp only [List.length_cons,List.length_nil]; decide)); (focus wtm_at "isall"); intro _ _ _ _)
 | ((with_reducible apply zis); (focus (simp only [List.length_cons,List.length_nil]; decide)); intro _ _ _ _ _)
 | with_reducible refine zpe (fun _ _ _ _ _=>?_)
 | ((with_reducible apply zfV); (focus wtm_at "lst"); (focus wtm_at "lst"); (focus (simp only [List.length_append,List.length_cons,List.length_nil]; decide)); intro _ _ _ _ _))
local macro_rules | `(tactic| wtm_at "ga")=>`(tactic| repeat' (first | wtm_at "ga1" | wtm_at "tl"))
local macro_rules | `(tactic| wtm_at "gg")=>`(tactic| repeat' (first | wtm_at "gs" | wtm_at "tl"))
local macro_rules | `(tactic| wtm_at "gt")=>`(tactic| repeat' (wtm_at "gs"))
open L2 GM in
local macro_rules | `(tactic| wtm_at "bd128")=>`(tactic| first
 | exact Bd.mono (m:=128) ⟨by decide⟩ (by decide)
 | exact (Bd.of128 (by omega) (by omega)).mono (by decide))
open L2 GM in
local macro_rules | `(tactic| wtm_at "gs")=>`(tactic| first
 | with_reducible (first | refine zr0 ?_ | refine zmk ?_ | refine zmw ?_ | refine zsd ?_ | refine zmp ?_ | refine zoA ?_ | refine zn2 ?_ | refine zjl ?_ | refine zcN ?_ | refine zmO ?_ | refine zow ?_ | refine zrJ ?_ | refine zpy ?_ | refine zo2 ?_ | refine zm1 ?_ | refine zmy ?_ | refine zqo ?_ | refine zo4 ?_ | refine zro ?_ | refine ziO ?_)
 | with_reducible refine zpG (fun _ _ _ _=>?_)
 | with_reducible (first | refine zm5 ?_ | refine zrw ?_ | refine zn6 ?_ | refine zlR ?_ | refine zmK ?_ | refine vc_forEL ?_ | refine vc_dget ?_ | refine zq2 ?_ | refine zmZ ?_ | refine zmC ?_ | refine zpI ?_ | refine znK ?_)
 | ((with_reducible apply zfd); (focus (apply SqL.of; wtm_at "lst")); (focus rfl))
 | ((with_reducible apply zo9); (focus wtm_at "lst"); (focus omega); (focus omega); intro _ _)
 | ((with_reducible apply zo8); (focus wtm_at "lst"); (focus omega); (focus omega); intro _ _)
 | ((with_reducible apply zoQ); (focus wtm_at "lst"); (focus omega); (focus omega); intro _ _))
namespace G
open PySem PySem.Spec PyProof.Rows L2 GM
section
variable {P : Program} {w : World} {K : PySem.W.Frag} {mg : Str -> Option Value} {base : Heap} {a : Ad}
def isInt : PyData -> Bool
 | .int _=>true
 | _=>false
def zfJ (K : PySem.W.Frag) : Sp:=fun vs H Q _=>∃ x0,vs = [x0] /\ ∃ d,Is K H x0 d /\ Q (.bl (isInt d)) H
theorem zjo {K : PySem.W.Frag} {H : Hp} {Q : VK} {E : XK} {v : V} {d : PyData} (h : Is K H v d) (q : Q (.bl (isInt d)) H) : zfJ K [v] H Q E:=⟨v,rfl,d,h,q⟩
local macro_rules | `(tactic| wtm_at "gs")=>`(tactic| ((with_reducible apply zjo); (focus wtm_at "is")))
set_option maxHeartbeats 4000000 in
theorem zi6 (T : Txt K mg a) : zbr P w K mg base CX0 1 a.is_whole a.fd_is_whole ["thing"] (zfJ K):=by
 refine T.F_is_whole.ok zjR (fun vs H Q E h=>by obtain ⟨_,rfl,_⟩:=h; rfl) (fun cdv A outer s H vs Q E hr h=>?_)
 obtain ⟨x0,rfl,h⟩:=h
 have hu:=hr.units
 refine ⟨_,(zai (zaB (zew (zam (show zaj _ (.builtin "isinstance") (zgZ K) from zhY) rfl T.z_isinstance zda (zaa (pv 0) (zaa (zfW (v:=.ty "int") rfl T.z_int zny rfl) zab))) (zez (zqV (zam (show zaj _ (.builtin "isinstance") (zgZ K) from zhY) rfl T.z_isinstance zda (zaa (pv 0) (zaa (zfW (v:=.ty "bool") rfl T.z_bool zpd rfl) zab)))))))),?_⟩
 clear hu
 try clear hgd
 try dsimp only [zbp,zbc]
 rw [show start ["thing"] [x0] = [some x0] from rfl]
 obtain ⟨d,hd,q⟩:=h
 wtm_at "gg"
 all_goals (cases d <;> simp_all [isInt,zkR,zqA])
def zdd (l m : Int) : PyData -> Bool
 | .int i=>decide (l <= i) && decide (i <= m)
 | _=>false
theorem zkU {l m : Int} {d : PyData} (h : isInt d = false) : zdd l m d = false:=by cases d <;> first | rfl | cases h
def zdi (K : PySem.W.Frag) : Sp:=fun vs H Q _=>∃ x0 x1 x2,vs = [x0,x1,x2] /\ ∃ (l m : Int) (d : PyData),x0 = .int l /\ x1 = .int m /\ Is K H x2 d /\ Q (.bl (zdd l m d)) H
theorem zcm {K : PySem.W.Frag} {H : Hp} {Q : VK} {E : XK} {l m : Int} {v : V} {d : PyData} (h : Is K H v d) (q : Q (.bl (zdd l m d)) H) : zdi K [.int l,.int m,v] H Q E:=⟨_,_,_,rfl,l,m,d,rfl,rfl,h,q⟩
set_option maxHeartbeats 4000000 in
theorem zcg (T : Txt K mg a) : zbr P w K mg base CX0 2 a.is_whole_from a.fd_is_whole_from ["least","most","thing"] (zdi K):=by
 refine T.F_is_whole_from.ok zft (fun vs H Q E h=>by obtain ⟨_,_,_,rfl,_⟩:=h; rfl) (fun cdv A outer s H vs Q E hr h=>?_)
 obtain ⟨x0,x1,x2,rfl,h⟩:=h
 have hu:=hr.units
 refine ⟨_,(zai (zaB (zew (zag (zi6 T) (hr.mono (by decide)) rfl T.g_is_whole T.F_is_whole.kp T.b_is_whole .nil zat (zaa (pv 2) zab)) (zez (zi0 zlz zlz (pv 0) (pv 2) (pv 1)))))),?_⟩
 clear hu
 try clear hgd
 try dsimp only [zbp,zbc]
 rw [show start ["least","most","thing"] [x0,x1,x2] = [some x0,some x1,some x2] from rfl]
 obtain ⟨l,m,d,rfl,rfl,hd,q⟩:=h
 have hc : (∃ i,d = .int i) \/ isInt d = false:=by cases d <;> simp [isInt]
 rcases hc with ⟨i,rfl⟩ | hn
 . cases zaT.mp hd
   have q : Q (.bl (decide (l <= i) && decide (i <= m))) H:=q
   wtm_at "gg"
   . rename_i z
     rw [decide_eq_true z,Bool.true_and] at q
     exact q
   . rename_i z
     rw [decide_eq_false z,Bool.false_and] at q
     exact q
   . rename_i z; cases (show true = false from z)
 . rw [zkU hn] at q
   wtm_at "gg"
   . rename_i z1; rw [hn] at z1; cases z1
   . exact q
def zcs (d : PyData) : Bool:=znw d || zoq d
def ze5 (K : PySem.W.Frag) : Sp:=fun vs H Q _=>∃ x0,vs = [x0] /\ ∃ (d : PyData),Is K H x0 d /\ ∀ H',zaf H H' -> Q (.bl (zcs d)) H'
theorem zb4 {K : PySem.W.Frag} {H : Hp} {Q : VK} {E : XK} {v : V} {d : PyData} (h : Is K H v d) (q : ∀ H',zaf H H' -> Q (.bl (zcs d)) H') : ze5 K [v] H Q E:=⟨_,rfl,d,h,q⟩
set_option maxHeartbeats 4000000 in
theorem zb6 (T : Txt K mg a) : zbr P w K mg base CX0 1 a.is_listed a.fd_is_listed ["thing"] (ze5 K):=by
 refine T.F_is_listed.ok zid (fun vs H Q E h=>by obtain ⟨_,rfl,_⟩:=h; rfl) (fun cdv A outer s H vs Q E hr h=>?_)
 obtain ⟨x0,rfl,h⟩:=h
 have hu:=hr.units
 refine ⟨_,(zai (zaB (zam (show zaj _ (.builtin "isinstance") (zkh K) from zj2) rfl T.z_isinstance zda (zaa (pv 0) (zaa (zaS (zaa (zfW (v:=.ty "list") rfl T.z_list zfZ rfl) (zaa (zfW (v:=.ty "tuple") rfl T.z_tuple zaG rfl) zab))) zab))))),?_⟩
 clear hu
 try clear hgd
 try dsimp only [zbp,zbc]
 rw [show start ["thing"] [x0] = [some x0] from rfl]
 obtain ⟨d,hd,q⟩:=h
 wtm_at "gg"
 refine znb (by simp) (fun tp H1 _ S1 e1=>?_)
 wtm_at "gg"
 refine zmu (hd.by S1) e1 ?_
 exact q H1 S1
def zaX : PyData -> List PyData
 | .list ds=>ds
 | .tuple ds=>ds
 | _=>[]
theorem zfm {K : PySem.W.Frag} {H : Hp} {v : V} {d : PyData} (h : Is K H v d) (e : zcs d = true) : Is K H v (.list (zaX d)) \/ Is K H v (.tuple (zaX d)):=by
 cases d <;> first | exact .inl h | exact .inr h | cases e
theorem zkY {K : PySem.W.Frag} {g : TG} {tt : TT} {te : TE} {src : List (Option Nat)} {σ : L2.St} {H : Hp} {Q : VK} {v : V} {ds : List PyData} {o0 : Option V} {tl : L2.St} (p : PyData -> Bool) (h : Is K H v (.list ds) \/ Is K H v (.tuple ds)) (hsrc : zaO src σ = o0 :: tl)
   (hs : ∀ D i x ys o H1,i < ds.length -> Is K H1 x (ds.getD i .none) -> zbG H tl (fun (j : Nat) (y : V) (_ : Hp)=>y = V.bl (p (ds.getD j .none))) D i ys (o :: tl) H1 -> zdI (zbG H tl (fun (j : Nat) (y : V) (_ : Hp)=>y = V.bl (p (ds.getD j .none)))) g tt te D i x (o :: tl) H1)
   (hd : ∀ D H',H D = none -> zaf H H' -> H' D = some (.lst ((ds.map p).map V.bl)) -> Q (.ref D) H') : zgt K g tt te src σ v H Q \/ zhA K g tt te src σ v H Q:=by
 have fin : ∀ (us : List V),us.length = ds.length -> ∀ (D : Addr) (ys : List V) (H' : Hp),H D = none -> zaf H H' -> H' D = some (.lst ys) -> ys.length = us.length -> (∀ (j : Nat) (y : V),ys[j]? = some y -> y = V.bl (p (ds.getD j .none))) -> Q (.ref D) H':=fun us hul D ys H' hn S hD hl hr=>by
   have hys : ys = (ds.map p).map V.bl:=by
     refine List.ext_getElem (by rw [hl,hul,List.length_map,List.length_map]) fun j h1 h2=>?_
     have:=hr j ys[j] (List.getElem?_eq_getElem h1)
     rw [this,List.getElem_map,List.getElem_map,List.getD_eq_getElem?_getD,List.getElem?_eq_getElem]
     rfl
   subst hys
   exact hd D H' hn S hD
 rcases h with h | h
 . obtain ⟨ap,us,rfl,hs',tu⟩:=zaM.mp h
   refine .inl (zeR hs' hsrc _ (fun D i x ys o H1 hx inv=>?_) fun D ys H' hn S hD hl hr=>fin us tu.length D ys H' hn S hD hl hr)
   obtain ⟨hi,ix⟩:=zcC tu hx
   exact hs D i x ys o H1 hi (ix.by inv.same) inv
 . obtain ⟨ap,us,rfl,hs',tu⟩:=zaH.mp h
   refine .inr (zf0 hs' hsrc _ (fun D i x ys o H1 hx inv=>?_) fun D ys H' hn S hD hl hr=>fin us tu.length D ys H' hn S hD hl hr)
   obtain ⟨hi,ix⟩:=zcC tu hx
   exact hs D i x ys o H1 hi (ix.by inv.same) inv
theorem zet {α : Type} (ds : List α) (p : α -> Bool) : (ds.map p).all id = ds.all p:=by rw [List.all_map]; rfl
def zc2 (l m : Int) (d : PyData) : Bool:=zcs d && (zaX d).all (zdd l m)
def zcY (K : PySem.W.Frag) : Sp:=fun vs H Q _=>∃ x0 x1 x2,vs = [x0,x1,x2] /\ ∃ (l m : Int) (d : PyData),x0 = .int l /\ x1 = .int m /\ Is K H x2 d /\ (zaX d).length <= 1000 /\ ∀ H',zaf H H' -> Q (.bl (zc2 l m d)) H'
theorem zb7 {K : PySem.W.Frag} {H : Hp} {Q : VK} {E : XK} {l m : Int} {v : V} {d : PyData} (h : Is K H v d) (z : (zaX d).length <= 1000) (q : ∀ H',zaf H H' -> Q (.bl (zc2 l m d)) H') : zcY K [.int l,.int m,v] H Q E:=⟨_,_,_,rfl,l,m,d,rfl,rfl,h,z,q⟩
set_option maxHeartbeats 4000000 in
theorem zb5 (T : Txt K mg a) : zbr P w K mg base CX0 3 a.are_whole_from a.fd_are_whole_from ["least","most","thing"] (zcY K):=by
 refine T.F_are_whole_from.ok zeQ (fun vs H Q E h=>by obtain ⟨_,_,_,rfl,_⟩:=h; rfl) (fun cdv A outer s H vs Q E hr h=>?_)
 obtain ⟨x0,x1,x2,rfl,h⟩:=h
 have hu:=hr.units
 refine ⟨_,(zai (zaB (zew (zag (zb6 T) (hr.mono (by decide)) rfl T.g_is_listed T.F_is_listed.kp T.b_is_listed .nil zat (zaa (pv 2) zab)) (zez (zam (show zaj _ (.builtin "all") (zhT K) from zd7 rfl) rfl T.z_all zic (zaa (zaU rfl (zaL.by (N':=["one","least","most"]) (src:=[none,some 0,some 1]) rfl (show zaF _ (zac zaW).names ["least","most","thing"] ["one","least","most"] [none,some 0,some 1] = true from by decide +kernel)) (zgf (pv 2)) (fun _ _ _ _ _=>(zak (i:=0) (show (["one","least","most"] : List Str).Nodup from by decide) rfl (Or.inl rfl))) (fun _ _ _ _ _=>zaY) (fun _ _ _ _ _=>(zag (zcg (K:=K) (mg:=mg) (a:=a) T) (hr.mono (by decide)) rfl T.g_is_whole_from T.F_is_whole_from.kp T.b_is_whole_from .nil zat (zaa (pv 1) (zaa (pv 2) (zaa (pv 0) zab)))))) zab)))))),?_⟩
 clear hu
 try clear hgd
 try dsimp only [zbp,zbc]
 rw [show start ["least","most","thing"] [x0,x1,x2] = [some x0,some x1,some x2] from rfl]
 obtain ⟨l,m,d,rfl,rfl,hd,hz,q⟩:=h
 wtm_at "gg"
 refine zb4 hd (fun H1 S1=>?_)
 unfold zc2 at q
 cases e : zcs d with
 | false =>
   rw [e] at q
   wtm_at "gg"
   exact q H1 S1
 | true =>
   rw [e] at q
   wtm_at "gg"
   refine zkY (zdd l m) (o0:=none) (tl:=[some (.int l),some (.int m)]) (zfm (hd.by S1) e) rfl ?_ ?_
   . intro D i x ys o H2 hi ix inv
     wtm_at "gg"
     refine zcm ix ?_
     wtm_at "gg"
     exact zbE inv (by omega) (fun _ _ _ _ _ z=>z) ⟨_,rfl⟩ (zaf.refl _) rfl
   . intro D H2 hn S2 hD
     wtm_at "gg"
     refine zfX (.of hD) ?_
     rw [zet]
     exact q H2 (S1.trans S2)
def ze2 (d : PyData) : Bool:=zc2 1 60 d && (decide (1 <= (zaX d).length) && decide ((zaX d).length <= 8))
def zef (K : PySem.W.Frag) : Sp:=fun vs H Q _=>∃ x0,vs = [x0] /\ ∃ (d : PyData),Is K H x0 d /\ (zaX d).length <= 1000 /\ ∀ H',zaf H H' -> Q (.bl (ze2 d)) H'
theorem zhg {K : PySem.W.Frag} {H : Hp} {Q : VK} {E : XK} {v : V} {d : PyData} (h : Is K H v d) (z : (zaX d).length <= 1000) (q : ∀ H',zaf H H' -> Q (.bl (ze2 d)) H') : zef K [v] H Q E:=⟨_,rfl,d,h,z,q⟩
theorem zca {K : PySem.W.Frag} {H : Hp} {Q : VK} {v : V} {ds : List PyData} (h : Is K H v (.list ds) \/ Is K H v (.tuple ds)) (q : Q (.int (ds.length : Int)) H) : zcb K [v] H Q:=by
 rcases h with h | h
 . obtain ⟨a,xs,rfl,hs,t⟩:=zaM.mp h
   exact zb8 hs (by rw [t.length]; exact q)
 . exact zfY h q
set_option maxHeartbeats 4000000 in
theorem zg9 (T : Txt K mg a) : zbr P w K mg base CX0 4 a.are_rounds a.fd_are_rounds ["thing"] (zef K):=by
 refine T.F_are_rounds.ok zg8 (fun vs H Q E h=>by obtain ⟨_,rfl,_⟩:=h; rfl) (fun cdv A outer s H vs Q E hr h=>?_)
 obtain ⟨x0,rfl,h⟩:=h
 have hu:=hr.units
 refine ⟨_,(zai (zaB (zew (zag (zb5 T) (hr.mono (by decide)) rfl T.g_are_whole_from T.F_are_whole_from.kp T.b_are_whole_from .nil zat (zaa zad (zaa (zdl rfl T.c_MOST_ROUND) (zaa (pv 0) zab)))) (zez (zi0 zlz zlz zad (zam (show zaj _ (.builtin "len") (zcb K) from zax) rfl T.z_len za8 (zaa (pv 0) zab)) (zdl rfl T.c_MOST_WORMS)))))),?_⟩
 clear hu
 try clear hgd
 try dsimp only [zbp,zbc]
 rw [show start ["thing"] [x0] = [some x0] from rfl]
 obtain ⟨d,hd,hz,q⟩:=h
 wtm_at "gg"
 refine zb7 hd hz (fun H1 S1=>?_)
 unfold ze2 at q
 cases e : zc2 1 60 d with
 | false =>
   rw [e] at q
   wtm_at "gg"
   exact q H1 S1
 | true =>
   rw [e] at q
   have e1 : zcs d = true:=by
     unfold zc2 at e
     rw [Bool.and_eq_true] at e
     exact e.1
   have q1:=q H1 S1
   wtm_at "gg"
   refine zca (zfm (hd.by S1) e1) ?_
   wtm_at "gg"
   . rename_i z1
     rw [decide_eq_true (show 1 <= (zaX d).length by omega),Bool.true_and,Bool.true_and,show decide ((zaX d).length <= 8) = decide (((zaX d).length : Int) <= 8) from decide_eq_decide.mpr (by omega)] at q1
     exact q1
   . rename_i z1
     rw [decide_eq_false (show ¬ 1 <= (zaX d).length by omega),Bool.false_and,Bool.and_false] at q1
     exact q1
def zcu (d : PyData) (ns : List Int) : Prop:=d = .list (ns.map .int) \/ d = .tuple (ns.map .int)
theorem zcu.listed {d : PyData} {ns : List Int} (h : zcu d ns) : zcs d = true /\ zaX d = ns.map .int:=by rcases h with rfl | rfl <;> exact ⟨rfl,rfl⟩
theorem zcu.is {K : PySem.W.Frag} {H : Hp} {v : V} {d : PyData} {ns : List Int} (h : zcu d ns) (i : Is K H v d) : Is K H v (.list (ns.map .int)) \/ Is K H v (.tuple (ns.map .int)):=by rcases h with rfl | rfl; exact .inl i; exact .inr i
theorem zkS {l m : Int} {ns : List Int} (h : ∀ n ∈ ns,l <= n /\ n <= m) : (ns.map PyData.int).all (zdd l m) = true:=by
 rw [List.all_map,List.all_eq_true]
 intro n hn
 show (decide (l <= n) && decide (n <= m)) = true
 rw [decide_eq_true (h n hn).1,decide_eq_true (h n hn).2]; rfl
theorem zcu.wholes {d : PyData} {ns : List Int} {l m : Int} (h : zcu d ns) (hn : ∀ n ∈ ns,l <= n /\ n <= m) : zc2 l m d = true:=by
 unfold zc2
 rw [h.listed.1,h.listed.2,zkS hn]; rfl
def zek (ds : List PyData) (rows : List (List Int)) : Prop:=ds.length = rows.length /\ ∀ i,i < rows.length -> zcu (ds.getD i .none) (rows.getD i [])
def zde (d : PyData) (ds : List PyData) : Prop:=d = .list ds \/ d = .tuple ds
theorem zde.is {K : PySem.W.Frag} {H : Hp} {v : V} {d : PyData} {ds : List PyData} (h : zde d ds) (i : Is K H v d) : Is K H v (.list ds) \/ Is K H v (.tuple ds):=by rcases h with rfl | rfl; exact .inl i; exact .inr i
theorem zde.listed {d : PyData} {ds : List PyData} (h : zde d ds) : zcs d = true /\ zaX d = ds:=by rcases h with rfl | rfl <;> exact ⟨rfl,rfl⟩
def zgu (K : PySem.W.Frag) : Sp:=fun vs H Q _=>∃ x0 x1,vs = [x0,x1] /\ ∃ (d e : PyData) (ds : List PyData) (rs : List Int) (us : List (List Int)),Is K H x0 d /\ zde d ds /\ zek ds us /\ Is K H x1 e /\ zcu e rs /\ us.length = rs.length /\ rs.length <= 8 /\ (∀ i,i < rs.length -> ((us.getD i []).length : Int) = rs.getD i 0 /\ (us.getD i []).length <= 60 /\ ∀ x ∈ us.getD i [],0 <= x /\ x <= 60) /\ ∀ H',zaf H H' -> Q (.bl true) H'
theorem zkj {K : PySem.W.Frag} {H : Hp} {Q : VK} {E : XK} {v w : V} {d e : PyData} {ds : List PyData} {rs : List Int} {us : List (List Int)} (h1 : Is K H v d) (h2 : zde d ds) (h3 : zek ds us) (h4 : Is K H w e) (h5 : zcu e rs) (h6 : us.length = rs.length) (h7 : rs.length <= 8) (h8 : ∀ i,i < rs.length -> ((us.getD i []).length : Int) = rs.getD i 0 /\ (us.getD i []).length <= 60 /\ ∀ x ∈ us.getD i [],0 <= x /\ x <= 60) (q : ∀ H',zaf H H' -> Q (.bl true) H') : zgu K [v,w] H Q E:=⟨_,_,rfl,d,e,ds,rs,us,h1,h2,h3,h4,h5,h6,h7,h8,q⟩
theorem zmx {ys : List V} (h : ∀ (j : Nat) (y : V),ys[j]? = some y -> y = .bl true) : ∃ bs : List Bool,ys = bs.map V.bl /\ bs.all id = true:=by
 refine ⟨List.replicate ys.length true,List.ext_getElem (by simp) fun j h1 h2=>?_,?_⟩
 . rw [h j ys[j] (List.getElem?_eq_getElem h1),List.getElem_map,List.getElem_replicate]
 . rw [List.all_eq_true]
   intro b hb
   exact (List.mem_replicate.mp hb).2
set_option maxHeartbeats 4000000 in
theorem zkr (T : Txt K mg a) : zbr P w K mg base CX0 4 a.are_ups a.fd_are_ups ["thing","rounds"] (zgu K):=by
 refine T.F_are_ups.ok zj8 (fun vs H Q E h=>by obtain ⟨_,_,rfl,_⟩:=h; rfl) (fun cdv A outer s H vs Q E hr h=>?_)
 obtain ⟨x0,x1,rfl,h⟩:=h
 have hu:=hr.units
 refine ⟨_,(zae (zcU (PW.pt (zhw (zdg (zcQ (zag (zb6 T) (hr.mono (by decide)) rfl T.g_is_listed T.F_is_listed.kp T.b_is_listed .nil zat (zaa (pv 0) zab)))) (zit (zba (show OpR _ (compareOp .NotEq) (zgo K) from zem hu) (zam (show zaj _ (.builtin "len") (zcb K) from zax) rfl T.z_len za8 (zaa (pv 0) zab)) (zam (show zaj _ (.builtin "len") (zcb K) from zax) rfl T.z_len za8 (zaa (pv 1) zab)) (zbq _))))) (zai (zaB zeC)) zbu)
     (zai (zaB (zam (show zaj _ (.builtin "all") (zhT K) from zd7 rfl) rfl T.z_all zic (zaa (zaU rfl (zaL.by (N':=["own","count"]) (src:=[none,none]) rfl (show zaF _ (zac zcj).names ["thing","rounds"] ["own","count"] [none,none] = true from by decide +kernel)) (zlI rfl T.z_zip (zaa (pv 0) (zaa (pv 1) zab))) (fun _ _ _ _ _=>by exact (show PG _ _ (ziI K 2 _) from zdM (n:=2) rfl (zaZ (zak (i:=0) (show (["own","count"] : List Str).Nodup from by decide) rfl (Or.inl rfl)) (zaZ (zak (i:=1) (show (["own","count"] : List Str).Nodup from by decide) rfl (Or.inl rfl)) zcZ)))) (fun _ _ _ _ _=>zaY) (fun _ _ _ _ _=>(zew (zag (zb5 (K:=K) (mg:=mg) (a:=a) T) (hr.mono (by decide)) rfl T.g_are_whole_from T.F_are_whole_from.kp T.b_are_whole_from .nil zat (zaa zad (zaa (zdl rfl T.c_MOST_UP) (zaa (pv 0) zab)))) (zez (ze1 (show OpR _ (compareOp .Eq) (zhh K) from ze8 hu) (zam (show zaj _ (.builtin "len") (zcb K) from zax) rfl T.z_len za8 (zaa (pv 0) zab)) (pv 1) (zbq _)))))) zab))))),?_⟩
 clear hu
 try clear hgd
 try dsimp only [zbp,zbc]
 rw [show start ["thing","rounds"] [x0,x1] = [some x0,some x1] from rfl]
 obtain ⟨d,e,ds,rs,us,i0,sd,rd,i1,ie,hl,h8,hu,q⟩:=h
 wtm_at "gg"
 refine zb4 i0 (fun H1 S1=>?_)
 rw [sd.listed.1]
 wtm_at "gg"
 refine zca (sd.is (i0.by S1)) ?_
 wtm_at "gg"
 refine zca (ie.is (i1.by S1)) ?_
 rw [List.length_map,rd.1,hl]
 wtm_at "gg"
 . obtain ⟨t,a,xs,rfl,hx,tx⟩:=zkD (sd.is (i0.by S1))
   obtain ⟨u,b,ys,rfl,hy,ty⟩:=zkD (ie.is (i1.by S1))
   have lx:=tx.length
   have ly:=ty.length
   rw [List.length_map] at ly
   refine ⟨t,u,ziA hx hy (by rw [lx,ly,rd.1,hl]) (o0:=none) (o0':=none) (tl:=[]) rfl (fun j y H'=>y = .bl true) (fun _ _ _ _ _ z=>z) ?_ ?_⟩
   . intro D i x y zs o1 o2 H2 c hx' hy' inv ec
     obtain ⟨hi,ix⟩:=zcC tx hx'
     obtain ⟨hj,iy⟩:=zcC ty hy'
     rw [List.length_map] at hj
     have iyv : y = .int (rs.getD i 0):=by
       rw [List.getD_eq_getElem?_getD,List.getElem?_map,List.getElem?_eq_getElem hj] at iy
       rw [List.getD_eq_getElem?_getD,List.getElem?_eq_getElem hj]
       exact zaT.mp iy
     subst iyv
     have S2:=inv.2.2.1
     obtain ⟨g1,g2,g3⟩:=hu i hj
     have di:=rd.2 i (by omega)
     refine zcN (zdu (.of ec) rfl ?_)
     wtm_at "gg"
     refine zb7 (ix.by S2) (by rw [di.listed.2,List.length_map]; omega) (fun H3 S3=>?_)
     rw [di.wholes g3]
     wtm_at "gg"
     refine zca (di.is ((ix.by S2).by S3)) ?_
     rw [List.length_map,g1]
     wtm_at "gg"
     exact ze9 inv (by omega) (fun _ _ _ _ _ z=>z) ⟨_,_,rfl⟩ S3 (by rw [decide_eq_true rfl])
   . intro D zs H2 hn S2 hD hl2 hr
     obtain ⟨bs,rfl,hb⟩:=zmx hr
     wtm_at "gg"
     refine zfX (.of hD) ?_
     rw [hb]
     exact q H2 (S1.trans S2)
def zhn (K : PySem.W.Frag) : Sp:=fun vs H Q _=>∃ x0 x1,vs = [x0,x1] /\ ∃ (d : PyData) (t : List Int) (n : Nat),Is K H x0 d /\ zcu d t /\ x1 = .int (n : Int) /\ zcD n t /\ ∀ H',zaf H H' -> Q (.bl true) H'
theorem zmF {K : PySem.W.Frag} {H : Hp} {Q : VK} {E : XK} {v : V} {d : PyData} {t : List Int} {n : Nat} (h1 : Is K H v d) (h2 : zcu d t) (h3 : zcD n t) (q : ∀ H',zaf H H' -> Q (.bl true) H') : zhn K [v,.int (n : Int)] H Q E:=⟨_,_,rfl,d,t,n,h1,h2,rfl,h3,q⟩
theorem zij {K : PySem.W.Frag} {H : Hp} {Q : VK} {v : V} {ns : List Int} {m : Int} (h : Is K H v (.list (ns.map .int)) \/ Is K H v (.tuple (ns.map .int))) (h0 : 0 <= m) (h1 : m < ns.length) (q : Q (.int (ns.getD m.toNat 0)) H) : rIx K v (.int m) H Q:=by
 rcases h with h | h
 . obtain ⟨a,xs,rfl,hs,t⟩:=zaM.mp h
   rw [zcn.mp t] at hs
   obtain ⟨n,rfl⟩ : ∃ n : Nat,m = (n : Int):=⟨m.toNat,by omega⟩
   refine zfd hs (zc1 (j:=n) (v:=.int (ns.getD n 0)) ?_) q
   rw [List.getElem?_map,List.getD_eq_getElem?_getD,List.getElem?_eq_getElem (by omega)]
   rfl
 . exact zcG h h0 h1 q
theorem zq4 {K : PySem.W.Frag} {H : Hp} {Q : VK} {v : V} {x y z : Int} (h : Is K H v (.list [.int x,.int y,.int z]) \/ Is K H v (.tuple [.int x,.int y,.int z])) (q : ∀ w e H',zaf H H' -> Is K H' w e -> zcu e [x,y] -> Q w H') : zmS K v none (some 2) H Q:=by
 have ec : zj6 [PyData.int x,.int y,.int z] none (some 2) = [.int x,.int y]:=rfl
 rcases h with h | h
 . refine zpD h fun l H' ys hn S e t=>?_
   rw [ec] at t
   exact q _ _ H' S (zaM.mpr ⟨l,ys,rfl,.of e,t⟩) (.inl rfl)
 . refine zlw h (show ¬ (HT.sIx 3 0 none = 0 /\ HT.sIx 3 3 (some 2) = 3) from by decide) fun w H' S i=>?_
   rw [ec] at i
   exact q _ _ H' S i (.inr rfl)
set_option maxHeartbeats 4000000 in
theorem zmg (T : Txt K mg a) : zbr P w K mg base CX0 4 a.is_tie a.fd_is_tie ["thing","worms"] (zhn K):=by
 refine T.F_is_tie.ok zmh (fun vs H Q E h=>by obtain ⟨_,_,rfl,_⟩:=h; rfl) (fun cdv A outer s H vs Q E hr h=>?_)
 obtain ⟨x0,x1,rfl,h⟩:=h
 have hu:=hr.units
 refine ⟨_,(zae (zcU (PW.pt (zhw (zdg (zcQ (zag (zb6 T) (hr.mono (by decide)) rfl T.g_is_listed T.F_is_listed.kp T.b_is_listed .nil zat (zaa (pv 0) zab)))) (zhw (zba (show OpR _ (compareOp .NotEq) (zgo K) from zem hu) (zam (show zaj _ (.builtin "len") (zcb K) from zax) rfl T.z_len za8 (zaa (pv 0) zab)) zad (zbq _)) (zit (zdg (zcQ (zag (zb5 T) (hr.mono (by decide)) rfl T.g_are_whole_from T.F_are_whole_from.kp T.b_are_whole_from .nil zat (zaa zad (zaa (zaq zfr (pv 1) zad) (zaa (zjz zoh (pv 0) zk1 (zk3 zad)) zab)))))))))) (zai (zaB zeC)) zbu)
     (zai (zaB (zew (ze1 (show OpR _ (compareOp .NotEq) (zgo K) from zem hu) (zal zah (pv 0) zad (fun _ _=>rfl)) (zal zah (pv 0) zad (fun _ _=>rfl)) (zbq _)) (zez (zag (zcg T) (hr.mono (by decide)) rfl T.g_is_whole_from T.F_is_whole_from.kp T.b_is_whole_from .nil zat (zaa zad (zaa (zdl rfl T.c_MOST_DELAY) (zaa (zal zah (pv 0) zad (fun _ _=>rfl)) zab))))))))),?_⟩
 clear hu
 try clear hgd
 try dsimp only [zbp,zbc]
 rw [show start ["thing","worms"] [x0,x1] = [some x0,some x1] from rfl]
 obtain ⟨d,t,n,hd,di,rfl,⟨ta,tb,td,rfl,ha,hb,hab,hdl⟩,q⟩:=h
 wtm_at "gg"
 refine zb4 hd (fun H1 S1=>?_)
 rw [di.listed.1]
 wtm_at "gg"
 refine zca (di.is (hd.by S1)) ?_
 rw [List.length_map]
 wtm_at "gg"
 . rename_i z; exact absurd rfl z
 . refine zq4 (di.is (hd.by S1)) (fun w e H2 S2 iw ie=>?_)
   wtm_at "gg"
   refine zb7 iw (by rw [ie.listed.2]; simp) (fun H3 S3=>?_)
   rw [ie.wholes (fun x hx=>by
     simp only [List.mem_cons,List.not_mem_nil,or_false] at hx
     rcases hx with rfl | rfl <;> omega)]
   have T3:=S1.trans (S2.trans S3)
   wtm_at "gg"
   refine zij (di.is (hd.by T3)) (by decide) (by simp) ?_
   wtm_at "gg"
   refine zij (di.is (hd.by T3)) (by decide) (by simp) ?_
   wtm_at "gg"
   . refine zij (di.is (hd.by T3)) (by decide) (by simp) ?_
     wtm_at "gg"
     refine zcm (d:=.int (td : Int)) (zaT.mpr rfl) ?_
     rw [show zdd 0 4 (.int (td : Int)) = true from by
       show (decide ((0 : Int) <= (td : Int)) && decide ((td : Int) <= 4)) = true
       rw [decide_eq_true (by omega),decide_eq_true (by omega)]; rfl]
     exact q H3 T3
   . rename_i z
     exact absurd z (by simp; omega)
theorem zek.at {ds : List PyData} {rows : List (List Int)} (h : zek ds rows) {i : Nat} (hi : i < ds.length) : i < rows.length /\ zcu (ds.getD i .none) (rows.getD i []):=⟨by rw [<- h.1]; exact hi,h.2 i (by rw [<- h.1]; exact hi)⟩
theorem zoW {rows : List (List Int)} {P : List Int -> Prop} (h : ∀ t ∈ rows,P t) {i : Nat} (hi : i < rows.length) : P (rows.getD i []):=by
 rw [List.getD_eq_getElem?_getD,List.getElem?_eq_getElem hi]
 exact h _ (List.getElem_mem hi)
theorem zfk {K : PySem.W.Frag} {src : List (Option Nat)} {σ : L2.St} {H : Hp} {Q : VK} {v : V} {ds : List PyData} {rows : List (List Int)} (h : Is K H v (.list ds) \/ Is K H v (.tuple ds)) (rd : zek ds rows) (z : ds.length <= 1000) (hsrc : zaO src σ = [none])
   (hd : ∀ D us H',H D = none -> zaf H H' -> H' D = some (.lst us) -> IsAll K H' us (rows.map TZ) -> Q (.ref D) H') : zgt K (zeE 0) zj1 (tCB (zas K) (ziT (ziD 0) zmL)) src σ v H Q \/ zhA K (zeE 0) zj1 (tCB (zas K) (ziT (ziD 0) zmL)) src σ v H Q:=by
 have st : ∀ D i x ys o H1,i < ds.length -> Is K H1 x (ds.getD i .none) -> zbG H [] (fun (j : Nat) (y : V) (H' : Hp)=>Is K H' y (TZ (rows.getD j []))) D i ys (o :: []) H1 -> zdI (zbG H [] (fun (j : Nat) (y : V) (H' : Hp)=>Is K H' y (TZ (rows.getD j [])))) (zeE 0) zj1 (tCB (zas K) (ziT (ziD 0) zmL)) D i x (o :: []) H1:=fun D i x ys o H1 hi ix inv=>by
   refine zcN (zgh (zjl (zma (zqm (zk9 (zg4 rfl (zng ?_)))))))
   rcases (rd.at hi).2 with e | e
   . rw [e] at ix
     exact za5 ix fun w H2 S2 i2=>zbE inv (by omega) (fun _ _ _ _ k z=>z.thruI k) ⟨_,rfl⟩ S2 i2
   . rw [e] at ix
     exact zgC ix (zbE inv (by omega) (fun _ _ _ _ k z=>z.thruI k) ⟨_,rfl⟩ (zaf.refl _) ix)
 have fin : ∀ (us : List V),us.length = ds.length -> ∀ (D : Addr) (ys : List V) (H' : Hp),H D = none -> zaf H H' -> H' D = some (.lst ys) -> ys.length = us.length -> (∀ (j : Nat) (y : V),ys[j]? = some y -> Is K H' y (TZ (rows.getD j []))) -> Q (.ref D) H':=fun us hul D ys H' hn S hD hl hr=>by
   refine hd D ys H' hn S hD (zds (by rw [List.length_map,hl,hul,rd.1]) fun i x hx=>?_)
   have hi : i < rows.length:=by have:=zdO hx; rw [hl,hul,rd.1] at this; exact this
   rw [List.getD_eq_getElem?_getD,List.getElem?_map,List.getElem?_eq_getElem hi]
   have:=hr i x hx
   rw [List.getD_eq_getElem?_getD,List.getElem?_eq_getElem hi] at this
   exact this
 rcases h with h | h
 . obtain ⟨ap,us,rfl,hs',tu⟩:=zaM.mp h
   refine .inl (zeR hs' (o0:=none) (tl:=[]) hsrc _ (fun D i x ys o H1 hx inv=>?_) fun D ys H' hn S hD hl hr=>fin us tu.length D ys H' hn S hD hl hr)
   obtain ⟨hi,ix⟩:=zcC tu hx
   exact st D i x ys o H1 hi (ix.by inv.same) inv
 . obtain ⟨ap,us,rfl,hs',tu⟩:=zaH.mp h
   refine .inr (zf0 hs' (o0:=none) (tl:=[]) hsrc _ (fun D i x ys o H1 hx inv=>?_) fun D ys H' hn S hD hl hr=>fin us tu.length D ys H' hn S hD hl hr)
   obtain ⟨hi,ix⟩:=zcC tu hx
   exact st D i x ys o H1 hi (ix.by inv.same) inv
theorem zoR {K : PySem.W.Frag} {w : World} {H : Hp} {Q : VK} {v : V} {ks : List (List Int)} (h : Is K H v (.list (ks.map TZ))) (z : ks.length <= 999) (nd : ks.Nodup) (q : ∀ (l : Addr) (H' : Hp) (ws : List V),H l = none -> zaf H H' -> H' l = some (SetO w l ws) -> ws.length = ks.length -> Q (.ref l) H') : znr K w [v] H Q:=by
 obtain ⟨p,vs,rfl,hs,t⟩:=zaM.mp h
 have hl:=t.length
 rw [List.length_map] at hl
 refine ⟨p,vs,fun j=>ks.getD j [],rfl,hs,by omega,fun j v hv=>?_,fun l ws js h1 h2 h3 h4 h5=>?_⟩
 . obtain ⟨hj,ij⟩:=zcC t hv
   rw [List.length_map] at hj
   rw [List.getD_eq_getElem?_getD,List.getElem?_map,List.getElem?_eq_getElem hj] at ij
   show TpI K H v (ks.getD j [])
   rw [List.getD_eq_getElem?_getD,List.getElem?_eq_getElem hj]
   exact zdp.mp ij
 . refine q l _ ws h1 (zaf.upd h1) zar ?_
   rw [h2]
   have pm : js.Perm ks:=by
     refine (List.perm_ext_iff_of_nodup h4 nd).mpr fun x=>(h5 x).trans ?_
     constructor
     . rintro ⟨j,hj,rfl⟩; exact GM.getD_mem (by omega)
     . intro hx
       obtain ⟨j,hj,e⟩:=zmX [] hx
       exact ⟨j,by omega,e⟩
   exact pm.length_eq
def zfz (K : PySem.W.Frag) : Sp:=fun vs H Q _=>∃ x0 x1,vs = [x0,x1] /\ ∃ (d : PyData) (ds : List PyData) (ts : List (List Int)) (n : Nat),Is K H x0 d /\ zde d ds /\ zek ds ts /\ x1 = .int (n : Int) /\ ts.length <= 60 /\ (∀ t ∈ ts,zcD n t) /\ ts.Nodup /\ ∀ H',zaf H H' -> Q (.bl true) H'
theorem zjD {K : PySem.W.Frag} {H : Hp} {Q : VK} {E : XK} {v : V} {d : PyData} {ds : List PyData} {ts : List (List Int)} {n : Nat} (h1 : Is K H v d) (h2 : zde d ds) (h3 : zek ds ts) (h4 : ts.length <= 60) (h5 : ∀ t ∈ ts,zcD n t) (h6 : ts.Nodup) (q : ∀ H',zaf H H' -> Q (.bl true) H') : zfz K [v,.int (n : Int)] H Q E:=⟨_,_,rfl,d,ds,ts,n,h1,h2,h3,rfl,h4,h5,h6,q⟩
set_option maxHeartbeats 4000000 in
theorem zjw (T : Txt K mg a) : zbr P w K mg base CX0 5 a.are_ties a.fd_are_ties ["thing","worms"] (zfz K):=by
 refine T.F_are_ties.ok zi4 (fun vs H Q E h=>by obtain ⟨_,_,rfl,_⟩:=h; rfl) (fun cdv A outer s H vs Q E hr h=>?_)
 obtain ⟨x0,x1,rfl,h⟩:=h
 have hu:=hr.units
 refine ⟨_,(zae (zcU (PW.pt (zhw (zdg (zcQ (zag (zb6 T) (hr.mono (by decide)) rfl T.g_is_listed T.F_is_listed.kp T.b_is_listed .nil zat (zaa (pv 0) zab)))) (zhw (zba zp3 (zam (show zaj _ (.builtin "len") (zcb K) from zax) rfl T.z_len za8 (zaa (pv 0) zab)) (zdl rfl T.c_MOST_TIES) (zbq _)) (zit (zdg (zcQ (zam (show zaj _ (.builtin "all") (zhT K) from zd7 rfl) rfl T.z_all zic (zaa (zaU rfl (zaL.by (N':=["tie","worms"]) (src:=[none,some 1]) rfl (show zaF _ (zac zbF).names ["thing","worms"] ["tie","worms"] [none,some 1] = true from by decide +kernel)) (zgf (pv 0)) (fun _ _ _ _ _=>(zak (i:=0) (show (["tie","worms"] : List Str).Nodup from by decide) rfl (Or.inl rfl))) (fun _ _ _ _ _=>zaY) (fun _ _ _ _ _=>(zag (zmg (K:=K) (mg:=mg) (a:=a) T) (hr.mono (by decide)) rfl T.g_is_tie T.F_is_tie.kp T.b_is_tie .nil zat (zaa (pv 0) (zaa (pv 1) zab))))) zab)))))))) (zai (zaB zeC)) zbu)
     (zai (zaB (ze1 (show OpR _ (compareOp .Eq) (zhh K) from ze8 hu) (zam (show zaj _ (.builtin "len") (zqb w) from zlP) rfl T.z_len za8 (zaa (zan (show zaj _ (.type "set") (znr K w) from zko hu rfl) rfl T.z_set zn3 (zaa (zaU rfl (zaL.by (N':=["tie"]) (src:=[none]) rfl (show zaF _ (zac zbF).names ["thing","worms"] ["tie"] [none] = true from by decide +kernel)) (zgf (pv 0)) (fun _ _ _ _ _=>(zak (i:=0) (show (["tie"] : List Str).Nodup from by decide) rfl (Or.inl rfl))) (fun _ _ _ _ _=>zaY) (fun _ _ _ _ _=>(zan (show zaj _ (.type "tuple") (zas K) from zao) rfl T.z_tuple zaG (zaa (pv 0) zab)))) zab)) zab)) (zam (show zaj _ (.builtin "len") (zcb K) from zax) rfl T.z_len za8 (zaa (pv 0) zab)) (zbq _))))),?_⟩
 clear hu
 try clear hgd
 try dsimp only [zbp,zbc]
 rw [show start ["thing","worms"] [x0,x1] = [some x0,some x1] from rfl]
 obtain ⟨d,ds,ts,n,hd,sd,rd,rfl,hl,ht,nd,q⟩:=h
 wtm_at "gg"
 refine zb4 hd (fun H1 S1=>?_)
 rw [sd.listed.1]
 wtm_at "gg"
 refine zca (sd.is (hd.by S1)) ?_
 rw [rd.1]
 wtm_at "gg"
 . rename_i z; exact absurd z (by omega)
 . refine zkY (fun _=>true) (o0:=none) (tl:=[some (.int (n : Int))]) (sd.is (hd.by S1)) rfl ?_ ?_
   . intro D i x ys o H2 hi ix inv
     obtain ⟨hi',di⟩:=rd.at hi
     wtm_at "gg"
     refine zmF ix di (zoW ht hi') (fun H3 S3=>?_)
     wtm_at "gg"
     exact zbE inv (by omega) (fun _ _ _ _ _ z=>z) ⟨_,rfl⟩ S3 rfl
   . intro D H2 hn S2 hD
     have T2:=S1.trans S2
     wtm_at "gg"
     refine zfX (.of hD) ?_
     rw [zet,show (ds.all fun _=>true) = true from by rw [List.all_eq_true]; intros; rfl]
     wtm_at "gg"
     refine zfk (sd.is (hd.by T2)) rd (by rw [rd.1]; omega) rfl (fun D3 us H3 n3 S3 e3 t3=>?_)
     have T3:=T2.trans S3
     wtm_at "gg"
     refine zoR (zaM.mpr ⟨D3,us,rfl,.of e3,t3⟩) (by omega) nd (fun l4 H4 ws n4 S4 e4 hw=>?_)
     wtm_at "gg"
     refine ⟨l4,ws,rfl,e4,?_⟩
     wtm_at "gg"
     refine zca (sd.is (hd.by (T3.trans S4))) ?_
     rw [hw,rd.1]
     wtm_at "gg"
     rw [decide_eq_true rfl]
     exact q H4 (T3.trans S4)
structure zmY (K : PySem.W.Frag) (H : Hp) (v0 v1 v2 : V) (rs : List Int) (us ts : List (List Int)) : Prop where
 r : ∃ d,Is K H v0 d /\ zcu d rs
 u : ∃ d ds,Is K H v1 d /\ zde d ds /\ zek ds us
 t : ∃ d ds,Is K H v2 d /\ zde d ds /\ zek ds ts
 ok : zaN rs us ts
def zhK (K : PySem.W.Frag) (a : Ad) : Sp:=fun vs H Q E=>∃ x0 x1 x2,vs = [x0,x1,x2] /\ ∃ (rs : List Int) (us ts : List (List Int)),zmY K H x0 x1 x2 rs us ts /\ ∀ v H' ts',zaf H H' -> ts'.Perm ts -> Is K H' v (zbb rs us ts') -> Q v H'
theorem zhE {K : PySem.W.Frag} {a : Ad} {H : Hp} {Q : VK} {E : XK} {x y z : V} {rs : List Int} {us ts : List (List Int)} (h : zmY K H x y z rs us ts) (q : ∀ v H' ts',zaf H H' -> ts'.Perm ts -> Is K H' v (zbb rs us ts') -> Q v H') : zhK K a [x,y,z] H Q E:=⟨_,_,_,rfl,rs,us,ts,h,q⟩
theorem zg3 {K : PySem.W.Frag} {H : Hp} {Q : VK} {v : V} {ds : List PyData} (h : Is K H v (.list ds) \/ Is K H v (.tuple ds)) (q : ∀ w H',zaf H H' -> Is K H' w (.tuple ds) -> Q w H') : zas K [v] H Q:=by
 rcases h with h | h
 . exact za5 h q
 . exact zgC h (q v H (zaf.refl _) h)
theorem zjL (rows : List (List Int)) : zek (rows.map TZ) rows:=⟨by rw [List.length_map],fun i hi=>.inr (by rw [List.getD_eq_getElem?_getD,List.getElem?_map,List.getElem?_eq_getElem hi,List.getD_eq_getElem?_getD,List.getElem?_eq_getElem hi]; rfl)⟩
theorem zjs {K : PySem.W.Frag} {H : Hp} {x y z : V} {rs : List Int} {us ts : List (List Int)} (h0 : Is K H x (TZ rs)) (h1 : Is K H y (TTr us)) (h2 : Is K H z (TTr ts)) (ok : zaN rs us ts) : zmY K H x y z rs us ts :=
 ⟨⟨_,h0,.inr rfl⟩,⟨_,_,h1,.inr rfl,zjL us⟩,⟨_,_,h2,.inr rfl,zjL ts⟩,ok⟩
set_option maxHeartbeats 4000000 in
theorem zhN (T : Txt K mg a) : zbr P w K mg base (CX1 P w) 6 a.web_of a.fd_web_of ["rounds","ups","ties"] (zhK K a):=by
 refine T.F_web_of.ok1 zmB (fun vs H Q E h=>by obtain ⟨_,_,_,rfl,_⟩:=h; rfl) (fun cdv A outer s H vs Q E hr h=>?_)
 obtain ⟨x0,x1,x2,rfl,h⟩:=h
 have hu:=hr.units
 refine ⟨_,(zae (zcU (zdg (zcQ (zag (zg9 T) (hr.mono (by decide)) rfl T.g_are_rounds T.F_are_rounds.kp T.b_are_rounds .nil zat (zaa (pv 0) zab)))) (zai (zeF T.x_NoWeb rfl rfl T.g_NoWeb ziB (zaa ziH zab))) zbu)
     (zae (zcU (zdg (zcQ (zag (zkr T) (hr.mono (by decide)) rfl T.g_are_ups T.F_are_ups.kp T.b_are_ups .nil zat (zaa (pv 1) (zaa (pv 0) zab))))) (zai (zeF T.x_NoWeb rfl rfl T.g_NoWeb ziB (zaa ziH zab))) zbu)
     (zae (zcU (zdg (zcQ (zag (zjw T) (hr.mono (by decide)) rfl T.g_are_ties T.F_are_ties.kp T.b_are_ties .nil zat (zaa (pv 2) (zaa (zam (show zaj _ (.builtin "len") (zcb K) from zax) rfl T.z_len za8 (zaa (pv 0) zab)) zab))))) (zai (zeF T.x_NoWeb rfl rfl T.g_NoWeb ziB (zaa ziH zab))) zbu)
     (zai (zaB (zaS (zaa (zan (show zaj _ (.type "tuple") (zas K) from zao) rfl T.z_tuple zaG (zaa (pv 0) zab)) (zaa (zan (show zaj _ (.type "tuple") (zas K) from zao) rfl T.z_tuple zaG (zaa (zaU rfl (zaL.by (N':=["own"]) (src:=[none]) rfl (show zaF _ (zac zcw).names ["rounds","ups","ties"] ["own"] [none] = true from by decide +kernel)) (zgf (pv 1)) (fun _ _ _ _ _=>(zak (i:=0) (show (["own"] : List Str).Nodup from by decide) rfl (Or.inl rfl))) (fun _ _ _ _ _=>zaY) (fun _ _ _ _ _=>(zan (show zaj _ (.type "tuple") (zas K) from zao) rfl T.z_tuple zaG (zaa (pv 0) zab)))) zab)) (zaa (zan (show zaj _ (.type "tuple") (zas K) from zao) rfl T.z_tuple zaG (zaa (zam (show zaj _ (.builtin "sorted") (zkF K) from zkm) rfl T.z_sorted zh2 (zaa (zaU rfl (zaL.by (N':=["tie"]) (src:=[none]) rfl (show zaF _ (zac zcw).names ["rounds","ups","ties"] ["tie"] [none] = true from by decide +kernel)) (zgf (pv 2)) (fun _ _ _ _ _=>(zak (i:=0) (show (["tie"] : List Str).Nodup from by decide) rfl (Or.inl rfl))) (fun _ _ _ _ _=>zaY) (fun _ _ _ _ _=>(zan (show zaj _ (.type "tuple") (zas K) from zao) rfl T.z_tuple zaG (zaa (pv 0) zab)))) zab)) zab)) zab))))))))),?_⟩
 clear hu
 try clear hgd
 try dsimp only [zbp,zbc]
 rw [show start ["rounds","ups","ties"] [x0,x1,x2] = [some x0,some x1,some x2] from rfl]
 obtain ⟨rs,us,ts,⟨⟨d0,i0,e0⟩,⟨d1,ds1,i1,s1,r1⟩,⟨d2,ds2,i2,s2,r2⟩,ok⟩,q⟩:=h
 have n8:=ok.n8
 have n1:=ok.n1
 wtm_at "gg"
 refine zhg i0 (by rw [e0.listed.2,List.length_map]; omega) (fun H1 S1=>?_)
 rw [show ze2 d0 = true from by
   unfold ze2
   rw [e0.wholes ok.r,e0.listed.2,List.length_map,decide_eq_true n1,decide_eq_true n8]; rfl]
 wtm_at "gg"
 refine zkj (i1.by S1) s1 r1 (i0.by S1) e0 ok.ul n8 (fun i hi=>?_) (fun H2 S2=>?_)
 . obtain ⟨h1,h2⟩:=ok.u i hi
   have:=ok.ri hi
   exact ⟨h1,by omega,h2⟩
 have T2:=S1.trans S2
 wtm_at "gg"
 refine zca (e0.is (i0.by T2)) ?_
 rw [List.length_map]
 wtm_at "gg"
 refine zjD (i2.by T2) s2 r2 ok.tl ok.t ok.nd (fun H3 S3=>?_)
 have T3:=T2.trans S3
 wtm_at "gg"
 refine zg3 (e0.is (i0.by T3)) (fun w0 H4 S4 j0=>?_)
 have T4:=T3.trans S4
 wtm_at "gg"
 refine zfk (s1.is (i1.by T4)) r1 (by rw [r1.1,ok.ul]; omega) rfl (fun D5 us5 H5 n5 S5 e5 t5=>?_)
 have T5:=T4.trans S5
 wtm_at "gg"
 refine za5 (zaM.mpr ⟨D5,us5,rfl,.of e5,t5⟩) (fun w1 H6 S6 j1=>?_)
 have T6:=T5.trans S6
 wtm_at "gg"
 refine zfk (s2.is (i2.by T6)) r2 (by have:=ok.tl; rw [r2.1]; omega) rfl (fun D7 us7 H7 n7 S7 e7 t7=>?_)
 have T7:=T6.trans S7
 wtm_at "gg"
 refine znY (zaM.mpr ⟨D7,us7,rfl,.of e7,t7⟩) (by have:=ok.tl; omega) (fun k hk z=>?_) (fun l8 H8 us8 js n8' S8 e8 pm t8=>?_)
 . obtain ⟨x,y,c,e,_⟩:=ok.t k hk
   rw [e] at z; cases z
 wtm_at "gg"
 refine za5 (zaM.mpr ⟨l8,us8,rfl,.of e8,t8⟩) (fun w2 H9 S9 j2=>?_)
 wtm_at "gg"
 refine zaQ (ds:=[TZ rs,TTr us,TTr js]) (by simp) (.cons (((j0.by S5).by S6).by (S7.trans (S8.trans S9))) (.cons (j1.by (S7.trans (S8.trans S9))) (.cons j2 .nil))) (fun v H10 S10 i10=>?_)
 exact q v H10 js (T7.trans (S8.trans (S9.trans S10))) pm i10
def phB (rs : List Int) (d : PyData) : Bool:=zcs d && (decide ((zaX d).length = rs.length) && (List.range rs.length).all fun i=>zdd 0 (rs.getD i 0 - 1) ((zaX d).getD i .none))
def zc4 (K : PySem.W.Frag) : Sp:=fun vs H Q _=>∃ x0 x1,vs = [x0,x1] /\ ∃ (d : PyData) (rs : List Int),Is K H x0 d /\ Is K H x1 (TZ rs) /\ rs.length <= 8 /\ ∀ H',zaf H H' -> Q (.bl (phB rs d)) H'
theorem zc5 {K : PySem.W.Frag} {H : Hp} {Q : VK} {E : XK} {v w : V} {d : PyData} {rs : List Int} (h1 : Is K H v d) (h2 : Is K H w (TZ rs)) (h8 : rs.length <= 8) (q : ∀ H',zaf H H' -> Q (.bl (phB rs d)) H') : zc4 K [v,w] H Q E:=⟨_,_,rfl,d,rs,h1,h2,h8,q⟩
theorem zo0 {K : PySem.W.Frag} {H : Hp} {y : V} {rs : List Int} {i : Nat} (hj : i < rs.length) (iy : Is K H y ((rs.map PyData.int).getD i .none)) : y = .int (rs.getD i 0):=by
 rw [List.getD_eq_getElem?_getD,List.getElem?_map,List.getElem?_eq_getElem hj] at iy
 rw [List.getD_eq_getElem?_getD,List.getElem?_eq_getElem hj]
 exact zaT.mp iy
set_option maxHeartbeats 4000000 in
theorem ze0 (T : Txt K mg a) : zbr P w K mg base CX0 3 a.are_web_phases a.fd_are_web_phases ["thing","rounds"] (zc4 K):=by
 refine T.F_are_web_phases.ok zeG (fun vs H Q E h=>by obtain ⟨_,_,rfl,_⟩:=h; rfl) (fun cdv A outer s H vs Q E hr h=>?_)
 obtain ⟨x0,x1,rfl,h⟩:=h
 have hu:=hr.units
 refine ⟨_,(zae (zcU (PW.pt (zhw (zdg (zcQ (zag (zb6 T) (hr.mono (by decide)) rfl T.g_is_listed T.F_is_listed.kp T.b_is_listed .nil zat (zaa (pv 0) zab)))) (zit (zba (show OpR _ (compareOp .NotEq) (zgo K) from zem hu) (zam (show zaj _ (.builtin "len") (zcb K) from zax) rfl T.z_len za8 (zaa (pv 0) zab)) (zam (show zaj _ (.builtin "len") (zcb K) from zax) rfl T.z_len za8 (zaa (pv 1) zab)) (zbq _))))) (zai (zaB zeC)) zbu)
     (zai (zaB (zam (show zaj _ (.builtin "all") (zhT K) from zd7 rfl) rfl T.z_all zic (zaa (zaU rfl (zaL.by (N':=["phase","count"]) (src:=[none,none]) rfl (show zaF _ (zac zaV).names ["thing","rounds"] ["phase","count"] [none,none] = true from by decide +kernel)) (zlI rfl T.z_zip (zaa (pv 0) (zaa (pv 1) zab))) (fun _ _ _ _ _=>by exact (show PG _ _ (ziI K 2 _) from zdM (n:=2) rfl (zaZ (zak (i:=0) (show (["phase","count"] : List Str).Nodup from by decide) rfl (Or.inl rfl)) (zaZ (zak (i:=1) (show (["phase","count"] : List Str).Nodup from by decide) rfl (Or.inl rfl)) zcZ)))) (fun _ _ _ _ _=>zaY) (fun _ _ _ _ _=>(zag (zcg (K:=K) (mg:=mg) (a:=a) T) (hr.mono (by decide)) rfl T.g_is_whole_from T.F_is_whole_from.kp T.b_is_whole_from .nil zat (zaa zad (zaa (zaq zfr (pv 1) zad) (zaa (pv 0) zab)))))) zab))))),?_⟩
 clear hu
 try clear hgd
 try dsimp only [zbp,zbc]
 rw [show start ["thing","rounds"] [x0,x1] = [some x0,some x1] from rfl]
 obtain ⟨d,rs,hd,hr',h8,q⟩:=h
 unfold phB at q
 wtm_at "gg"
 refine zb4 hd (fun H1 S1=>?_)
 cases e : zcs d with
 | false =>
   rw [e] at q
   wtm_at "gg"
   exact q H1 S1
 | true =>
   rw [e] at q
   have sd:=zfm (hd.by S1) e
   wtm_at "gg"
   refine zca sd ?_
   wtm_at "gg"
   refine zgj (hr'.by S1) ?_
   wtm_at "gg"
   . rename_i z
     have:=q H1 S1
     rw [decide_eq_false (show ¬ (zaX d).length = rs.length by omega)] at this
     exact this
   . rename_i z
     have z : (zaX d).length = rs.length:=by omega
     obtain ⟨t,a1,xs,rfl,hx,tx⟩:=zkD sd
     obtain ⟨b1,ys,rfl,hy,ty⟩:=zaH.mp (hr'.by S1)
     have lx:=tx.length
     have ly:=ty.length
     rw [List.length_map] at ly
     refine ⟨t,true,ziA hx (show SqK true K H1 b1 ys from hy) (by rw [lx,ly,z]) (o0:=none) (o0':=none) (tl:=[]) rfl (fun j y H'=>y = .bl (zdd 0 (rs.getD j 0 - 1) ((zaX d).getD j .none))) (fun _ _ _ _ _ z=>z) ?_ ?_⟩
     . intro D i x y zs o1 o2 H2 c hx' hy' inv ec
       obtain ⟨hi,ix⟩:=zcC tx hx'
       obtain ⟨hj,iy⟩:=zcC ty hy'
       rw [List.length_map] at hj
       have iyv:=zo0 hj iy
       subst iyv
       have S2:=inv.2.2.1
       refine zcN (zdu (.of ec) rfl ?_)
       wtm_at "gg"
       refine zcm (ix.by S2) ?_
       wtm_at "gg"
       exact ze9 inv (by omega) (fun _ _ _ _ _ z=>z) ⟨_,_,rfl⟩ (zaf.refl _) rfl
     . intro D zs H2 hn S2 hD hl2 hr2
       have hzs : zs = ((List.range rs.length).map fun i=>zdd 0 (rs.getD i 0 - 1) ((zaX d).getD i .none)).map V.bl:=by
         refine List.ext_getElem (by rw [hl2,lx,z,List.length_map,List.length_map,List.length_range]) fun j h1 h2=>?_
         have:=hr2 j zs[j] (List.getElem?_eq_getElem h1)
         rw [this,List.getElem_map,List.getElem_map,List.getElem_range]
       subst hzs
       wtm_at "gg"
       refine zfX (.of hD) ?_
       rw [zet]
       have:=q H2 (S1.trans S2)
       rw [decide_eq_true z] at this
       exact this
def zdN (K : PySem.W.Frag) : Sp:=fun vs H Q _=>∃ x0,vs = [x0] /\ ∃ (rs : List Int) (us ts : List (List Int)),Is K H x0 (zbb rs us ts) /\ rs.length <= 8 /\ ∀ v H',zaf H H' -> Is K H' v (TZ (List.replicate rs.length 0)) -> Q v H'
theorem zdL {K : PySem.W.Frag} {H : Hp} {Q : VK} {E : XK} {v : V} {rs : List Int} {us ts : List (List Int)} (h1 : Is K H v (zbb rs us ts)) (h8 : rs.length <= 8) (q : ∀ v H',zaf H H' -> Is K H' v (TZ (List.replicate rs.length 0)) -> Q v H') : zdN K [v] H Q E:=⟨_,rfl,rs,us,ts,h1,h8,q⟩
set_option maxHeartbeats 4000000 in
theorem zdV (T : Txt K mg a) : zbr P w K mg base CX0 1 a.none_coming a.fd_none_coming ["web"] (zdN K):=by
 refine T.F_none_coming.ok zg2 (fun vs H Q E h=>by obtain ⟨_,rfl,_⟩:=h; rfl) (fun cdv A outer s H vs Q E hr h=>?_)
 obtain ⟨x0,rfl,h⟩:=h
 have hu:=hr.units
 refine ⟨_,(zai (zaB (zan (show zaj _ (.type "tuple") (zas K) from zao) rfl T.z_tuple zaG (zaa (zaU rfl (zaL.by (N':=["worm"]) (src:=[none]) rfl (show zaF _ (zac zbi).names ["web"] ["worm"] [none] = true from by decide +kernel)) (zgs (zal zah (pv 0) zad (fun _ _=>rfl))) (fun _ _ _ _ _=>(zak (i:=0) (show (["worm"] : List Str).Nodup from by decide) rfl (Or.inl rfl))) (fun _ _ _ _ _=>zaY) (fun _ _ _ _ _=>zad)) zab)))),?_⟩
 clear hu
 try clear hgd
 try dsimp only [zbp,zbc]
 rw [show start ["web"] [x0] = [some x0] from rfl]
 obtain ⟨rs,us,ts,hw,h8,q⟩:=h
 wtm_at "gg"
 refine zbJ hw (fun x ix=>?_)
 obtain ⟨b1,ys,rfl,hy,ty⟩:=zaH.mp ix
 have ly:=ty.length
 rw [List.length_map] at ly
 refine zf0 hy (o0:=none) (tl:=[]) rfl (fun j y H'=>y = .int 0) ?_ ?_
 . intro D i x ys' o H2 hx inv
   have:=zdO hx
   wtm_at "gg"
   exact zbE inv (by omega) (fun _ _ _ _ _ z=>z) ⟨_,rfl⟩ (zaf.refl _) rfl
 . intro D zs H2 hn S2 hD hl hr
   have hzs : zs = (List.replicate rs.length (0 : Int)).map V.int:=by
     refine List.ext_getElem (by rw [hl,ly,List.length_map,List.length_replicate]) fun j h1 h2=>?_
     have:=hr j zs[j] (List.getElem?_eq_getElem h1)
     rw [this,List.getElem_map,List.getElem_replicate]
   subst hzs
   wtm_at "gg"
   refine zbN (.of hD) (fun l3 H3 n3 S3 e3=>?_)
   exact q _ H3 (S2.trans S3) (zdp.mpr ⟨l3,rfl,.of e3⟩)
def zaD (n : Nat) : List (List Int):=List.replicate 4 (List.replicate n 0)
theorem zgM {rs ps : List Int} (hl : ps.length = rs.length) (hp : ∀ i,i < rs.length -> 0 <= ps.getD i 0 /\ ps.getD i 0 < rs.getD i 0) : zdq rs ps (zaD rs.length):=by
 refine ⟨hl,hp,by simp [zaD],fun d hd=>?_⟩
 have e : (zaD rs.length).getD d [] = List.replicate rs.length 0:=by
   unfold zaD
   rw [List.getD_eq_getElem?_getD,List.getElem?_replicate,if_pos hd]; rfl
 rw [e]
 refine ⟨by simp,fun i hi=>?_⟩
 rw [List.getD_eq_getElem?_getD,List.getElem?_replicate,if_pos hi]
 simp
 omega
def zfC (K : PySem.W.Frag) (a : Ad) : Sp:=fun vs H Q E=>∃ x0 x1,vs = [x0,x1] /\ ∃ (rs : List Int) (us ts : List (List Int)) (d : PyData),Is K H x0 (zbb rs us ts) /\ rs.length <= 8 /\ Is K H x1 d /\ ((phB rs d = false /\ ∀ H',zaf H H' -> E (.ref a.C_NoStand) none H') \/ (∃ ps,phB rs d = true /\ zcu d ps /\ ∀ v H',zaf H H' -> Is K H' v (StD ps (zaD rs.length)) -> Q v H'))
theorem zqt {rs ps : List Int} {d : PyData} (h : zcu d ps) (hl : ps.length = rs.length) (hp : ∀ i,i < rs.length -> 0 <= ps.getD i 0 /\ ps.getD i 0 < rs.getD i 0) : phB rs d = true:=by
 unfold phB
 rw [h.listed.1,h.listed.2,List.length_map,decide_eq_true hl,Bool.true_and,Bool.true_and,List.all_eq_true]
 intro i hi
 have hi:=List.mem_range.mp hi
 have e : (ps.map PyData.int).getD i .none = .int (ps.getD i 0):=by
   rw [List.getD_eq_getElem?_getD,List.getElem?_map,List.getElem?_eq_getElem (by omega),List.getD_eq_getElem?_getD,List.getElem?_eq_getElem (by omega)]; rfl
 rw [e]
 have:=hp i hi
 show (decide (0 <= ps.getD i 0) && decide (ps.getD i 0 <= rs.getD i 0 - 1)) = true
 rw [decide_eq_true this.1,decide_eq_true (by omega)]; rfl
theorem zjj {K : PySem.W.Frag} {a : Ad} {H : Hp} {Q : VK} {E : XK} {v w : V} {rs ps : List Int} {us ts : List (List Int)} {d : PyData} (h : Is K H v (zbb rs us ts)) (h8 : rs.length <= 8) (h2 : Is K H w d) (di : zcu d ps) (hl : ps.length = rs.length) (hp : ∀ i,i < rs.length -> 0 <= ps.getD i 0 /\ ps.getD i 0 < rs.getD i 0) (q : ∀ v H',zaf H H' -> Is K H' v (StD ps (zaD rs.length)) -> Q v H') : zfC K a [v,w] H Q E:=⟨_,_,rfl,rs,us,ts,d,h,h8,h2,.inr ⟨ps,zqt di hl hp,di,q⟩⟩
set_option maxHeartbeats 4000000 in
theorem zjK (T : Txt K mg a) : zbr P w K mg base (CX1 P w) 4 a.stand_of a.fd_stand_of ["web","phases"] (zfC K a):=by
 refine T.F_stand_of.ok1 ziS (fun vs H Q E h=>by obtain ⟨_,_,rfl,_⟩:=h; rfl) (fun cdv A outer s H vs Q E hr h=>?_)
 obtain ⟨x0,x1,rfl,h⟩:=h
 have hu:=hr.units
 refine ⟨_,(zae (zcU (zdg (zcQ (zag (ze0 T) (hr.mono (by decide)) rfl T.g_are_web_phases T.F_are_web_phases.kp T.b_are_web_phases .nil zat (zaa (pv 1) (zaa (zal zah (pv 0) zad (fun _ _=>rfl)) zab))))) (zai (zeF T.x_NoStand rfl rfl T.g_NoStand ziB (zaa ziH zab))) zbu)
     (zai (zaB (zaS (zaa (zan (show zaj _ (.type "tuple") (zas K) from zao) rfl T.z_tuple zaG (zaa (pv 1) zab)) (zaa (zan (show zaj _ (.type "tuple") (zas K) from zao) rfl T.z_tuple zaG (zaa (zaU rfl (zaL.by (N':=["delay","web"]) (src:=[none,some 0]) rfl (show zaF _ (zac zbY).names ["web","phases"] ["delay","web"] [none,some 0] = true from by decide +kernel)) (zbd rfl T.z_range (zaa (zdl rfl T.c_MOST_DELAY) zab)) (fun _ _ _ _ _=>(zak (i:=0) (show (["delay","web"] : List Str).Nodup from by decide) rfl (Or.inl rfl))) (fun _ _ _ _ _=>zaY) (fun _ _ _ _ _=>(zag (zdV (K:=K) (mg:=mg) (a:=a) T) (hr.mono (by decide)) rfl T.g_none_coming T.F_none_coming.kp T.b_none_coming .nil zat (zaa (pv 1) zab)))) zab)) zab)))))),?_⟩
 clear hu
 try clear hgd
 try dsimp only [zbp,zbc]
 rw [show start ["web","phases"] [x0,x1] = [some x0,some x1] from rfl]
 obtain ⟨rs,us,ts,d,hw,h8,hd,h⟩:=h
 rcases h with ⟨hn,qe⟩ | ⟨ps,hn,di,q⟩
 . wtm_at "gg"
   refine zbJ hw (fun x ix=>?_)
   wtm_at "gg"
   refine zc5 hd ix h8 (fun H1 S1=>?_)
   rw [hn]
   wtm_at "gg"
   exact ⟨by simp; decide,qe H1 S1⟩
 . wtm_at "gg"
   refine zbJ hw (fun x ix=>?_)
   wtm_at "gg"
   refine zc5 hd ix h8 (fun H1 S1=>?_)
   rw [hn]
   wtm_at "gg"
   refine zg3 (di.is (hd.by S1)) (fun w2 H2 S2 i2=>?_)
   have T2:=S1.trans S2
   wtm_at "gg"
   refine zpH (n:=4) (by decide) (by decide) (o0:=none) (tl:=[some x0]) rfl (fun j y H'=>Is K H' y (TZ (List.replicate rs.length 0))) ?_ ?_
   . intro D i ys o H3 hi inv
     have hi4 : i < 4:=hi
     wtm_at "gg"
     refine zdL ((hw.by T2).by inv.same) h8 (fun v H4 S4 i4=>?_)
     wtm_at "gg"
     exact zbE inv (by omega) (fun _ _ _ _ k z=>z.thruI k) ⟨_,rfl⟩ S4 i4
   . intro D zs H3 hn3 S3 hD hl hr3
     have t3 : IsAll K H3 zs ((zaD rs.length).map TZ):=by
       refine zds (by rw [hl,List.length_map]; simp [zaD]) fun i x hx=>?_
       have hi:=zdO hx
       rw [hl] at hi
       have hi4 : i < 4:=hi
       have:=hr3 i x hx
       rw [List.getD_eq_getElem?_getD,List.getElem?_map,zaD,List.getElem?_replicate,if_pos hi4]
       exact this
     wtm_at "gg"
     refine za5 (zaM.mpr ⟨D,zs,rfl,.of hD,t3⟩) (fun w4 H4 S4 i4=>?_)
     wtm_at "gg"
     refine zaQ (ds:=[TZ ps,TTr (zaD rs.length)]) (by simp) (.cons (i2.by (S3.trans S4)) (.cons i4 .nil)) (fun v5 H5 S5 i5=>?_)
     exact q v5 H5 (T2.trans (S3.trans (S4.trans S5))) i5
def zfB (K : PySem.W.Frag) : Sp:=fun vs H Q _=>∃ x0 x1 x2 x3,vs = [x0,x1,x2,x3] /\ ∃ (u : List Int) (p m : Int),x0 = .int (u.length : Int) /\ Is K H x1 (TZ u) /\ x2 = .int p /\ x3 = .int m /\ 0 <= p /\ 0 <= m /\ m <= 1000 /\ (∀ x ∈ u,0 <= x /\ x <= 60) /\ Q (.int (zbo (u.length : Int) u m.toNat p)) H
theorem zfM {K : PySem.W.Frag} {H : Hp} {Q : VK} {E : XK} {v : V} {u : List Int} {c p m : Int} (hc : c = (u.length : Int)) (h : Is K H v (TZ u)) (hp : 0 <= p) (h0 : 0 <= m) (h1 : m <= 1000) (hu : ∀ x ∈ u,0 <= x /\ x <= 60) (q : Q (.int (zbo c u m.toNat p)) H) : zfB K [.int c,v,.int p,.int m] H Q E:=by
 subst hc
 exact ⟨_,_,_,_,rfl,u,p,m,rfl,h,rfl,rfl,hp,h0,h1,hu,q⟩
set_option maxHeartbeats 4000000 in
theorem zfx (T : Txt K mg a) : zbr P w K mg base CX0 1 a.moved_up a.fd_moved_up ["count","ups","phase","many"] (zfB K):=by
 refine T.F_moved_up.ok zdY (fun vs H Q E h=>by obtain ⟨_,_,_,_,rfl,_⟩:=h; rfl) (fun cdv A outer s H vs Q E hr h=>?_)
 obtain ⟨x0,x1,x2,x3,rfl,h⟩:=h
 have hu:=hr.units
 refine ⟨_,(zae (zcy PassesOwn.never rfl (zbd rfl T.z_range (zaa (pv 3) zab)) (zak (i:=4) zdY.nd rfl (Or.inl rfl)) (zae (zcU (zba zm4 (pv 2) (pv 0) (zbq _)) (zai (zaB (pv 2))) zbu)
     (zai (zrm (i:=2) zdY.nd rfl (Or.inl rfl) (zal zah (pv 1) (pv 2) (fun _ _=>rfl)) zrB))))
     (zai (zaB (pv 2)))),?_⟩
 clear hu
 try clear hgd
 try dsimp only [zbp,zbc]
 rw [show start ["count","ups","phase","many","done"] [x0,x1,x2,x3] = [some x0,some x1,some x2,some x3,none] from rfl]
 obtain ⟨u,p,m,rfl,hu',rfl,rfl,hp,h0,h1,hu,q⟩:=h
 wtm_at "gg"
 refine zcK (n:=m) (by omega) (by omega) (fun i σ H'=>∃ o4,σ = [some (.int (u.length : Int)),some x1,some (.int (zbo (u.length : Int) u i p)),some (.int m),o4] /\ H' = H) ⟨_,rfl,rfl⟩ ?_ ?_
 . rintro i σ H1 hi ⟨o4,rfl,rfl⟩
   have lo:=(zgp (c:=(u.length : Int)) hu i p).1
   wtm_at "gg"
   . rename_i z
     have e : zbo (u.length : Int) u m.toNat p = zbo (u.length : Int) u i p:=by
       rw [show m.toNat = i + (m.toNat - i) by omega,<- zd8,zhu (by omega)]
     rw [e] at q
     exact q
   . rename_i z
     refine zpa rfl ?_
     wtm_at "gg"
     refine zcG hu' (by omega) (by omega) ?_
     refine zqu ?_
     exact ⟨some (.int (i : Int)),by rw [zmd,if_neg (by omega)],rfl⟩
 . rintro σ H1 ⟨o4,rfl,rfl⟩
   wtm_at "gg"
   exact q
def zjy (K : PySem.W.Frag) : Sp:=fun vs H Q _=>∃ x0 x1 x2,vs = [x0,x1,x2] /\ ∃ (rs ps : List Int) (us ts : List (List Int)) (lw lp : Addr) (l : List Nat),Is K H x0 (zbb rs us ts) /\ x1 = .ref lw /\ x2 = .ref lp /\ H lw = some (.lst (vz l)) /\ H lp = some (.lst (ps.map V.int)) /\ ps.length = rs.length /\ (∀ w ∈ l,w < rs.length) /\ l.length <= 8 /\ ∀ v H',zaf H H' -> Is K H' v (TW (l.filter fun w=>decide (rs.getD w 0 <= ps.getD w 0))) -> Q v H'
theorem zjJ {K : PySem.W.Frag} {H : Hp} {Q : VK} {E : XK} {v : V} {rs ps : List Int} {us ts : List (List Int)} {lw lp : Addr} {l : List Nat} (h : Is K H v (zbb rs us ts)) (h1 : H lw = some (.lst (vz l))) (h2 : H lp = some (.lst (ps.map V.int))) (h3 : ps.length = rs.length) (h4 : ∀ w ∈ l,w < rs.length) (h5 : l.length <= 8) (q : ∀ v H',zaf H H' -> Is K H' v (TW (l.filter fun w=>decide (rs.getD w 0 <= ps.getD w 0))) -> Q v H') : zjy K [v,.ref lw,.ref lp] H Q E:=⟨_,_,_,rfl,rs,ps,us,ts,lw,lp,l,h,rfl,rfl,h1,h2,h3,h4,h5,q⟩
theorem zcE {p : Nat -> Bool} {l : List Nat} {i : Nat} (h : i < l.length) : (l.take (i + 1)).filter p = (l.take i).filter p ++ if p l[i] then [l[i]] else []:=by
 rw [zjr h,List.filter_append]
 cases e : p l[i] <;> simp [e]
theorem zkc (a b : List Nat) : vz (a ++ b) = vz a ++ vz b:=List.map_append ..
theorem zif {K : PySem.W.Frag} {H : Hp} {Q : VK} {p : Addr} {ns : List Int} {m : Int} (h : SqL K H p (ns.map V.int)) (h0 : 0 <= m) (h1 : m < ns.length) (q : Q (.int (ns.getD m.toNat 0)) H) : rIx K (.ref p) (.int m) H Q:=by
 obtain ⟨n,rfl⟩ : ∃ n : Nat,m = (n : Int):=⟨m.toNat,by omega⟩
 refine zfd h (zc1 (j:=n) (v:=.int (ns.getD n 0)) ?_) q
 rw [List.getElem?_map,List.getD_eq_getElem?_getD,List.getElem?_eq_getElem (by omega)]
 rfl
set_option maxHeartbeats 4000000 in
theorem zjC (T : Txt K mg a) : zbr P w K mg base CX0 1 a.ended a.fd_ended ["web","worms","phases"] (zjy K):=by
 refine T.F_ended.ok zoc (fun vs H Q E h=>by obtain ⟨_,_,_,rfl,_⟩:=h; rfl) (fun cdv A outer s H vs Q E hr h=>?_)
 obtain ⟨x0,x1,x2,rfl,h⟩:=h
 have hu:=hr.units
 refine ⟨_,(zai (zaB (zan (show zaj _ (.type "tuple") (zas K) from zao) rfl T.z_tuple zaG (zaa (zaU rfl (zaL.by (N':=["worm","phases","web"]) (src:=[none,some 2,some 0]) rfl (show zaF _ (zac zdx).names ["web","worms","phases"] ["worm","phases","web"] [none,some 2,some 0] = true from by decide +kernel)) (zcq (pv 1)) (fun _ _ _ _ _=>(zak (i:=0) (show (["worm","phases","web"] : List Str).Nodup from by decide) rfl (Or.inl rfl))) (fun _ _ _ _ _=>(zd6 (zba zm4 (zal (show IxR _ (rIx K) from zah) (pv 1) (pv 0) (fun _ _=>rfl)) (zal (show IxR _ (rIx K) from zah) (zal (show IxR _ (rIx K) from zah) (pv 2) zad (fun _ _=>rfl)) (pv 0) (fun _ _=>rfl)) (zbq _)))) (fun _ _ _ _ _=>(pv 0))) zab)))),?_⟩
 clear hu
 try clear hgd
 try dsimp only [zbp,zbc]
 rw [show start ["web","worms","phases"] [x0,x1,x2] = [some x0,some x1,some x2] from rfl]
 obtain ⟨rs,ps,us,ts,lw,lp,l,hw,rfl,rfl,ew,ep,hpl,hlt,h8,q⟩:=h
 wtm_at "gg"
 refine zcT (.of ew) (fun D i ys σ' H'=>(∃ o,σ' = [o,some (.ref lp),some x0]) /\ H D = none /\ zaf H H' /\ H' D = some (.lst ys) /\ ys = vz ((l.take i).filter fun w=>decide (rs.getD w 0 <= ps.getD w 0))) (fun D H' n s e=>⟨⟨_,rfl⟩,n,s,e,by simp [vz]⟩) (fun D i ys σ' H' h'=>.of (h'.2.2.1 _ _ ew)) ?_ ?_
 . rintro D i x ys σ' H1 hx ⟨⟨o,rfl⟩,nD,S1,eD,rfl⟩
   obtain ⟨hi,rfl⟩:=zga hx
   have hwl:=hlt _ (List.getElem_mem hi)
   have hz : (vz ((l.take i).filter fun w=>decide (rs.getD w 0 <= ps.getD w 0))).length <= 1000:=by
     have:=List.length_filter_le (fun w=>decide (rs.getD w 0 <= ps.getD w 0)) (l.take i)
     rw [List.length_take] at this
     rw [zck]; omega
   wtm_at "gg"
   refine zif (.of (S1 _ _ ep)) (by omega) (by omega) ?_
   wtm_at "gg"
   refine zbJ (hw.by S1) (fun x2 i2=>?_)
   wtm_at "gg"
   refine zcG i2 (by omega) (by omega) ?_
   rw [Int.toNat_natCast]
   wtm_at "gg"
   . rename_i z
     refine zbA eD hz (fun H6 E6 e6=>⟨⟨_,rfl⟩,nD,S1.grow nD E6,e6,?_⟩)
     rw [zcE hi,decide_eq_true (show rs.getD l[i] 0 <= ps.getD l[i] 0 by omega),zkc]; rfl
   . rename_i z
     refine ⟨_,⟨_,rfl⟩,nD,S1,eD,?_⟩
     rw [zcE hi,decide_eq_false (show ¬ rs.getD l[i] 0 <= ps.getD l[i] 0 by omega)]; simp
 . rintro D ys σ' H1 ⟨_,nD,S1,eD,rfl⟩
   rw [zck,List.take_length] at eD
   wtm_at "gg"
   refine zbN (.of eD) (fun l2 H2 n2 S2 e2=>?_)
   exact q _ H2 (S1.trans S2) (zk6.mpr ⟨l2,rfl,.of e2⟩)
def zcx (ts : List (List Int)) (g : List Nat) : List (List Int):=ts.filter fun t=>decide ((t.getD 0 0).toNat ∈ g)
theorem zdw {p : List Int -> Bool} {l : List (List Int)} {i : Nat} (h : i < l.length) : (l.take (i + 1)).filter p = (l.take i).filter p ++ if p l[i] then [l[i]] else []:=by
 rw [List.take_add_one,List.getElem?_eq_getElem h,List.filter_append]
 cases e : p l[i] <;> simp [e]
def zeI (K : PySem.W.Frag) : Sp:=fun vs H Q _=>∃ x0 x1,vs = [x0,x1] /\ ∃ (rs : List Int) (us ts : List (List Int)) (lw : Addr) (g : List Nat),Is K H x0 (zbb rs us ts) /\ x1 = .ref lw /\ (SqL K H lw (vz g) \/ SqT K H lw (vz g)) /\ zaN rs us ts /\ ∀ l ks H',H l = none -> zaf H H' -> H' l = some (.lst ks) -> IsAll K H' ks ((zcx ts g).map TZ) -> Q (.ref l) H'
theorem zeP {K : PySem.W.Frag} {H : Hp} {Q : VK} {E : XK} {v : V} {rs : List Int} {us ts : List (List Int)} {lw : Addr} {g : List Nat} (h : Is K H v (zbb rs us ts)) (h1 : SqL K H lw (vz g) \/ SqT K H lw (vz g)) (ok : zaN rs us ts) (q : ∀ l ks H',H l = none -> zaf H H' -> H' l = some (.lst ks) -> IsAll K H' ks ((zcx ts g).map TZ) -> Q (.ref l) H') : zeI K [v,.ref lw] H Q E:=⟨_,_,rfl,rs,us,ts,lw,g,h,rfl,h1,ok,q⟩
theorem zoy {K : PySem.W.Frag} {H : Hp} {Q : VK} {p : Addr} {l : List Nat} {w : Nat} (h : SqL K H p (vz l) \/ SqT K H p (vz l)) (q : Q (.bl (decide (w ∈ l))) H) : rIn K false (.int (w : Int)) (.ref p) H Q:=by
 rcases h with h | h
 . exact zoO h q
 . exact zoN h q
theorem zmz {K : PySem.W.Frag} {H : Hp} {Q : VK} {p : Addr} {l : List Nat} {w : Nat} (h : SqL K H p (vz l) \/ SqT K H p (vz l)) (q : Q (.bl (!decide (w ∈ l))) H) : rIn K true (.int (w : Int)) (.ref p) H Q:=by
 rcases h with h | h
 . exact zj9 h q
 . exact zka h q
theorem zoj {K : PySem.W.Frag} {H H' : Hp} {p : Addr} {l : List Nat} (h : SqL K H p (vz l) \/ SqT K H p (vz l)) (s : zaf H H') : SqL K H' p (vz l) \/ SqT K H' p (vz l):=h.imp (fun z=>s.seq z) (fun z=>s.sqT z)
theorem zj5 {K : PySem.W.Frag} {H : Hp} {xs : List V} {ts : List (List Int)} {n i : Nat} {x : V} (t : IsAll K H xs (ts.map TZ)) (ok : ∀ t ∈ ts,zcD n t) (h : xs[i]? = some x) : ∃ (hi : i < ts.length) (a b d : Nat),ts[i] = [(a : Int),(b : Int),(d : Int)] /\ a < n /\ b < n /\ a ≠ b /\ d <= 4 /\ Is K H x (TZ [(a : Int),(b : Int),(d : Int)]):=by
 obtain ⟨hi,ix⟩:=zcC t h
 rw [List.length_map] at hi
 obtain ⟨a,b,d,e,h1,h2,h3,h4⟩:=ok _ (List.getElem_mem hi)
 refine ⟨hi,a,b,d,e,h1,h2,h3,h4,?_⟩
 rw [List.getD_eq_getElem?_getD,List.getElem?_map,List.getElem?_eq_getElem hi,e] at ix
 exact ix
set_option maxHeartbeats 4000000 in
theorem zeH (T : Txt K mg a) : zbr P w K mg base CX0 1 a.ties_from a.fd_ties_from ["web","worms"] (zeI K):=by
 refine T.F_ties_from.ok ziE (fun vs H Q E h=>by obtain ⟨_,_,rfl,_⟩:=h; rfl) (fun cdv A outer s H vs Q E hr h=>?_)
 obtain ⟨x0,x1,rfl,h⟩:=h
 have hu:=hr.units
 refine ⟨_,(zai (zaB (zaU rfl (zaL.by (N':=["tie","worms"]) (src:=[none,some 1]) rfl (show zaF _ (zac zbD).names ["web","worms"] ["tie","worms"] [none,some 1] = true from by decide +kernel)) (zgs (zal zah (pv 0) zad (fun _ _=>rfl))) (fun _ _ _ _ _=>(zak (i:=0) (show (["tie","worms"] : List Str).Nodup from by decide) rfl (Or.inl rfl))) (fun _ _ _ _ _=>(zd6 (zba (show OpR _ (compareOp .In) (rIn K false) from znV) (zal (show IxR _ (rIx K) from zah) (pv 0) zad (fun _ _=>rfl)) (pv 1) (by with_unfolding_all rfl)))) (fun _ _ _ _ _=>(pv 0))))),?_⟩
 clear hu
 try clear hgd
 try dsimp only [zbp,zbc]
 rw [show start ["web","worms"] [x0,x1] = [some x0,some x1] from rfl]
 obtain ⟨rs,us,ts,lw,g,hw,rfl,hg,ok,q⟩:=h
 have tl:=ok.tl
 wtm_at "gg"
 refine zeN hw (fun x2 i2=>?_)
 obtain ⟨at2,xs,rfl,hs2,t2⟩:=zaH.mp i2
 have hxl:=t2.length
 rw [List.length_map] at hxl
 refine zeo hs2 (fun D i ys σ' H'=>(∃ o,σ' = [o,some (.ref lw)]) /\ H D = none /\ zaf H H' /\ H' D = some (.lst ys) /\ IsAll K H' ys (((ts.take i).filter fun t=>decide ((t.getD 0 0).toNat ∈ g)).map TZ)) (fun D H' n s e=>⟨⟨_,rfl⟩,n,s,e,.nil⟩) (fun D i ys σ' H' h'=>h'.2.2.1.sqT hs2) ?_ ?_
 . rintro D i x ys σ' H1 hx ⟨⟨o,rfl⟩,nD,S1,eD,t1⟩
   obtain ⟨hi,ta,tb,td,et,h1,h2,h3,h4,ix⟩:=zj5 t2 ok.t hx
   have hz : ys.length <= 1000:=by
     have:=List.length_filter_le (fun t : List Int=>decide ((t.getD 0 0).toNat ∈ g)) (ts.take i)
     rw [List.length_take] at this
     rw [t1.length,List.length_map]; omega
   have e0 : (([(ta : Int),(tb : Int),(td : Int)] : List Int).getD 0 0).toNat = ta:=by simp
   wtm_at "gg"
   refine zcG (ix.by S1) (by decide) (by simp) ?_
   rw [show ([(ta : Int),(tb : Int),(td : Int)] : List Int).getD (Int.toNat 0) 0 = (ta : Int) from rfl]
   wtm_at "gg"
   refine zoy (zoj hg S1) ?_
   wtm_at "gg"
   . rename_i z
     refine zbA eD hz (fun H6 E6 e6=>⟨⟨_,rfl⟩,nD,S1.grow nD E6,e6,?_⟩)
     have k6:=E6.keep eD
     rw [zdw hi,et,e0,decide_eq_true z,if_pos rfl,List.map_append]
     exact (IsAll.keep k6 _ _ (za3 _) t1).append (.cons ((ix.by S1).thruI k6) .nil)
   . rename_i z
     refine ⟨_,⟨_,rfl⟩,nD,S1,eD,?_⟩
     rw [zdw hi,et,e0,decide_eq_false z,if_neg (by decide),List.append_nil]
     exact t1
 . rintro D ys σ' H1 ⟨_,nD,S1,eD,t1⟩
   rw [hxl,List.take_length] at t1
   wtm_at "gg"
   exact q D ys H1 nD S1 eD t1
def zfL (K : PySem.W.Frag) : Sp:=fun vs H Q _=>∃ x0 x1 x2,vs = [x0,x1,x2] /\ ∃ (lt : Addr) (us : List V) (ts : List (List Int)) (g : List Nat) (n w d : Nat),x0 = .ref lt /\ x1 = .int (w : Int) /\ x2 = .int (d : Int) /\ H lt = some (.lst us) /\ IsAll K H us ((zcx ts g).map TZ) /\ (∀ t ∈ ts,zcD n t) /\ ts.length <= 60 /\ ∀ H',zaf H H' -> Q (.int (zcd ts g w d : Int)) H'
theorem zfP {K : PySem.W.Frag} {H : Hp} {Q : VK} {E : XK} {lt : Addr} {us : List V} {ts : List (List Int)} {g : List Nat} {n w d : Nat} (e : H lt = some (.lst us)) (t : IsAll K H us ((zcx ts g).map TZ)) (ok : ∀ t ∈ ts,zcD n t) (hl : ts.length <= 60) (q : ∀ H',zaf H H' -> Q (.int (zcd ts g w d : Int)) H') : zfL K [.ref lt,.int (w : Int),.int (d : Int)] H Q E:=⟨_,_,_,rfl,lt,us,ts,g,n,w,d,rfl,rfl,rfl,e,t,ok,hl,q⟩
theorem zrv (ts : List (List Int)) (g : List Nat) (w d : Nat) : ((zcx ts g).filter fun t=>decide (t.getD 1 0 = (w : Int)) && decide (t.getD 2 0 = (d : Int))).length = zcd ts g w d:=by
 unfold zcx zcd
 rw [List.filter_filter]
 congr 1
 refine List.filter_congr fun t _=>?_
 unfold zdK
 rw [Bool.and_comm]
set_option maxHeartbeats 4000000 in
theorem zfF (T : Txt K mg a) : zbr P w K mg base CX0 1 a.count_to a.fd_count_to ["ties","worm","delay"] (zfL K):=by
 refine T.F_count_to.ok zjN (fun vs H Q E h=>by obtain ⟨_,_,_,rfl,_⟩:=h; rfl) (fun cdv A outer s H vs Q E hr h=>?_)
 obtain ⟨x0,x1,x2,rfl,h⟩:=h
 have hu:=hr.units
 refine ⟨_,(zai (zaB (zam (show zaj _ (.builtin "len") (zcb K) from zax) rfl T.z_len za8 (zaa (zaU rfl (zaL.by (N':=["tie","worm","delay"]) (src:=[none,some 1,some 2]) rfl (show zaF _ (zac zbX).names ["ties","worm","delay"] ["tie","worm","delay"] [none,some 1,some 2] = true from by decide +kernel)) (zcq (pv 0)) (fun _ _ _ _ _=>(zak (i:=0) (show (["tie","worm","delay"] : List Str).Nodup from by decide) rfl (Or.inl rfl))) (fun _ _ _ _ _=>(zd6 (PW.pt (znl (zba (show OpR _ (compareOp .Eq) (zhh K) from ze8 hu) (zal (show IxR _ (rIx K) from zah) (pv 0) zad (fun _ _=>rfl)) (pv 1) (zbq _)) (zk7 (zba (show OpR _ (compareOp .Eq) (zhh K) from ze8 hu) (zal (show IxR _ (rIx K) from zah) (pv 0) zad (fun _ _=>rfl)) (pv 2) (zbq _))))))) (fun _ _ _ _ _=>(pv 0))) zab)))),?_⟩
 clear hu
 try clear hgd
 try dsimp only [zbp,zbc]
 rw [show start ["ties","worm","delay"] [x0,x1,x2] = [some x0,some x1,some x2] from rfl]
 obtain ⟨lt,us,ts,g,n,w,d,rfl,rfl,rfl,e0,t0,ok,hl,q⟩:=h
 have ok' : ∀ t ∈ zcx ts g,zcD n t:=fun t ht=>ok t (List.mem_filter.mp ht).1
 have hl' : (zcx ts g).length <= 60:=Nat.le_trans (List.length_filter_le ..) hl
 have hul : us.length = (zcx ts g).length:=by rw [t0.length,List.length_map]
 have hc:=zrv ts g w d
 generalize zcx ts g = ks at *
 wtm_at "gg"
 refine zcT (.of e0) (fun D i ys σ' H'=>(∃ o,σ' = [o,some (.int (w : Int)),some (.int (d : Int))]) /\ H D = none /\ zaf H H' /\ H' D = some (.lst ys) /\ ys.length = ((ks.take i).filter fun t=>decide (t.getD 1 0 = (w : Int)) && decide (t.getD 2 0 = (d : Int))).length) (fun D H' n s e=>⟨⟨_,rfl⟩,n,s,e,rfl⟩) (fun D i ys σ' H' h'=>.of (h'.2.2.1 _ _ e0)) ?_ ?_
 . rintro D i x ys σ' H1 hx ⟨⟨o,rfl⟩,nD,S1,eD,t1⟩
   obtain ⟨hi,ta,tb,td,et,h1,h2,h3,h4,ix⟩:=zj5 t0 ok' hx
   have hz : ys.length <= 1000:=by
     have:=List.length_filter_le (fun t : List Int=>decide (t.getD 1 0 = (w : Int)) && decide (t.getD 2 0 = (d : Int))) (ks.take i)
     rw [List.length_take] at this
     omega
   have go : ∀ b : Bool,(decide ((tb : Int) = (w : Int)) && decide ((td : Int) = (d : Int))) = b -> ((ks.take (i + 1)).filter fun t=>decide (t.getD 1 0 = (w : Int)) && decide (t.getD 2 0 = (d : Int))).length = ((ks.take i).filter fun t=>decide (t.getD 1 0 = (w : Int)) && decide (t.getD 2 0 = (d : Int))).length + if b then 1 else 0:=fun b hb=>by
     rw [zdw hi,List.length_append,et]
     show _ + List.length (if (decide ((tb : Int) = (w : Int)) && decide ((td : Int) = (d : Int))) = true then [_] else []) = _
     rw [hb]
     cases b <;> rfl
   wtm_at "gg"
   refine zcG (ix.by S1) (by decide) (by simp) ?_
   rw [show ([(ta : Int),(tb : Int),(td : Int)] : List Int).getD (Int.toNat 1) 0 = (tb : Int) from rfl]
   wtm_at "gg"
   . rename_i z
     refine zcG (ix.by S1) (by decide) (by simp) ?_
     rw [show ([(ta : Int),(tb : Int),(td : Int)] : List Int).getD (Int.toNat 2) 0 = (td : Int) from rfl]
     wtm_at "gg"
     . rename_i z2
       refine zbA eD hz (fun H6 E6 e6=>⟨⟨_,rfl⟩,nD,S1.grow nD E6,e6,?_⟩)
       rw [go true (by rw [decide_eq_true z,decide_eq_true z2]; rfl),List.length_append,t1]; rfl
     . rename_i z2
       refine ⟨_,⟨_,rfl⟩,nD,S1,eD,?_⟩
       rw [go false (by rw [decide_eq_false z2,Bool.and_false]),t1]; rfl
   . rename_i z
     refine ⟨_,⟨_,rfl⟩,nD,S1,eD,?_⟩
     rw [go false (by rw [decide_eq_false z,Bool.false_and]),t1]; rfl
 . rintro D ys σ' H1 ⟨_,nD,S1,eD,t1⟩
   rw [hul,List.take_length,hc] at t1
   wtm_at "gg"
   refine zb8 (.of eD) ?_
   rw [t1]
   exact q H1 S1
def zdr (K : PySem.W.Frag) : Sp:=fun vs H Q _=>∃ x0 x1 x2,vs = [x0,x1,x2] /\ ∃ (rs : List Int) (us ts cm : List (List Int)) (lg : Addr) (g : List Nat),Is K H x0 (zbb rs us ts) /\ zaN rs us ts /\ Is K H x1 (TTr cm) /\ cm.length = 4 /\ (∀ d,d < 4 -> (cm.getD d []).length = rs.length) /\ x2 = .ref lg /\ (SqL K H lg (vz g) \/ SqT K H lg (vz g)) /\ ∀ v H',zaf H H' -> Is K H' v (TTr (zha ts cm g rs.length)) -> Q v H'
theorem zfa {K : PySem.W.Frag} {H : Hp} {Q : VK} {E : XK} {v w : V} {rs : List Int} {us ts cm : List (List Int)} {lg : Addr} {g : List Nat} (h : Is K H v (zbb rs us ts)) (ok : zaN rs us ts) (h2 : Is K H w (TTr cm)) (h3 : cm.length = 4) (h4 : ∀ d,d < 4 -> (cm.getD d []).length = rs.length) (h5 : SqL K H lg (vz g) \/ SqT K H lg (vz g)) (q : ∀ v H',zaf H H' -> Is K H' v (TTr (zha ts cm g rs.length)) -> Q v H') : zdr K [v,w,.ref lg] H Q E:=⟨_,_,_,rfl,rs,us,ts,cm,lg,g,h,ok,h2,h3,h4,rfl,h5,q⟩
def zgy (ts : List (List Int)) (g : List Nat) (row : List Int) (d n : Nat) : List Int:=(List.range n).map fun w=>row.getD w 0 + (zcd ts g w d : Int)
theorem zoF {ts cm : List (List Int)} {g : List Nat} {n : Nat} (h4 : cm.length = 4) : zha ts cm g n = (List.range 4).map fun d=>zgy ts g ((cm.tail ++ [List.replicate n 0]).getD d []) (d + 1) n:=by
 unfold zha zgy
 refine List.map_congr_left fun d hd=>List.map_congr_left fun w hw=>?_
 have hd:=List.mem_range.mp hd
 have hw:=List.mem_range.mp hw
 congr 1
 obtain ⟨c0,cm,rfl⟩ : ∃ c0 r,cm = c0 :: r:=by
   cases cm with
   | nil=>cases h4
   | cons a b=>exact ⟨a,b,rfl⟩
 have h3 : cm.length = 3:=by simpa using h4
 rw [List.tail_cons,List.getD_cons_succ]
 rcases Nat.lt_or_ge d 3 with z | z
 . have e1 : (cm ++ [List.replicate n (0 : Int)]).getD d [] = cm.getD d []:=by rw [List.getD_eq_getElem?_getD,List.getElem?_append_left (by omega),List.getD_eq_getElem?_getD]
   rw [e1]
 . have e : d = 3:=by omega
   subst e
   have e1 : (cm ++ [List.replicate n (0 : Int)]).getD 3 [] = List.replicate n 0:=by rw [List.getD_eq_getElem?_getD,List.getElem?_append_right (by omega),h3]; rfl
   have e2 : cm.getD 3 [] = []:=by rw [List.getD_eq_getElem?_getD,List.getElem?_eq_none (by omega)]; rfl
   rw [e1,e2,List.getD_eq_getElem?_getD,List.getD_eq_getElem?_getD,List.getElem?_replicate,if_pos hw]; rfl
set_option maxHeartbeats 4000000 in
theorem zff (T : Txt K mg a) : zbr P w K mg base CX0 2 a.coming_behind a.fd_coming_behind ["web","coming","glowed"] (zdr K):=by
 refine T.F_coming_behind.ok zbk (fun vs H Q E h=>by obtain ⟨_,_,_,rfl,_⟩:=h; rfl) (fun cdv A outer s H vs Q E hr h=>?_)
 obtain ⟨x0,x1,x2,rfl,h⟩:=h
 have hu:=hr.units
 refine ⟨_,(zae (zap (i:=3) zbk.nd rfl (Or.inr rfl) (zag (zeH T) (hr.mono (by decide)) rfl T.g_ties_from T.F_ties_from.kp T.b_ties_from .nil zat (zaa (pv 0) (zaa (pv 2) zab))))
     (zae (zap (i:=4) zbk.nd rfl (Or.inl rfl) (zbs zab))
     (zae (zcy PassesOwn.never rfl (zm2 rfl T.z_enumerate (zaa (zaq (show OpR _ (binaryOp .Add) (zdE K) from zcr) (zjz zoh (pv 1) (zk3 zad) zk1) (zaS (zaa (zag (zdV T) (hr.mono (by decide)) rfl T.g_none_coming T.F_none_coming.kp T.b_none_coming .nil zat (zaa (pv 0) zab)) zab))) zab)) (zdM (n:=2) rfl (zaZ (zak (i:=5) zbk.nd rfl (Or.inr rfl)) (zaZ (zak (i:=6) zbk.nd rfl (Or.inl rfl)) zcZ))) (zai (zc7 (zeV PySem.F.plainAttrs_list PySem.F.slot_list_append PySem.F.type_list_append zbL (pv 4) (zaa (zan (show zaj _ (.type "tuple") (zas K) from zao) rfl T.z_tuple zaG (zaa (zaU rfl (zaL.by (N':=["worm","many","ties","delay"]) (src:=[none,none,some 3,some 5]) rfl (show zaF _ (zac za6).names ["web","coming","glowed","ties","told","delay","row"] ["worm","many","ties","delay"] [none,none,some 3,some 5] = true from by decide +kernel)) (zjV rfl T.z_enumerate (zaa (pv 6) zab)) (fun _ _ _ _ _=>by exact (show PG _ _ (ziI K 2 _) from zdM (n:=2) rfl (zaZ (zak (i:=0) (show (["worm","many","ties","delay"] : List Str).Nodup from by decide) rfl (Or.inl rfl)) (zaZ (zak (i:=1) (show (["worm","many","ties","delay"] : List Str).Nodup from by decide) rfl (Or.inl rfl)) zcZ)))) (fun _ _ _ _ _=>zaY) (fun _ _ _ _ _=>(zaq zaR (pv 1) (zag (zfF (K:=K) (mg:=mg) (a:=a) T) (hr.mono (by decide)) rfl T.g_count_to T.F_count_to.kp T.b_count_to .nil zat (zaa (pv 2) (zaa (pv 0) (zaa (pv 3) zab))))))) zab)) zab)))))
     (zai (zaB (zan (show zaj _ (.type "tuple") (zas K) from zao) rfl T.z_tuple zaG (zaa (pv 4) zab))))))),?_⟩
 clear hu
 try clear hgd
 try dsimp only [zbp,zbc]
 rw [show start ["web","coming","glowed","ties","told","delay","row"] [x0,x1,x2] = [some x0,some x1,some x2,none,none,none,none] from rfl]
 obtain ⟨rs,us,ts,cm,lg,g,hw,ok,hc,h4,hrow,rfl,hg,q⟩:=h
 have n8:=ok.n8
 wtm_at "gg"
 refine zeP hw hg ok (fun lt ks H1 n1 S1 e1 t1=>?_)
 wtm_at "ga"
 rename_i lo H2 n2 S2 e2
 have nlt : lt ≠ lo:=fun z=>by subst z; rw [e1] at n2; cases n2
 have nlo0 : H lo = none:=zfn S1 n2
 have T2:=S1.trans S2
 refine zlw (hc.by T2) (by rw [List.length_map,h4]; decide) (fun w3 H3 S3 i3=>?_)
 rw [zmo,<- List.map_tail] at i3
 have T3:=T2.trans S3
 wtm_at "gg"
 refine zdL (hw.by T3) n8 (fun w4 H4 S4 i4=>?_)
 have T4:=T3.trans S4
 wtm_at "gg"
 refine zaQ (ds:=[TZ (List.replicate rs.length 0)]) (by simp) (.cons i4 .nil) (fun w5 H5 S5 i5=>?_)
 refine zbS ((i3.by S4).by S5) i5 (by simp; omega) (fun w6 H6 S6 i6=>?_)
 have T6:=T4.trans (S5.trans S6)
 have i6 : Is K H6 w6 (TTr (cm.tail ++ [List.replicate rs.length 0])):=by
   unfold TTr
   rw [List.map_append]
   exact i6
 have S16:=S2.trans (S3.trans (S4.trans (S5.trans S6)))
 have e16:=S16 _ _ e1
 have t16 : IsAll K H6 ks ((zcx ts g).map TZ):=IsAll.same S16 _ _ t1
 have eo6:=(S3.trans (S4.trans (S5.trans S6))) _ _ e2
 have hCl : ∀ d,d < 4 -> ((cm.tail ++ [List.replicate rs.length 0]).getD d []).length = rs.length:=fun d hd=>by
   rcases Nat.lt_or_ge d 3 with z | z
   . have : (cm.tail ++ [List.replicate rs.length 0]).getD d [] = cm.getD (d + 1) []:=by
       rw [List.getD_eq_getElem?_getD,List.getElem?_append_left (by rw [List.length_tail]; omega),List.getElem?_tail,List.getD_eq_getElem?_getD]
     rw [this]
     exact hrow (d + 1) (by omega)
   . have e : d = 3:=by omega
     subst e
     rw [List.getD_eq_getElem?_getD,List.getElem?_append_right (by rw [List.length_tail]; omega),List.length_tail,h4]
     simp
 have hCt : (cm.tail ++ [List.replicate rs.length 0]).length = 4:=by rw [List.length_append,List.length_tail,h4]; rfl
 have hcg:=zoF (ts:=ts) (g:=g) (n:=rs.length) h4
 generalize cm.tail ++ [List.replicate rs.length 0] = C at *
 clear i3 i4 i5 S3 S4 S5 S6 T3 T4 T2 S16 S2 e1 t1 S1
 obtain ⟨ac,cus,rfl,hsc,tc⟩:=zaH.mp i6
 have hcl:=tc.length
 rw [List.length_map,hCt] at hcl
 have hws:=hw.by T6
 wtm_at "gg"
 refine zkv hsc (fun i σ H'=>∃ (o5 o6 : Option V) (rows : List V),σ = [some x0,some x1,some (.ref lg),some (.ref lt),some (.ref lo),o5,o6] /\ (∀ b o,b ≠ lo -> H6 b = some o -> H' b = some o) /\ za7 H6 H' /\ H' lo = some (.lst rows) /\ IsAll K H' rows (((List.range i).map fun d=>zgy ts g (C.getD d []) (d + 1) rs.length).map TZ))
   ⟨_,_,[],rfl,fun b o _ h=>h,za7.refl _,eo6,.nil⟩ (fun i σ H' _ ⟨_,_,_,_,_,k,_⟩=>k.sqT hsc) ?_ ?_
 . rintro i x σ H7 c H8 hx ⟨o5,o6,rows,rfl,X7,K7,e7,t7⟩ hc8 S8 e8
   have hi : i < 4:=by have:=zdO hx; omega
   obtain ⟨hi',ix⟩:=zcC tc hx
   rw [List.getD_eq_getElem?_getD,List.getElem?_map,List.getElem?_eq_getElem (by omega)] at ix
   have hrl:=hCl i hi
   rw [List.getD_eq_getElem?_getD,List.getElem?_eq_getElem (by omega)] at hrl
   have egd : C.getD i [] = C[i]:=by rw [List.getD_eq_getElem?_getD,List.getElem?_eq_getElem (by omega)]; rfl
   rw [show ((i : Int) + 1) = ((i + 1 : Nat) : Int) from rfl] at e8
   have X8 : ∀ b o,b ≠ lo -> H6 b = some o -> H8 b = some o:=fun b o hb h=>S8 b o (X7 b o hb h)
   have K8:=K7.trans S8.keep
   have elt8:=X8 _ _ nlt e16
   have t8 : IsAll K H8 ks ((zcx ts g).map TZ):=IsAll.keep K8 _ _ (za3 _) t16
   have elo8:=S8 _ _ e7
   have tr8 : IsAll K H8 rows (((List.range i).map fun d=>zgy ts g (C.getD d []) (d + 1) rs.length).map TZ):=IsAll.same S8 _ _ t7
   have hrl8 : rows.length = i:=by rw [t7.length,List.length_map,List.length_map,List.length_range]
   have ix8 : Is K H8 x (TZ C[i]):=Is.thruI ix K8
   obtain ⟨ar,rfl,hsr⟩:=zdp.mp ix8
   refine zdu (.of e8) rfl ?_
   wtm_at "gg"
   refine zdC (.of elo8) ?_
   wtm_at "gg"
   have hrl : C[i].length = rs.length:=hrl
   refine zi7 hsr (fun D j ys σ' H'=>(∃ o1 o2,σ' = [o1,o2,some (.ref lt),some (.int ((i + 1 : Nat) : Int))]) /\ H8 D = none /\ zaf H8 H' /\ H' D = some (.lst (((List.range j).map fun w=>C[i].getD w 0 + (zcd ts g w (i + 1) : Int)).map V.int))) (fun D H' n s e=>⟨⟨_,_,rfl⟩,n,s,e⟩) (fun D j ys σ' H' h'=>h'.2.2.1.sqT hsr) ?_ ?_
   . rintro D j y ys σ' H9 c9 H10 hy ⟨⟨o1,o2,rfl⟩,nD,S9,eD⟩ hc9 S10 e10
     obtain ⟨hj,rfl⟩:=int_at hy
     have T10:=S9.trans S10
     refine zcN (zdu (.of e10) rfl ?_)
     wtm_at "gg"
     refine zfP (T10 _ _ elt8) (IsAll.same T10 _ _ t8) ok.t ok.tl (fun H11 S11=>?_)
     wtm_at "gg"
     refine zbA (S11 _ _ (S10 _ _ eD)) (by simp; omega) (fun H12 E12 e12=>⟨⟨_,_,rfl⟩,nD,(T10.trans S11).grow nD E12,?_⟩)
     rw [e12,List.range_succ,List.map_append,List.map_append]
     rfl
   . rintro D ys σ' H9 ⟨_,nD,S9,eD⟩
     rw [List.length_map,hrl] at eD
     wtm_at "gg"
     refine zbN (.of eD) (fun l10 H10 n10 S10 e10=>?_)
     have elo10:=S10 _ _ (S9 _ _ elo8)
     wtm_at "gg"
     refine zb0 elo10 (by omega) (fun H11 E11 e11=>?_)
     have K11:=E11.keep elo10
     have K811:=S9.keep.trans (S10.keep.trans K11)
     wtm_at "gg"
     refine ⟨_,_,rows ++ [.ref l10],rfl,fun b o hb h=>E11 b o hb (S10 b o (S9 b o (X8 b o hb h))),K8.trans K811,e11,?_⟩
     rw [List.range_succ,List.map_append,List.map_append]
     refine (IsAll.keep K811 _ _ (za3 _) tr8).append (.cons ?_ .nil)
     show Is K H11 (.ref l10) (TZ (zgy ts g (C.getD i []) (i + 1) rs.length))
     rw [egd]
     exact Is.thruI (zdp.mpr ⟨l10,rfl,.of e10⟩) K11
 . rintro σ H7 ⟨o5,o6,rows,rfl,X7,K7,e7,t7⟩
   rw [hcl,<- hcg] at t7
   wtm_at "gg"
   refine za5 (zaM.mpr ⟨lo,rows,rfl,.of e7,t7⟩) (fun w8 H8 S8 i8=>?_)
   exact q w8 H8 (fun b o h=>S8 b o (X7 b o (zaz h nlo0) (T6 b o h))) i8
def zcH (rs : List Int) (us : List (List Int)) (ps cs : List Int) (n : Nat) : List Int:=(List.range n).map fun w=>zbo (rs.getD w 0) (us.getD w []) (cs.getD w 0).toNat (ps.getD w 0 + 1)
def zcO (K : PySem.W.Frag) : Sp:=fun vs H Q _=>∃ x0 x1,vs = [x0,x1] /\ ∃ (rs ps : List Int) (us ts cm : List (List Int)),Is K H x0 (zbb rs us ts) /\ zaN rs us ts /\ Is K H x1 (StD ps cm) /\ zdq rs ps cm /\ ∀ l H',H l = none -> zaf H H' -> H' l = some (.lst ((zcH rs us ps (cm.getD 0 []) rs.length).map V.int)) -> Q (.ref l) H'
theorem zes {K : PySem.W.Frag} {H : Hp} {Q : VK} {E : XK} {v w : V} {rs ps : List Int} {us ts cm : List (List Int)} (h : Is K H v (zbb rs us ts)) (ok : zaN rs us ts) (h2 : Is K H w (StD ps cm)) (so : zdq rs ps cm) (q : ∀ l H',H l = none -> zaf H H' -> H' l = some (.lst ((zcH rs us ps (cm.getD 0 []) rs.length).map V.int)) -> Q (.ref l) H') : zcO K [v,w] H Q E:=⟨_,_,rfl,rs,ps,us,ts,cm,h,ok,h2,so,q⟩
set_option maxHeartbeats 4000000 in
theorem zeA (T : Txt K mg a) : zbr P w K mg base CX0 2 a.phases_at_first a.fd_phases_at_first ["web","stand"] (zcO K):=by
 refine T.F_phases_at_first.ok zbv (fun vs H Q E h=>by obtain ⟨_,_,rfl,_⟩:=h; rfl) (fun cdv A outer s H vs Q E hr h=>?_)
 obtain ⟨x0,x1,rfl,h⟩:=h
 have hu:=hr.units
 refine ⟨_,(zae (zap (i:=2) zbv.nd rfl (Or.inl rfl) (zbs zab))
     (zae (zcy PassesOwn.never rfl (zjV rfl T.z_enumerate (zaa (zal zah (zal zah (pv 1) zad (fun _ _=>rfl)) zad (fun _ _=>rfl)) zab)) (zdM (n:=2) rfl (zaZ (zak (i:=3) zbv.nd rfl (Or.inl rfl)) (zaZ (zak (i:=4) zbv.nd rfl (Or.inl rfl)) zcZ))) (zai (zc7 (zeV PySem.F.plainAttrs_list PySem.F.slot_list_append PySem.F.type_list_append zbL (pv 2) (zaa (zag (zfx T) (hr.mono (by decide)) rfl T.g_moved_up T.F_moved_up.kp T.b_moved_up .nil zat (zaa (zal zah (zal zah (pv 0) zad (fun _ _=>rfl)) (pv 3) (fun _ _=>rfl)) (zaa (zal zah (zal zah (pv 0) zad (fun _ _=>rfl)) (pv 3) (fun _ _=>rfl)) (zaa (zaq zaR (zal zah (zal zah (pv 1) zad (fun _ _=>rfl)) (pv 3) (fun _ _=>rfl)) zad) (zaa (pv 4) zab))))) zab)))))
     (zai (zaB (pv 2))))),?_⟩
 clear hu
 try clear hgd
 try dsimp only [zbp,zbc]
 rw [show start ["web","stand","told","worm","many"] [x0,x1] = [some x0,some x1,none,none,none] from rfl]
 obtain ⟨rs,ps,us,ts,cm,hw,ok,hs,so,q⟩:=h
 have n8:=ok.n8
 wtm_at "ga"
 rename_i lo H1 n1 S1 e1
 refine ziQ (hs.by S1) (fun x2 i2=>?_)
 wtm_at "gg"
 refine zgg i2 (by decide) (by rw [so.cl]; decide) (fun x3 i3=>?_)
 obtain ⟨hcl,hcb⟩:=so.c 0 (by decide)
 have i3 : Is K H1 x3 (TZ (cm.getD 0 [])):=i3
 generalize cm.getD 0 [] = cs at *
 obtain ⟨ac,rfl,hsc⟩:=zdp.mp i3
 have hw1:=hw.by S1
 have hs1:=hs.by S1
 refine zlU hsc (fun i σ H'=>∃ (o3 o4 : Option V),σ = [some x0,some x1,some (.ref lo),o3,o4] /\ zaf H H' /\ H' lo = some (.lst ((zcH rs us ps cs i).map V.int)) /\ Is K H' x0 (zbb rs us ts) /\ Is K H' x1 (StD ps cm) /\ SqT K H' ac (cs.map V.int))
   ⟨_,_,rfl,S1,e1,hw1,hs1,hsc⟩ (fun i σ H' _ ⟨_,_,_,_,_,_,_,h⟩=>h) ?_ ?_
 . rintro i x σ H2 c H3 hx ⟨o3,o4,rfl,S2,e2,hw2,hs2,hsc2⟩ hc3 S3 e3
   obtain ⟨hi,rfl⟩:=int_at hx
   have hi' : i < rs.length:=by omega
   have hcr:=hcb i hi'
   have hps:=so.p i hi'
   obtain ⟨hul,hub⟩:=ok.u i hi'
   refine zdu (.of e3) rfl ?_
   wtm_at "gg"
   refine zdC (.of (S3 _ _ e2)) ?_
   wtm_at "gg"
   refine zbJ (hw2.by S3) (fun x4 i4=>?_)
   wtm_at "gg"
   refine zcG i4 (by omega) (by omega) ?_
   rw [Int.toNat_natCast]
   wtm_at "gg"
   refine zec (hw2.by S3) (fun x5 i5=>?_)
   wtm_at "gg"
   refine zgg i5 (by omega) (by rw [ok.ul]; omega) (fun x6 i6=>?_)
   rw [Int.toNat_natCast] at i6
   wtm_at "gg"
   refine zgU (hs2.by S3) (fun x7 i7=>?_)
   wtm_at "gg"
   refine zcG i7 (by omega) (by rw [so.pl]; omega) ?_
   rw [Int.toNat_natCast]
   wtm_at "gg"
   refine zfM hul.symm i6 (by omega) hcr.1 (by omega) hub ?_
   wtm_at "gg"
   have e2':=S3 _ _ e2
   refine zb0 e2' (by simp [zcH]; omega) (fun H4 E4 e4=>?_)
   have k4:=E4.keep e2'
   wtm_at "gg"
   refine ⟨_,_,rfl,fun b o h=>E4 b o (zaz h n1) (S3 b o (S2 b o h)),?_,(hw2.by S3).thruW k4,(hs2.by S3).thruS k4,k4.sqT (S3.sqT hsc2)⟩
   rw [e4]
   unfold zcH
   rw [List.range_succ,List.map_append,List.map_append]
   rfl
 . rintro σ H2 ⟨o3,o4,rfl,S2,e2,hw2,hs2,hsc2⟩
   rw [List.length_map,hcl] at e2
   wtm_at "gg"
   exact q lo H2 n1 S2 e2
def zk8 (K : PySem.W.Frag) : Sp:=fun vs H Q _=>∃ x0 x1,vs = [x0,x1] /\ ∃ (rs ps : List Int) (us ts cm : List (List Int)),Is K H x0 (zbb rs us ts) /\ zaN rs us ts /\ Is K H x1 (StD ps cm) /\ zdq rs ps cm /\ ∀ v H',zaf H H' -> Is K H' v (zlp (zdf rs us ts ps cm) (zcA rs us ts ps cm) (zeD rs us ts ps cm)) -> Q v H'
theorem zlu {K : PySem.W.Frag} {H : Hp} {Q : VK} {E : XK} {v w : V} {rs ps : List Int} {us ts cm : List (List Int)} (h : Is K H v (zbb rs us ts)) (ok : zaN rs us ts) (h2 : Is K H w (StD ps cm)) (so : zdq rs ps cm) (q : ∀ v H',zaf H H' -> Is K H' v (zlp (zdf rs us ts ps cm) (zcA rs us ts ps cm) (zeD rs us ts ps cm)) -> Q v H') : zk8 K [v,w] H Q E:=⟨_,_,rfl,rs,ps,us,ts,cm,h,ok,h2,so,q⟩
def zbO (n : Nat) (g : List Nat) : List Nat:=(List.range n).filter fun w=>!decide (w ∈ g)
theorem zcL {n w : Nat} {g : List Nat} : w ∈ zbO n g ↔ w < n /\ w ∉ g:=by
 unfold zbO
 rw [List.mem_filter,List.mem_range,Bool.not_eq_true',decide_eq_false_iff_not]
theorem zhV (n : Nat) (g : List Nat) : (zbO n g).length <= n:=by
 have:=List.length_filter_le (fun w=>!decide (w ∈ g)) (List.range n)
 rw [List.length_range] at this
 exact this
theorem zl1 (n : Nat) (g f : List Nat) : (zbO n g).filter (fun w=>!decide (w ∈ f)) = zbO n (g ++ f):=by
 unfold zbO
 rw [List.filter_filter]
 refine List.filter_congr fun w _=>?_
 rw [Bool.eq_iff_iff,Bool.and_eq_true,Bool.not_eq_true',Bool.not_eq_true',Bool.not_eq_true',decide_eq_false_iff_not,decide_eq_false_iff_not,decide_eq_false_iff_not,List.mem_append]
 constructor
 . rintro ⟨h1,h2⟩ (z | z)
   . exact h2 z
   . exact h1 z
 . intro h; exact ⟨fun z=>h (.inr z),fun z=>h (.inl z)⟩
theorem zgn {rs : List Int} {us ts : List (List Int)} {ps cs pw : List Int} {g : List Nat} (h : ∀ w,w < rs.length -> w ∉ g -> pw.getD w 0 = phG rs us ts ps cs g w) : (zbO rs.length g).filter (fun w=>decide (rs.getD w 0 <= pw.getD w 0)) = GM.fresh rs us ts ps cs g:=by
 unfold zbO GM.fresh
 rw [List.filter_filter]
 refine List.filter_congr fun w hw=>?_
 have hw:=List.mem_range.mp hw
 by_cases hg : w ∈ g
 . rw [decide_eq_true hg]; simp
 . rw [h w hw hg,Bool.and_comm]
theorem znL (ts : List (List Int)) (w d : Nat) : zcd ts [] w d = 0:=by
 unfold zcd zdK
 simp
theorem zgz {K : PySem.W.Frag} {src : List (Option Nat)} {σ : L2.St} {H : Hp} {Q : VK} {la b : Addr} {l m : List Nat} (hl : H la = some (.lst (vz l))) (hm : SqL K H b (vz m) \/ SqT K H b (vz m)) (hsrc : zaO src σ = [none,some (.ref b)]) (z : l.length <= 1000)
   (q : ∀ D H',H D = none -> zaf H H' -> H' D = some (.lst (vz (l.filter fun w=>!decide (w ∈ m)))) -> Q (.ref D) H') : zgt K (zeE 0) (zm8 (tOp (rIn K true) (ziD 0) (ziD 1))) (ziD 0) src σ (.ref la) H Q:=by
 refine zcT (.of hl) (fun D i ys σ' H'=>(∃ o,σ' = [o,some (.ref b)]) /\ H D = none /\ zaf H H' /\ H' D = some (.lst ys) /\ ys = vz ((l.take i).filter fun w=>!decide (w ∈ m))) (fun D H' n s e=>⟨⟨_,hsrc⟩,n,s,e,by simp [vz]⟩) (fun D i ys σ' H' h'=>.of (h'.2.2.1 _ _ hl)) ?_ ?_
 . rintro D i x ys σ' H1 hx ⟨⟨o,rfl⟩,nD,S1,eD,rfl⟩
   obtain ⟨hi,rfl⟩:=zga hx
   have hz : (vz ((l.take i).filter fun w=>!decide (w ∈ m))).length <= 1000:=by
     have:=List.length_filter_le (fun w=>!decide (w ∈ m)) (l.take i)
     rw [List.length_take] at this
     rw [zck]; omega
   refine zcN (zgh (zk2 (zpV (zg4 rfl (zg4 rfl (zmz (zoj hm S1) (zog ?_)))))))
   cases e : decide (l[i] ∈ m) with
   | false =>
     refine zma (zg4 rfl (zbA eD hz (fun H6 E6 e6=>⟨⟨_,rfl⟩,nD,S1.grow nD E6,e6,?_⟩)))
     rw [zcE hi,e,zkc]; rfl
   | true =>
     refine zpz ⟨_,⟨_,rfl⟩,nD,S1,eD,?_⟩
     rw [zcE hi,e]; simp
 . rintro D ys σ' H1 ⟨_,nD,S1,eD,rfl⟩
   rw [zck,List.take_length] at eD
   exact q D H1 nD S1 eD
theorem zoM {rs : List Int} {us ts : List (List Int)} {ps cs : List Int} {g f : List Nat} (h : ∀ x ∈ f,x ∉ g) (w : Nat) : zbo (rs.getD w 0) (us.getD w []) (zcd ts f w 0) (phG rs us ts ps cs g w) = phG rs us ts ps cs (g ++ f) w:=by
 unfold phG
 rw [zd8,ziV h,Nat.add_assoc]
theorem zm7 {xs : List Int} {i j : Nat} {x : Int} (hi : i < xs.length) : (xs.set i x).getD j 0 = if i = j then x else xs.getD j 0:=by
 rw [List.getD_eq_getElem?_getD,List.getElem?_set]
 split
 . rename_i e
   subst e
   first | rfl | (rw [if_pos hi]; rfl)
 . rw [List.getD_eq_getElem?_getD]
theorem map_set {xs : List Int} {i : Nat} {x : Int} : (xs.map V.int).set i (.int x) = (xs.set i x).map V.int:=by rw [List.map_set]
set_option maxHeartbeats 4000000 in
theorem zlG (T : Txt K mg a) : zbr P w K mg base CX0 3 a.tick a.fd_tick ["web","stand"] (zk8 K):=by
 refine T.F_tick.ok zbU (fun vs H Q E h=>by obtain ⟨_,_,rfl,_⟩:=h; rfl) (fun cdv A outer s H vs Q E hr h=>?_)
 obtain ⟨x0,x1,rfl,h⟩:=h
 have hu:=hr.units
 refine ⟨_,(zae (zap (i:=2) zbU.nd rfl (Or.inr rfl) (zag (zeA T) (hr.mono (by decide)) rfl T.g_phases_at_first T.F_phases_at_first.kp T.b_phases_at_first .nil zat (zaa (pv 0) (zaa (pv 1) zab))))
     (zae (zap (i:=3) zbU.nd rfl (Or.inl rfl) (zio rfl rfl T.z_list rfl T.z_range (zaa (zam (show zaj _ (.builtin "len") (zcb K) from zax) rfl T.z_len za8 (zaa (pv 2) zab)) zab)))
     (zae (zap (i:=4) zbU.nd rfl (Or.inr rfl) (pv 3))
     (zae (zap (i:=5) zbU.nd rfl (Or.inl rfl) (zbs zab))
     (zae (zap (i:=6) zbU.nd rfl (Or.inr rfl) (zag (zjC T) (hr.mono (by decide)) rfl T.g_ended T.F_ended.kp T.b_ended .nil zat (zaa (pv 0) (zaa (pv 4) (zaa (pv 2) zab)))))
     (zae (zne PassesOwn.never (znk (pv 6)) (zae (zc7 (zeV PySem.F.plainAttrs_list PySem.F.slot_list_append PySem.F.type_list_append zbL (pv 5) (zaa (pv 6) zab)))
     (zae (zap (i:=4) zbU.nd rfl (Or.inr rfl) (zaU rfl (zaL.by (N':=["worm","wave"]) (src:=[none,some 6]) rfl (show zaF _ (zac zdy).names ["web","stand","phases","worms","left","waves","wave","ties","worm","anew","glowed"] ["worm","wave"] [none,some 6] = true from by decide +kernel)) (zcq (pv 4)) (fun _ _ _ _ _=>(zak (i:=0) (show (["worm","wave"] : List Str).Nodup from by decide) rfl (Or.inl rfl))) (fun _ _ _ _ _=>(zd6 (zba (show OpR _ (compareOp .NotIn) (rIn K true) from zh4) (pv 0) (pv 1) (by with_unfolding_all rfl)))) (fun _ _ _ _ _=>(pv 0))))
     (zae (zap (i:=7) zbU.nd rfl (Or.inl rfl) (zag (zeH T) (hr.mono (by decide)) rfl T.g_ties_from T.F_ties_from.kp T.b_ties_from .nil zat (zaa (pv 0) (zaa (pv 6) zab))))
     (zae (zcy PassesOwn.never rfl (zcq (pv 4)) (zak (i:=8) zbU.nd rfl (Or.inl rfl)) (zai (zkW (zag (zfx T) (hr.mono (by decide)) rfl T.g_moved_up T.F_moved_up.kp T.b_moved_up .nil zat (zaa (zal zah (zal zah (pv 0) zad (fun _ _=>rfl)) (pv 8) (fun _ _=>rfl)) (zaa (zal zah (zal zah (pv 0) zad (fun _ _=>rfl)) (pv 8) (fun _ _=>rfl)) (zaa (zal zah (pv 2) (pv 8) (fun _ _=>rfl)) (zaa (zag (zfF T) (hr.mono (by decide)) rfl T.g_count_to T.F_count_to.kp T.b_count_to .nil zat (zaa (pv 7) (zaa (pv 8) (zaa zad zab)))) zab))))) (zkx (pv 2) (pv 8) zgX))))
     (zai (zap (i:=6) zbU.nd rfl (Or.inr rfl) (zag (zjC T) (hr.mono (by decide)) rfl T.g_ended T.F_ended.kp T.b_ended .nil zat (zaa (pv 0) (zaa (pv 4) (zaa (pv 2) zab)))))))))))
     (zae (zap (i:=9) zbU.nd rfl (Or.inl rfl) (zan (show zaj _ (.type "tuple") (zas K) from zao) rfl T.z_tuple zaG (zaa (zaU rfl (zaL.by (N':=["worm","left","phases"]) (src:=[none,some 4,some 2]) rfl (show zaF _ (zac zdy).names ["web","stand","phases","worms","left","waves","wave","ties","worm","anew","glowed"] ["worm","left","phases"] [none,some 4,some 2] = true from by decide +kernel)) (zcq (pv 3)) (fun _ _ _ _ _=>(zak (i:=0) (show (["worm","left","phases"] : List Str).Nodup from by decide) rfl (Or.inl rfl))) (fun _ _ _ _ _=>zaY) (fun _ _ _ _ _=>(znM (zba (show OpR _ (compareOp .In) (rIn K false) from znV) (pv 0) (pv 1) (by with_unfolding_all rfl)) (zal (show IxR _ (rIx K) from zah) (pv 2) (pv 0) (fun _ _=>rfl)) zad))) zab)))
     (zae (zcP (i:=10) zbU.nd rfl (Or.inl rfl) rfl (zaL.by (N':=["worm","left"]) (src:=[none,some 4]) rfl (show zaF _ (zac zdy).names ["web","stand","phases","worms","left","waves","wave","ties","worm","anew","glowed"] ["worm","left"] [none,some 4] = true from by decide +kernel)) (zcq (pv 3)) (fun _ _ _ _ _=>(zak (i:=0) (show (["worm","left"] : List Str).Nodup from by decide) rfl (Or.inl rfl))) (fun _ _ _ _ _=>(zd6 (zba (show OpR _ (compareOp .NotIn) (rIn K true) from zh4) (pv 0) (pv 1) (by with_unfolding_all rfl)))) (fun _ _ _ _ _=>(pv 0)))
     (zai (zaB (zaS (zaa (zan (show zaj _ (.type "tuple") (zas K) from zao) rfl T.z_tuple zaG (zaa (pv 5) zab)) (zaa (zaS (zaa (pv 9) (zaa (zag (zff T) (hr.mono (by decide)) rfl T.g_coming_behind T.F_coming_behind.kp T.b_coming_behind .nil zat (zaa (pv 0) (zaa (zal zah (pv 1) zad (fun _ _=>rfl)) (zaa (pv 10) zab)))) zab))) zab))))))))))))),?_⟩
 clear hu
 try clear hgd
 try dsimp only [zbp,zbc]
 rw [show start ["web","stand","phases","worms","left","waves","wave","ties","worm","anew","glowed"] [x0,x1] = [some x0,some x1,none,none,none,none,none,none,none,none,none] from rfl]
 obtain ⟨rs,ps,us,ts,cm,hw,ok,hs,so,q⟩:=h
 have n8:=ok.n8
 have n1:=ok.n1
 wtm_at "gg"
 refine zes hw ok hs so (fun lp H1 np S1 ep=>?_)
 have hpl : (zcH rs us ps (cm.getD 0 []) rs.length).length = rs.length:=by simp [zcH]
 wtm_at "gg"
 refine zb8 (.of ep) ?_
 rw [List.length_map,hpl]
 wtm_at "gg"
 refine zmJ (by omega) (fun lw H2 nw S2 ew=>?_)
 wtm_at "ga"
 rename_i la H3 na S3 ea
 have T3:=S1.trans (S2.trans S3)
 have ep3:=S3 _ _ (S2 _ _ ep)
 have ew3:=S3 _ _ ew
 have nlwp : lw ≠ lp:=fun z=>by subst z; rw [ep] at nw; cases nw
 have nlap : la ≠ lp:=fun z=>by subst z; rw [S2 _ _ ep] at na; cases na
 have nlaw : la ≠ lw:=fun z=>by subst z; rw [ew] at na; cases na
 have np0 : H lp = none:=np
 have na0 : H la = none:=zfn (S1.trans S2) na
 have w3:=hw.by T3
 have s3:=hs.by T3
 clear S2 S3 ew nw na
 have hf0 : ∀ w,w < rs.length -> w ∉ ([] : List Nat) -> (zcH rs us ps (cm.getD 0 []) rs.length).getD w 0 = phG rs us ts ps (cm.getD 0 []) [] w:=fun w hw _=>by
   unfold zcH phG
   rw [zb9 hw,znL,Nat.add_zero]
 have hsl:=so.c 0 (by decide)
 have e0 : zbO rs.length [] = List.range rs.length:=by
   unfold zbO
   rw [List.filter_eq_self]
   intro w _; rfl
 refine zjJ w3 ew3 ep3 hpl (fun w hw=>List.mem_range.mp hw) (by simpa using n8) (fun vw H4 S4 iw=>?_)
 rw [<- e0,zgn hf0] at iw
 rw [<- e0] at ew3
 wtm_at "gg"
 refine zmf (fun f σ H'=>∃ (o7 o8 : Option V) (g : List Nat) (acc : List (List Nat)) (pw : List Int) (ll : Addr) (vw : V) (av : List V),σ = [some x0,some x1,some (.ref lp),some (.ref lw),some (.ref ll),some (.ref la),some vw,o7,o8,none,none] /\ Run rs us ts ps (cm.getD 0 []) f g acc /\ zaf H H' /\ H' lp = some (.lst (pw.map V.int)) /\ pw.length = rs.length /\ (∀ w,w < rs.length -> w ∉ g -> pw.getD w 0 = phG rs us ts ps (cm.getD 0 []) g w) /\ H' lw = some (.lst (vz (List.range rs.length))) /\ H' ll = some (.lst (vz (zbO rs.length g))) /\ ll ≠ lp /\ ll ≠ la /\ H' la = some (.lst av) /\ IsAll K H' av (acc.map TW) /\ Is K H' vw (TW (GM.fresh rs us ts ps (cm.getD 0 []) g)) /\ acc.length + f <= 9)
   9 ⟨_,_,[],[],_,lw,vw,[],rfl,Run.start n8,T3.trans S4,S4 _ _ ep3,hpl,hf0,by rw [<- e0]; exact S4 _ _ ew3,S4 _ _ ew3,nlwp,Ne.symm nlaw,S4 _ _ ea,.nil,iw,by decide⟩ ?_
 clear S4 iw ep3 ew3 ea w3 s3 T3 hf0 hpl vw
 rintro f σ H5 ⟨o7,o8,g,acc,pw,ll,vw,av,rfl,R5,S5,ep5,hpl,hph,ew5,el5,nlp,nla,ea5,ta5,iw5,hf9⟩
 have hal : av.length = acc.length:=by rw [ta5.length,List.length_map]
 have w5:=hw.by S5
 have s5:=hs.by S5
 wtm_at "gg"
 refine zkZ (show Is K H5 vw (.tuple _) from iw5) ?_
 by_cases hfr : GM.fresh rs us ts ps (cm.getD 0 []) g = []
 . obtain ⟨hacc,hg⟩:=R5.stop hfr
   rw [hfr,show (!(List.map PyData.int (List.map (fun (w : Nat)=>(w : Int)) ([] : List Nat))).isEmpty) = false from rfl]
   wtm_at "gg"
   refine zeR (.of ew5) (o0:=none) (tl:=[some (.ref ll),some (.ref lp)]) rfl (fun j y H'=>y = .int (if j ∈ g then 0 else pw.getD j 0)) ?_ ?_
   . intro D i x ys o H6 hx inv
     obtain ⟨hi,rfl⟩:=zga hx
     rw [List.length_range] at hi
     rw [List.getElem_range]
     have S6:=inv.same
     wtm_at "gg"
     refine zoy (.inl (.of (S6 _ _ el5))) ?_
     wtm_at "gg"
     . rename_i z
       have z:=(zcL.mp z).2
       refine zif (.of (S6 _ _ ep5)) (by omega) (by omega) ?_
       exact zbE inv (by omega) (fun _ _ _ _ _ z=>z) ⟨_,rfl⟩ (zaf.refl _) (by rw [if_neg z]; rfl)
     . rename_i z
       have z : i ∈ g:=Decidable.of_not_not fun zz=>z (zcL.mpr ⟨hi,zz⟩)
       exact zbE inv (by omega) (fun _ _ _ _ _ z=>z) ⟨_,rfl⟩ (zaf.refl _) (by rw [if_pos z])
   . intro D zs H6 n6 S6 e6 hl6 hr6
     have hzs : zs = (zcA rs us ts ps cm).map V.int:=by
       refine zi2 (by rw [hl6,zck,List.length_range]; simp [zcA]) fun j y hy=>?_
       have hj:=zdO hy
       rw [hl6,zck,List.length_range] at hj
       rw [hr6 j y hy]
       unfold zcA
       rw [zb9 hj,show zcX rs us ts ps cm = g from hg.symm]
       split
       . rfl
       . rename_i z; rw [hph j hj z]
     subst hzs
     wtm_at "gg"
     refine zbN (.of e6) (fun l7 H7 n7 S7 e7=>?_)
     have S57:=S6.trans S7
     wtm_at "gg"
     refine zgz (S57 _ _ ew5) (.inl (.of (S57 _ _ el5))) rfl (by simpa using Nat.le_trans n8 (by decide)) (fun lg H8 n8' S8 e8=>?_)
     have S58:=S57.trans S8
     wtm_at "gg"
     refine za5 (zaM.mpr ⟨la,av,rfl,.of (S58 _ _ ea5),IsAll.same S58 _ _ ta5⟩) (fun v9 H9 S9 i9=>?_)
     have S59:=S58.trans S9
     wtm_at "gg"
     refine ziQ (s5.by S59) (fun v10 i10=>?_)
     wtm_at "gg"
     refine zfa (w5.by S59) ok i10 so.cl (fun d hd=>(so.c d hd).1) (.inl (.of (S9 _ _ e8))) (fun v11 H11 S11 i11=>?_)
     have hmem : ∀ x,x < rs.length -> (x ∈ (List.range rs.length).filter (fun w=>!decide (w ∈ zbO rs.length g)) ↔ x ∈ g):=fun x hx=>by
       rw [List.mem_filter,List.mem_range,Bool.not_eq_true',decide_eq_false_iff_not,zcL]
       constructor
       . rintro ⟨_,h⟩
         exact Decidable.of_not_not fun z=>h ⟨hx,z⟩
       . intro h; exact ⟨hx,fun z=>z.2 h⟩
     have ecm : zha ts cm ((List.range rs.length).filter fun w=>!decide (w ∈ zbO rs.length g)) rs.length = zeD rs us ts ps cm:=by
       unfold zeD zha
       refine List.map_congr_left fun d _=>List.map_congr_left fun w _=>?_
       rw [show zcX rs us ts ps cm = g from hg.symm,zj0 ok.t hmem]
     rw [ecm] at i11
     wtm_at "gg"
     have i7 : Is K H11 (.ref l7) (TZ (zcA rs us ts ps cm)):=zdp.mpr ⟨l7,rfl,.of ((S8.trans (S9.trans S11)) _ _ e7)⟩
     refine zaQ (ds:=[TZ (zcA rs us ts ps cm),TTr (zeD rs us ts ps cm)]) (by simp) (.cons i7 (.cons i11 .nil)) (fun v12 H12 S12 i12=>?_)
     wtm_at "gg"
     have i9' : Is K H12 v9 (TWs (zdf rs us ts ps cm)):=by
       rw [hacc] at i9
       exact (i9.by S11).by S12
     refine zaQ (ds:=[TWs (zdf rs us ts ps cm),StD (zcA rs us ts ps cm) (zeD rs us ts ps cm)]) (by simp) (.cons i9' (.cons i12 .nil)) (fun v13 H13 S13 i13=>?_)
     exact q v13 H13 (S5.trans (S59.trans (S11.trans (S12.trans S13)))) i13
 . have hne : (!(List.map PyData.int (List.map (fun (w : Nat)=>(w : Int)) (GM.fresh rs us ts ps (cm.getD 0 []) g))).isEmpty) = true:=by
     cases e : GM.fresh rs us ts ps (cm.getD 0 []) g with
     | nil=>exact absurd e hfr
     | cons a b=>rfl
   rw [hne]
   obtain ⟨f',rfl,R6⟩:=R5.step hfr
   have hdis : ∀ x ∈ GM.fresh rs us ts ps (cm.getD 0 []) g,x ∉ g:=fun x hx=>(zdU hx).2
   generalize GM.fresh rs us ts ps (cm.getD 0 []) g = fr at *
   refine zma (zn0 ?_)
   wtm_at "gg"
   refine zdC (.of ea5) ?_
   wtm_at "gg"
   refine zb0 ea5 (by omega) (fun H6 E6 e6=>?_)
   have k6:=E6.keep ea5
   have S6 : zaf H H6:=fun b o h=>E6 b o (zaz h na0) (S5 b o h)
   have ep6:=E6.at (Ne.symm nlap) ep5
   have ew6:=E6.at (Ne.symm nlaw) ew5
   have el6:=E6.at nla el5
   have iw6 : Is K H6 vw (TW fr):=iw5.byK k6 (zkC _)
   have ta6 : IsAll K H6 (av ++ [vw]) ((acc ++ [fr]).map TW):=by
     rw [List.map_append]
     exact (IsAll.keep k6 _ _ (zdn _) ta5).append (.cons iw6 .nil)
   obtain ⟨aw,rfl,hsw⟩:=zk6.mp iw6
   wtm_at "gg"
   refine zgz el6 (.inr hsw) rfl (by have:=zhV rs.length g; omega) (fun ln H7 n7 S7 e7=>?_)
   rw [zl1] at e7
   have w7:=hw.by (S6.trans S7)
   wtm_at "gg"
   refine zeP w7 (.inr (S7.sqT hsw)) ok (fun lt kv H8 n8t S8 e8 t8=>?_)
   have S68:=S7.trans S8
   have ep8:=S68 _ _ ep6
   have nltp : lt ≠ lp:=fun z=>by subst z; rw [S7 _ _ ep6] at n8t; cases n8t
   have nlnp : ln ≠ lp:=fun z=>by subst z; rw [ep6] at n7; cases n7
   have nlna : ln ≠ la:=fun z=>by subst z; rw [e6] at n7; cases n7
   have el8:=S8 _ _ e7
   have S08:=S6.trans S68
   have w8:=hw.by S08
   have ea8:=S68 _ _ e6
   have ta8 : IsAll K H8 (av ++ [.ref aw]) ((acc ++ [fr]).map TW):=IsAll.same S68 _ _ ta6
   have ew8:=S68 _ _ ew6
   clear S7 n7 e7 w7 S8 n8t ep6 ew6 el6 ta6 iw6 hsw e6 k6 E6 ep5 ew5 el5 ea5 ta5 iw5
   wtm_at "gg"
   have ndl : (zbO rs.length (g ++ fr)).Nodup:=List.nodup_range.filter _
   refine zh3 (.of el8) (fun i σ H'=>∃ (o8 : Option V) (pw' : List Int),σ = [some x0,some x1,some (.ref lp),some (.ref lw),some (.ref ln),some (.ref la),some (.ref aw),some (.ref lt),o8,none,none] /\ Exc lp H8 H' /\ H' lp = some (.lst (pw'.map V.int)) /\ pw'.length = rs.length /\ ∀ w,w < rs.length -> pw'.getD w 0 = if w ∈ (zbO rs.length (g ++ fr)).take i then phG rs us ts ps (cm.getD 0 []) (g ++ fr) w else pw.getD w 0)
     ⟨_,pw,rfl,Exc.refl _ _,ep8,hpl,fun w _=>by simp⟩ (fun i σ H' _ ⟨_,_,_,X,_⟩=>.of (X.at nlnp el8)) ?_ ?_
   . rintro i x σ H9 hx ⟨o8,pw',rfl,X9,ep9,hpl9,hpw9⟩
     obtain ⟨hi,rfl⟩:=zga hx
     obtain ⟨hwn,hwg⟩:=zcL.mp (List.getElem_mem hi)
     have hnt : (zbO rs.length (g ++ fr))[i] ∉ (zbO rs.length (g ++ fr)).take i:=fun z=>by
       obtain ⟨j,hj,e⟩:=List.getElem_of_mem z
       rw [List.getElem_take] at e
       rw [List.length_take] at hj
       exact absurd (zjb ndl _ _ e) (by omega)
     have hti : (zbO rs.length (g ++ fr)).take (i + 1) = (zbO rs.length (g ++ fr)).take i ++ [(zbO rs.length (g ++ fr))[i]]:=zjr hi
     generalize hwv : (zbO rs.length (g ++ fr))[i] = w at *
     have hwg1 : w ∉ g:=fun z=>hwg (List.mem_append_left _ z)
     obtain ⟨hul,hub⟩:=ok.u w hwn
     have K9:=X9.keep ep8
     have w9 : Is K H9 x0 (zbb rs us ts):=w8.thruW K9
     have hpw : pw'.getD w 0 = phG rs us ts ps (cm.getD 0 []) g w:=by rw [hpw9 w hwn,if_neg hnt,hph w hwn hwg1]
     have hlow:=zkX ok so g hwn
     wtm_at "gg"
     refine zbJ w9 (fun x4 i4=>?_)
     wtm_at "gg"
     refine zcG i4 (by omega) (by omega) ?_
     rw [Int.toNat_natCast]
     wtm_at "gg"
     refine zec w9 (fun x5 i5=>?_)
     wtm_at "gg"
     refine zgg i5 (by omega) (by rw [ok.ul]; omega) (fun x6 i6=>?_)
     rw [Int.toNat_natCast] at i6
     wtm_at "gg"
     refine zif (.of ep9) (by omega) (by omega) ?_
     rw [Int.toNat_natCast,hpw]
     wtm_at "gg"
     refine zfP (d:=0) (X9.at nltp e8) (IsAll.keep K9 _ _ (za3 _) t8) ok.t ok.tl (fun H10 S10=>?_)
     wtm_at "gg"
     have hcl:=zk0 ts fr w 0
     have htl:=ok.tl
     refine zfM hul.symm (i6.by S10) (by omega) (by omega) (by omega) hub ?_
     rw [Int.toNat_natCast,zoM hdis]
     wtm_at "gg"
     refine zlE (j:=w) (S10 _ _ ep9) (by rw [List.length_map,hpl9]; unfold ixN; rw [if_pos (by omega),if_pos (by omega)]; simp) (fun H11 E11 e11=>?_)
     rw [map_set] at e11
     wtm_at "gg"
     refine ⟨_,_,rfl,X9.trans (S10.exc.trans E11),e11,by rw [List.length_set,hpl9],fun v hv=>?_⟩
     rw [zm7 (by omega),hti,hpw9 v hv]
     by_cases e : w = v
     . subst e; rw [if_pos rfl,if_pos (List.mem_append_right _ (List.mem_singleton.mpr rfl))]
     . rw [if_neg e]
       by_cases e2 : v ∈ (zbO rs.length (g ++ fr)).take i
       . rw [if_pos e2,if_pos (List.mem_append_left _ e2)]
       . rw [if_neg e2,if_neg (fun z=>(List.mem_append.mp z).elim e2 fun z=>e (List.mem_singleton.mp z).symm)]
   . rintro σ H9 ⟨o8,pw',rfl,X9,ep9,hpl9,hpw9⟩
     rw [zck,List.take_length] at hpw9
     have K9:=X9.keep ep8
     have S09 : zaf H H9:=fun b o h=>X9 b o (zaz h np0) (S08 b o h)
     have hpg : ∀ w,w < rs.length -> w ∉ g ++ fr -> pw'.getD w 0 = phG rs us ts ps (cm.getD 0 []) (g ++ fr) w:=fun w h1 h2=>by rw [hpw9 w h1,if_pos (zcL.mpr ⟨h1,h2⟩)]
     wtm_at "gg"
     refine zjJ (hw.by S09) (X9.at nlnp el8) ep9 hpl9 (fun w hw=>(zcL.mp hw).1) (by have:=zhV rs.length (g ++ fr); omega) (fun vw' H10 S10 iw10=>?_)
     rw [zgn hpg] at iw10
     wtm_at "gg"
     refine ⟨f',by omega,_,_,g ++ fr,acc ++ [fr],pw',ln,vw',av ++ [.ref aw],rfl,R6,S09.trans S10,S10 _ _ ep9,hpl9,hpg,S10 _ _ (X9.at nlwp ew8),S10 _ _ (X9.at nlnp el8),nlnp,nlna,S10 _ _ (X9.at nlap ea8),IsAll.same S10 _ _ (IsAll.keep K9 _ _ (zdn _) ta8),iw10,?_⟩
     rw [List.length_append,List.length_singleton]
     omega
def stN (rs : List Int) (us ts : List (List Int)) (ps : List Int) (cm : List (List Int)) : Nat -> List Int × List (List Int)
 | 0=>(ps,cm)
 | k + 1=>(zcA rs us ts (stN rs us ts ps cm k).1 (stN rs us ts ps cm k).2,zeD rs us ts (stN rs us ts ps cm k).1 (stN rs us ts ps cm k).2)
theorem zc9 {rs ps : List Int} {us ts cm : List (List Int)} (ok : zaN rs us ts) (so : zdq rs ps cm) : ∀ k,zdq rs (stN rs us ts ps cm k).1 (stN rs us ts ps cm k).2
 | 0=>so
 | k + 1=>(zc9 ok so k).next ok
def wvN (rs : List Int) (us ts : List (List Int)) (ps : List Int) (cm : List (List Int)) (k : Nat) : List (List Nat):=zdf rs us ts (stN rs us ts ps cm k).1 (stN rs us ts ps cm k).2
def zcz (r : Nat × List (List Nat)) : PyData:=.tuple [.int (r.1 : Int),TWs r.2]
def zfS (rs : List Int) (us ts : List (List Int)) (ps : List Int) (cm : List (List Int)) : Nat -> List (Nat × List (List Nat))
 | 0=>[]
 | k + 1=>zfS rs us ts ps cm k ++ if wvN rs us ts ps cm k = [] then [] else [(k + 1,wvN rs us ts ps cm k)]
theorem zjd (rs : List Int) (us ts : List (List Int)) (ps : List Int) (cm : List (List Int)) : ∀ k,(zfS rs us ts ps cm k).length <= k
 | 0=>Nat.le_refl _
 | k + 1=>by
   have:=zjd rs us ts ps cm k
   rw [zfS,List.length_append]
   split
   . rw [List.length_nil]; omega
   . rw [List.length_singleton]; omega
theorem zeS (r : Nat × List (List Nat)) : Imm (zcz r) = true:=by rw [zcz,Imm,ImmAll,ImmAll,ImmAll,zoG]; rfl
theorem zdQ (l : List (Nat × List (List Nat))) : ImmAll (l.map zcz) = true:=zdz _ zeS l
def znH (K : PySem.W.Frag) : Sp:=fun vs H Q _=>∃ x0 x1 x2,vs = [x0,x1,x2] /\ ∃ (rs ps : List Int) (us ts cm : List (List Int)) (n : Nat),Is K H x0 (zbb rs us ts) /\ zaN rs us ts /\ Is K H x1 (StD ps cm) /\ zdq rs ps cm /\ x2 = .int (n : Int) /\ n <= 900 /\ ∀ l us' H',H l = none -> zaf H H' -> H' l = some (.lst us') -> IsAll K H' us' ((zfS rs us ts ps cm n).map zcz) -> Q (.ref l) H'
theorem zgS {K : PySem.W.Frag} {H : Hp} {Q : VK} {E : XK} {v w : V} {rs ps : List Int} {us ts cm : List (List Int)} {n : Nat} (h : Is K H v (zbb rs us ts)) (ok : zaN rs us ts) (h2 : Is K H w (StD ps cm)) (so : zdq rs ps cm) (hn : n <= 900) (q : ∀ l us' H',H l = none -> zaf H H' -> H' l = some (.lst us') -> IsAll K H' us' ((zfS rs us ts ps cm n).map zcz) -> Q (.ref l) H') : znH K [v,w,.int (n : Int)] H Q E:=⟨_,_,_,rfl,rs,ps,us,ts,cm,n,h,ok,h2,so,rfl,hn,q⟩
set_option maxHeartbeats 4000000 in
theorem zgr (T : Txt K mg a) : zbr P w K mg base CX0 4 a.run a.fd_run ["web","stand","many"] (znH K):=by
 refine T.F_run.ok zfg (fun vs H Q E h=>by obtain ⟨_,_,_,rfl,_⟩:=h; rfl) (fun cdv A outer s H vs Q E hr h=>?_)
 obtain ⟨x0,x1,x2,rfl,h⟩:=h
 have hu:=hr.units
 refine ⟨_,(zae (zap (i:=3) zfg.nd rfl (Or.inl rfl) (zbs zab))
     (zae (zap (i:=4) zfg.nd rfl (Or.inl rfl) (pv 1))
     (zae (zcy PassesOwn.never rfl (zlZ rfl T.z_range (zaa zad (zaa (zaq zaR (pv 2) zad) zab))) (zak (i:=5) zfg.nd rfl (Or.inl rfl)) (zae (zap (i:=6) zfg.nd rfl (Or.inl rfl) (zag (zlG T) (hr.mono (by decide)) rfl T.g_tick T.F_tick.kp T.b_tick .nil zat (zaa (pv 0) (zaa (pv 4) zab))))
     (zae (zap (i:=4) zfg.nd rfl (Or.inl rfl) (zal zah (pv 6) zad (fun _ _=>rfl)))
     (zai (zcU (znk (zal zah (pv 6) zad (fun _ _=>rfl))) (zai (zc7 (zeV PySem.F.plainAttrs_list PySem.F.slot_list_append PySem.F.type_list_append zbL (pv 3) (zaa (zaS (zaa (pv 5) (zaa (zal zah (pv 6) zad (fun _ _=>rfl)) zab))) zab)))) zbu)))))
     (zai (zaB (pv 3)))))),?_⟩
 clear hu
 try clear hgd
 try dsimp only [zbp,zbc]
 rw [show start ["web","stand","many","told","ahead","count","both"] [x0,x1,x2] = [some x0,some x1,some x2,none,none,none,none] from rfl]
 obtain ⟨rs,ps,us,ts,cm,n,hw,ok,hs,so,rfl,hn,q⟩:=h
 wtm_at "ga"
 rename_i lo H1 n1 S1 e1
 refine znW ?_
 wtm_at "gg"
 refine zkq (by decide) (by decide) (by omega) (by omega) (fun i σ H'=>∃ o5 o6 v rows,σ = [some x0,some x1,some (.int (n : Int)),some (.ref lo),some v,o5,o6] /\ zaf H H' /\ Is K H' v (StD (stN rs us ts ps cm i).1 (stN rs us ts ps cm i).2) /\ H' lo = some (.lst rows) /\ IsAll K H' rows ((zfS rs us ts ps cm i).map zcz)) ⟨_,_,_,[],rfl,S1,hs.by S1,e1,.nil⟩ ?_ ?_
 . rintro i σ H2 hi ⟨o5,o6,v,rows,rfl,S2,i2,e2,t2⟩
   have hrl:=zjd rs us ts ps cm i
   have hrl2 : rows.length = (zfS rs us ts ps cm i).length:=by rw [t2.length,List.length_map]
   wtm_at "gg"
   refine zlu (hw.by S2) ok i2 (zc9 ok so i) (fun v3 H3 S3 i3=>?_)
   have e3:=S3 _ _ e2
   have t3 : IsAll K H3 rows ((zfS rs us ts ps cm i).map zcz):=IsAll.same S3 _ _ t2
   wtm_at "gg"
   refine zou i3 (fun v4 i4=>?_)
   wtm_at "gg"
   refine zn7 i3 (fun v5 i5=>?_)
   wtm_at "gg"
   refine zkZ (show Is K H3 v5 (.tuple _) from i5) ?_
   have hw' : wvN rs us ts ps cm i = zdf rs us ts (stN rs us ts ps cm i).1 (stN rs us ts ps cm i).2:=rfl
   rw [<- hw'] at i5 ⊢
   by_cases hz : wvN rs us ts ps cm i = []
   . rw [show (!(List.map TW (wvN rs us ts ps cm i)).isEmpty) = false from by rw [hz]; rfl]
     wtm_at "gg"
     refine ⟨_,_,v4,rows,rfl,S2.trans S3,i4,e3,?_⟩
     rw [zfS,if_pos hz,List.append_nil]
     exact t3
   . rw [show (!(List.map TW (wvN rs us ts ps cm i)).isEmpty) = true from by
       cases e : wvN rs us ts ps cm i with
       | nil=>exact absurd e hz
       | cons a b=>rfl]
     wtm_at "gg"
     refine zdC (.of e3) ?_
     wtm_at "gg"
     refine zn7 i3 (fun v6 i6=>?_)
     rw [<- hw'] at i6
     wtm_at "gg"
     rw [show (1 : Int) + (i : Int) = ((i + 1 : Nat) : Int) by omega]
     refine zaQ (ds:=[.int ((i + 1 : Nat) : Int),TWs (wvN rs us ts ps cm i)]) (by simp) (.cons (zaT.mpr rfl) (.cons i6 .nil)) (fun v7 H7 S7 i7=>?_)
     wtm_at "gg"
     refine zb0 (S7 _ _ e3) (by omega) (fun H8 E8 e8=>?_)
     have k8:=E8.keep (S7 _ _ e3)
     wtm_at "gg"
     refine ⟨_,_,v4,rows ++ [v7],rfl,fun b o h=>E8 b o (zaz h n1) (S7 b o (S3 b o (S2 b o h))),(i4.by S7).thruS k8,e8,?_⟩
     rw [zfS,if_neg hz,List.map_append]
     exact (IsAll.keep (S7.keep.trans k8) _ _ (zdQ _) t3).append (.cons ((show Is K H7 v7 (zcz (i + 1,wvN rs us ts ps cm i)) from i7).byK k8 (zeS _)) .nil)
 . rintro σ H2 ⟨o5,o6,v,rows,rfl,S2,i2,e2,t2⟩
   rw [show ((n : Int) + 1 - 1).toNat = n by omega] at t2
   wtm_at "gg"
   exact q lo rows H2 n1 S2 e2 t2
def zdG (K : PySem.W.Frag) : Sp:=fun vs H Q _=>∃ x0 x1 x2,vs = [x0,x1,x2] /\ ∃ (rs ps : List Int) (us ts cm : List (List Int)) (n : Nat),Is K H x0 (zbb rs us ts) /\ zaN rs us ts /\ Is K H x1 (StD ps cm) /\ zdq rs ps cm /\ x2 = .int (n : Int) /\ n <= 1000 /\ ∀ v H',zaf H H' -> Is K H' v (StD (stN rs us ts ps cm n).1 (stN rs us ts ps cm n).2) -> Q v H'
theorem zbw {K : PySem.W.Frag} {H : Hp} {Q : VK} {E : XK} {v w : V} {rs ps : List Int} {us ts cm : List (List Int)} {n : Nat} (h : Is K H v (zbb rs us ts)) (ok : zaN rs us ts) (h2 : Is K H w (StD ps cm)) (so : zdq rs ps cm) (hn : n <= 1000) (q : ∀ v H',zaf H H' -> Is K H' v (StD (stN rs us ts ps cm n).1 (stN rs us ts ps cm n).2) -> Q v H') : zdG K [v,w,.int (n : Int)] H Q E:=⟨_,_,_,rfl,rs,ps,us,ts,cm,n,h,ok,h2,so,rfl,hn,q⟩
set_option maxHeartbeats 4000000 in
theorem zbx (T : Txt K mg a) : zbr P w K mg base CX0 4 a.stand_behind a.fd_stand_behind ["web","stand","many"] (zdG K):=by
 refine T.F_stand_behind.ok zbT (fun vs H Q E h=>by obtain ⟨_,_,_,rfl,_⟩:=h; rfl) (fun cdv A outer s H vs Q E hr h=>?_)
 obtain ⟨x0,x1,x2,rfl,h⟩:=h
 have hu:=hr.units
 refine ⟨_,(zae (zap (i:=3) zbT.nd rfl (Or.inl rfl) (pv 1))
     (zae (zcy PassesOwn.never rfl (zbd rfl T.z_range (zaa (pv 2) zab)) (zak (i:=4) zbT.nd rfl (Or.inl rfl)) (zai (zap (i:=3) zbT.nd rfl (Or.inl rfl) (zal zah (zag (zlG T) (hr.mono (by decide)) rfl T.g_tick T.F_tick.kp T.b_tick .nil zat (zaa (pv 0) (zaa (pv 3) zab))) zad (fun _ _=>rfl)))))
     (zai (zaB (pv 3))))),?_⟩
 clear hu
 try clear hgd
 try dsimp only [zbp,zbc]
 rw [show start ["web","stand","many","told","done"] [x0,x1,x2] = [some x0,some x1,some x2,none,none] from rfl]
 obtain ⟨rs,ps,us,ts,cm,n,hw,ok,hs,so,rfl,hn,q⟩:=h
 wtm_at "gg"
 refine zcK (n:=(n : Int)) (by omega) (by omega) (fun i σ H'=>∃ o4 v,σ = [some x0,some x1,some (.int (n : Int)),some v,o4] /\ zaf H H' /\ Is K H' v (StD (stN rs us ts ps cm i).1 (stN rs us ts ps cm i).2)) ⟨_,_,rfl,zaf.refl _,hs⟩ ?_ ?_
 . rintro i σ H1 hi ⟨o4,v,rfl,S1,i1⟩
   wtm_at "gg"
   refine zlu (hw.by S1) ok i1 (zc9 ok so i) (fun v2 H2 S2 i2=>?_)
   wtm_at "gg"
   refine zou i2 (fun v3 i3=>?_)
   wtm_at "gg"
   exact ⟨_,v3,rfl,S1.trans S2,i3⟩
 . rintro σ H1 ⟨o4,v,rfl,S1,i1⟩
   rw [Int.toNat_natCast] at i1
   wtm_at "gg"
   exact q v H1 S1 i1
def Pen (H : Hp) (p : Addr) (k : Int) : Prop:=0 <= k /\ ∃ (a : Int) (b : Bool),H p = some (.lst [.int a,.bl b])
theorem Pen.same {H H' : Hp} {p : Addr} {k : Int} (s : zaf H H') (h : Pen H p k) : Pen H' p k:=by
 obtain ⟨k0,x,y,e⟩:=h
 exact ⟨k0,x,y,s _ _ e⟩
theorem Pen.exc {H H' : Hp} {p l : Addr} {k : Int} (h : Pen H p k) (s : Exc l H H') (n : p ≠ l) : Pen H' p k:=by
 obtain ⟨k0,x,y,e⟩:=h
 exact ⟨k0,x,y,s _ _ n e⟩
theorem Pen.ne {H : Hp} {p q : Addr} {k : Int} (e : H q = none) (h : Pen H p k) : q ≠ p:=by
 obtain ⟨_,x,y,z⟩:=h
 exact (zaz z e).symm
def zgG (K : PySem.W.Frag) : Sp:=fun vs H Q _=>∃ x0 x1,vs = [x0,x1] /\ ∃ (a : Addr) (ns : List Int) (k : Int),x0 = .ref a /\ x1 = .int k /\ SqF K H a (ns.map V.int) /\ ns.length <= 63 /\ 0 <= k /\ k <= 1000 /\
 ∀ p H',H p = none -> zaf H H' -> Pen H' p 0 -> Q (.ref p) H'
theorem zey {K : PySem.W.Frag} {H : Hp} {Q : VK} {E : XK} {a : Addr} {ns : List Int} {k : Int} (h : SqF K H a (ns.map V.int)) (hl : ns.length <= 63) (h0 : 0 <= k) (h1 : k <= 1000)
   (q : ∀ p H',H p = none -> zaf H H' -> Pen H' p 0 -> Q (.ref p) H') : zgG K [.ref a,.int k] H Q E:=⟨_,_,rfl,a,ns,k,rfl,rfl,h,hl,h0,h1,q⟩
local macro_rules | `(tactic| wtm_at "pen")=>`(tactic| first
 | assumption
 | (apply Pen.same; (focus assumption); wtm_at "pen"))
local macro_rules | `(tactic| wtm_at "ne")=>`(tactic| ((with_reducible apply Pen.ne); (focus assumption); wtm_at "pen"))
local macro_rules | `(tactic| wtm_at "penle")=>`(tactic| exact Pen.le (by wtm_at "pen") (by omega))
set_option maxHeartbeats 4000000 in
theorem zeu (T : Txt K mg a) : zbr P w K mg base CX0 1 a.law_pen a.fd_law_pen ["_law_script","_law_k"] (zgG K):=by
 refine T.F_law_pen.ok zel (fun vs H Q E h=>by obtain ⟨_,_,rfl,_⟩:=h; rfl) (fun cdv A outer s H vs Q E hr h=>?_)
 obtain ⟨x0,x1,rfl,h⟩:=h
 have hu:=hr.units
 refine ⟨_,(zae (zap (i:=2) zel.nd rfl (Or.inl rfl) (zaq zaR (zaq zcF zad (pv 1)) zad))
     (zae (zcU (zba zp3 (zam (show zaj _ (.builtin "len") (zcb K) from zax) rfl T.z_len za8 (zaa (pv 0) zab)) zad (zbq _)) (zai (zap (i:=2) zel.nd rfl (Or.inl rfl) (zaq zaR (zal zah (pv 0) (zaq zdT (pv 1) (zam (show zaj _ (.builtin "len") (zcb K) from zax) rfl T.z_len za8 (zaa (pv 0) zab))) (fun _ _=>rfl)) (zaq zcF (zaq zd0 (pv 1) (zam (show zaj _ (.builtin "len") (zcb K) from zax) rfl T.z_len za8 (zaa (pv 0) zab))) zad)))) zbu)
     (zae (zcU (PW.pt (znl (zba zsh (pv 1) (zam (show zaj _ (.builtin "len") (zcb K) from zax) rfl T.z_len za8 (zaa (pv 0) zab)) (zbq _)) (zk7 (zba zm4 (pv 2) (zpi (v:=1000000000000000000) ⟨by decide,by decide,by decide⟩ (by decide +kernel)) (zbq _))))) (zai (zaB (zbs (zaa (pv 2) (zaa zeC zab))))) zbu)
     (zai (zaB (zbs (zaa (zaq zdT (zaq zcF (zaq zaR (zaq zaR (zaq zdT (pv 2) zad) (zaq zcF zad (pv 1))) zad) zad) zad) (zaa zeC zab)))))))),?_⟩
 clear hu
 try clear hgd
 try dsimp only [zbp,zbc]
 rw [show start ["_law_script","_law_k","_law_cell"] [x0,x1] = [some x0,some x1,none] from rfl]
 obtain ⟨a',ns,k,rfl,rfl,hs,hl,h0,h1,q⟩:=h
 have fin : ∀ (x : Int) (y : Bool),mkL K [.int x,.bl y] H Q:=fun x y=>zis (by show 2 <= 1000; decide) fun p H' hp s e=>q p H' hp s ⟨by decide,x,y,e⟩
 wtm_at "gg"
 refine zb8 hs.sq ?_
 wtm_at "gg"
 . rename_i hz
   rw [List.length_map] at hz
   refine zb8 hs.sq ?_
   rw [List.length_map]
   wtm_at "gg"
   refine zrz hs (Int.emod_nonneg _ (by omega)) (by rw [List.length_map]; exact Int.emod_lt_of_pos _ (by omega)) (fun z=>?_)
   wtm_at "gg"
   refine zb8 hs.sq ?_
   rw [List.length_map]
   wtm_at "gg"
   refine znu ⟨by omega,(Bd.of128 (by omega) (by omega)).mono (by decide)⟩ ?_
   wtm_at "gg"
   refine zb8 hs.sq ?_
   wtm_at "gg"
   all_goals exact fin _ _
 . refine zb8 hs.sq ?_
   wtm_at "gg"
   all_goals exact fin _ _
def zfK (K : PySem.W.Frag) : Sp:=fun vs H Q _=>∃ x0 x1,vs = [x0,x1] /\ ∃ (p : Addr) (k m : Int),x0 = .ref p /\ x1 = .int m /\ Pen H p k /\ 0 < m /\ Bd 8999 m /\
 ∀ (r : Int) (H' : Hp),0 <= r -> r < m -> Exc p H H' -> za7 H H' -> Pen H' p k -> Q (.int r) H'
theorem zjk {K : PySem.W.Frag} {H : Hp} {Q : VK} {E : XK} {p : Addr} {k m : Int} (h : Pen H p k) (hm : 0 < m) (hb : Bd 8999 m)
   (q : ∀ (r : Int) (H' : Hp),0 <= r -> r < m -> Exc p H H' -> za7 H H' -> Pen H' p k -> Q (.int r) H') : zfK K [.ref p,.int m] H Q E:=⟨_,_,rfl,p,k,m,rfl,rfl,h,hm,hb,q⟩
local macro_rules | `(tactic| wtm_at "gs")=>`(tactic| ((with_reducible apply zjk); (focus wtm_at "pen"); (focus (first | decide | omega)); (focus wtm_at "bd128"); intro _ _ _ _ _ _ _))
set_option maxHeartbeats 4000000 in
theorem za1 (T : Txt K mg a) : zbr P w K mg base CX0 1 a.law_draw a.fd_law_draw ["_law_pen_here","_law_many"] (zfK K):=by
 refine T.F_law_draw.ok zdS (fun vs H Q E h=>by obtain ⟨_,_,rfl,_⟩:=h; rfl) (fun cdv A outer s H vs Q E hr h=>?_)
 obtain ⟨x0,x1,rfl,h⟩:=h
 have hu:=hr.units
 refine ⟨_,(zae (zcU (zcQ (zal zah (pv 0) zad (fun _ _=>rfl))) (zae (zap (i:=2) zdS.nd rfl (Or.inl rfl) (zaq zdT (zal zah (pv 0) zad (fun _ _=>rfl)) (pv 1)))
     (zae (zkW (zaq zd0 (zal zah (pv 0) zad (fun _ _=>rfl)) (pv 1)) (zkx (pv 0) zad zgX))
     (zai (zaB (pv 2))))) zbu)
     (zae (zkW (zaq zdT (zaq zaR (zaq zcF (zal zah (pv 0) zad (fun _ _=>rfl)) zad) zad) zad) (zkx (pv 0) zad zgX))
     (zae (zap (i:=3) zdS.nd rfl (Or.inl rfl) (zaq zdT (zaq zcF (zaq zaR (zaq zaR (zaq zcF (zaq zdT (zal zah (pv 0) zad (fun _ _=>rfl)) zad) zad) (zaq zd0 (zal zah (pv 0) zad (fun _ _=>rfl)) zad)) zad) zad) zad))
     (zai (zaB (zaq zdT (zaq zd0 (pv 3) zad) (pv 1))))))),?_⟩
 clear hu
 try clear hgd
 try dsimp only [zbp,zbc]
 rw [show start ["_law_pen_here","_law_many","_law_digit","_law_mixed"] [x0,x1] = [some x0,some x1,none,none] from rfl]
 obtain ⟨p,k,m,rfl,rfl,⟨hk0,x,y,hp⟩,hm,hbm,q⟩:=h
 wtm_at "gg"
 all_goals
   exact q _ _ (Int.emod_nonneg _ (by omega)) (Int.emod_lt_of_pos _ hm) (by wtm_at "exc") (Exc.keep (p:=p) (by wtm_at "exc") hp) ⟨hk0,_,_,by assumption⟩
def zcp (a d j : Nat) : List (List Int):=((List.range j).filter fun (b : Nat)=>decide (b ≠ a)).map fun (b : Nat)=>[(a : Int),(b : Int),(d : Int)]
theorem zfN (a d j : Nat) : zcp a d (j + 1) = zcp a d j ++ if j = a then [] else [[(a : Int),(j : Int),(d : Int)]]:=by
 unfold zcp
 rw [List.range_succ,List.filter_append,List.map_append]
 congr 1
 by_cases h : j = a <;> simp [h]
theorem zeq (a d j : Nat) : (zcp a d j).length <= j:=by
 unfold zcp
 rw [List.length_map]
 have:=List.length_filter_le (fun (b : Nat)=>decide (b ≠ a)) (List.range j)
 rw [List.length_range] at this
 exact this
theorem zep {a d j : Nat} {t : List Int} (h : t ∈ zcp a d j) : ∃ b,b < j /\ b ≠ a /\ t = [(a : Int),(b : Int),(d : Int)]:=by
 obtain ⟨b,hb,rfl⟩:=List.mem_map.mp h
 obtain ⟨h1,h2⟩:=List.mem_filter.mp hb
 exact ⟨b,List.mem_range.mp h1,of_decide_eq_true h2,rfl⟩
theorem ziy (a d j : Nat) : (zcp a d j).Nodup:=by
 unfold zcp List.Nodup
 rw [List.pairwise_map]
 exact (List.nodup_range.filter _).imp fun {x y} h e=>h (Int.ofNat.inj (by simpa using e))
structure zd1 (n d a : Nat) (L : List (List Int)) : Prop where
 ok : ∀ t ∈ L,zcD n t
 nd : L.Nodup
 lt : ∀ t ∈ L,t.getD 2 0 * 8 + t.getD 0 0 < (d : Int) * 8 + a
 len : L.length <= 56 * d + 7 * a
theorem zd1.row {n d a : Nat} {L : List (List Int)} (h : zd1 n d a L) (n8 : n <= 8) (ha : a < n) (hd : d <= 4) : zd1 n d (a + 1) (L ++ zcp a d n):=by
 refine ⟨fun t ht=>?_,List.nodup_append.mpr ⟨h.nd,ziy a d n,fun x hx y hy e=>?_⟩,fun t ht=>?_,?_⟩
 . rcases List.mem_append.mp ht with z | z
   . exact h.ok t z
   . obtain ⟨b,h1,h2,rfl⟩:=zep z
     exact ⟨a,b,d,rfl,ha,h1,fun e=>h2 e.symm,hd⟩
 . subst e
   obtain ⟨b,h1,h2,rfl⟩:=zep hy
   have:=h.lt _ hx
   simp at this
 . rcases List.mem_append.mp ht with z | z
   . have:=h.lt t z; omega
   . obtain ⟨b,h1,h2,rfl⟩:=zep z
     simp
     omega
 . rw [List.length_append]
   have h1:=h.len
   have : (zcp a d n).length <= 7:=by
     have h2:=zeq a d n
     rcases Nat.lt_or_ge n 8 with z | z
     . omega
     . have e : n = 8:=by omega
       subst e
       have : a = 0 \/ a = 1 \/ a = 2 \/ a = 3 \/ a = 4 \/ a = 5 \/ a = 6 \/ a = 7:=by omega
       rcases this with rfl | rfl | rfl | rfl | rfl | rfl | rfl | rfl <;> simp [zcp] <;> decide
   omega
theorem zd1.up {n d : Nat} {L : List (List Int)} (h : zd1 n d n L) (n8 : n <= 8) : zd1 n (d + 1) 0 L :=
 ⟨h.ok,h.nd,fun t ht=>by have:=h.lt t ht; omega,by have:=h.len; omega⟩
def zfy (K : PySem.W.Frag) : Sp:=fun vs H Q _=>∃ x0 x1 x2,vs = [x0,x1,x2] /\ ∃ (p : Addr) (k : Int) (n : Nat),x0 = .ref p /\ x1 = .int (n : Int) /\ x2 = .bl false /\ Pen H p k /\ n <= 8 /\ ∀ (l : Addr) (H' : Hp) (us : List V) (ts : List (List Int)),Exc p H H' -> za7 H H' -> Pen H' p k -> H' l = some (.lst us) -> IsAll K H' us (ts.map TZ) -> (∀ t ∈ ts,zcD n t) -> ts.Nodup -> ts.length <= 8 -> Q (.ref l) H'
theorem ziZ {K : PySem.W.Frag} {H : Hp} {Q : VK} {E : XK} {p : Addr} {k : Int} {n : Nat} (h : Pen H p k) (h8 : n <= 8) (q : ∀ (l : Addr) (H' : Hp) (us : List V) (ts : List (List Int)),Exc p H H' -> za7 H H' -> Pen H' p k -> H' l = some (.lst us) -> IsAll K H' us (ts.map TZ) -> (∀ t ∈ ts,zcD n t) -> ts.Nodup -> ts.length <= 8 -> Q (.ref l) H') : zfy K [.ref p,.int (n : Int),.bl false] H Q E:=⟨_,_,_,rfl,p,k,n,rfl,rfl,rfl,h,h8,q⟩
set_option maxHeartbeats 4000000 in
theorem zjf (T : Txt K mg a) : zbr P w K mg base CX0 2 a.law_ties a.fd_law_ties ["_law_pen_here","_law_many","_law_great"] (zfy K):=by
 refine T.F_law_ties.ok zbm (fun vs H Q E h=>by obtain ⟨_,_,_,rfl,_⟩:=h; rfl) (fun cdv A outer s H vs Q E hr h=>?_)
 obtain ⟨x0,x1,x2,rfl,h⟩:=h
 have hu:=hr.units
 refine ⟨_,(zae (zap (i:=3) zbm.nd rfl (Or.inl rfl) (zbs zab))
     (zae (zcy PassesOwn.never rfl (zbd rfl T.z_range (zaa zad zab)) (zak (i:=4) zbm.nd rfl (Or.inr rfl)) (zai (zcy PassesOwn.never rfl (zbd rfl T.z_range (zaa (pv 1) zab)) (zak (i:=5) zbm.nd rfl (Or.inr rfl)) (zai (zap (i:=3) zbm.nd rfl (Or.inl rfl) (zaq zaR (pv 3) (zaU rfl (zaL.by (N':=["_law_b","_law_a","_law_delay"]) (src:=[none,some 5,some 4]) rfl (show zaF _ (zac zbW).names ["_law_pen_here","_law_many","_law_great","_law_left","_law_delay","_law_a","_law_near","_law_ties_here","_law_k"] ["_law_b","_law_a","_law_delay"] [none,some 5,some 4] = true from by decide +kernel)) (zbd rfl T.z_range (zaa (pv 1) zab)) (fun _ _ _ _ _=>(zak (i:=0) (show (["_law_b","_law_a","_law_delay"] : List Str).Nodup from by decide) rfl (Or.inl rfl))) (fun _ _ _ _ _=>(zd6 (zba (show OpR _ (compareOp .NotEq) (zgo K) from zem hu) (pv 0) (pv 1) (zbq _)))) (fun _ _ _ _ _=>by exact (show PE _ _ (zfI K _) from zaS (zaa (pv 1) (zaa (pv 0) (zaa (pv 2) zab))))))))))))
     (zae (zap (i:=6) zbm.nd rfl (Or.inl rfl) (zal zah (zbs (zaa zad (zaa zad zab))) (zag (za1 T) (hr.mono (by decide)) rfl T.g_law_draw T.F_law_draw.kp T.b_law_draw .nil zat (zaa (pv 0) (zaa zad zab))) (fun _ _=>rfl)))
     (zae (zap (i:=7) zbm.nd rfl (Or.inl rfl) (zbs zab))
     (zae (zcy PassesOwn.never rfl (zbd rfl T.z_range (zaa (zam (show zaj _ (.builtin "min") zlk from zhR rfl) rfl T.z_min znm (zaa (zam (show zaj _ (.builtin "len") (zcb K) from zax) rfl T.z_len za8 (zaa (pv 3) zab)) (zaa (zag (za1 T) (hr.mono (by decide)) rfl T.g_law_draw T.F_law_draw.kp T.b_law_draw .nil zat (zaa (pv 0) (zaa (zal zah (zbs (zaa zad (zaa zad zab))) (zan zmI rfl T.z_int zny (zaa (pv 2) zab)) (fun _ _=>rfl)) zab))) zab))) zab)) (zak (i:=8) zbm.nd rfl (Or.inl rfl)) (zai (zc7 (zeV PySem.F.plainAttrs_list PySem.F.slot_list_append PySem.F.type_list_append zbL (pv 7) (zaa (zeV PySem.F.plainAttrs_list PySem.F.slot_list_pop PySem.F.type_list_pop zni (pv 3) (zaa (zag (za1 T) (hr.mono (by decide)) rfl T.g_law_draw T.F_law_draw.kp T.b_law_draw .nil zat (zaa (pv 0) (zaa (zaq zaR zad (zaq zd0 (zaq zfr (zam (show zaj _ (.builtin "len") (zcb K) from zax) rfl T.z_len za8 (zaa (pv 3) zab)) zad) (pv 6))) zab))) zab)) zab)))))
     (zai (zaB (pv 7)))))))),?_⟩
 clear hu
 try clear hgd
 try dsimp only [zbp,zbc]
 rw [show start ["_law_pen_here","_law_many","_law_great","_law_left","_law_delay","_law_a","_law_near","_law_ties_here","_law_k"] [x0,x1,x2] = [some x0,some x1,some x2,none,none,none,none,none,none] from rfl]
 obtain ⟨p,k,n,rfl,rfl,rfl,hp,h8,q⟩:=h
 wtm_at "gg"
 refine zis (by simp) (fun ll0 H1 n1 S1 e1=>?_)
 wtm_at "gg"
 refine zcK (n:=5) (by decide) (by decide) (fun d σ H'=>∃ (o4 o5 : Option V) (ll : Addr) (us : List V) (L : List (List Int)),σ = [some (.ref p),some (.int (n : Int)),some (.bl false),some (.ref ll),o4,o5,none,none,none] /\ zaf H H' /\ H ll = none /\ H' ll = some (.lst us) /\ IsAll K H' us (L.map TZ) /\ zd1 n d 0 L)
   ⟨_,_,ll0,[],[],rfl,S1,n1,e1,.nil,⟨by simp,List.nodup_nil,by simp,by simp⟩⟩ ?_ ?_
 . rintro d σ H2 hd ⟨o4,o5,ll,us,L,rfl,S2,nl,e2,t2,T2⟩
   have hd5 : d < 5:=hd
   wtm_at "gg"
   refine zcK (n:=(n : Int)) (by omega) (by omega) (fun a σ H'=>∃ (o5 : Option V) (ll : Addr) (us : List V) (L : List (List Int)),σ = [some (.ref p),some (.int (n : Int)),some (.bl false),some (.ref ll),some (.int (d : Int)),o5,none,none,none] /\ zaf H H' /\ H ll = none /\ H' ll = some (.lst us) /\ IsAll K H' us (L.map TZ) /\ zd1 n d a L)
     ⟨_,ll,us,L,rfl,S2,nl,e2,t2,T2⟩ ?_ ?_
   . rintro a σ H3 ha ⟨o5,ll,us,L,rfl,S3,nl,e3,t3,T3⟩
     have ha : a < n:=by omega
     wtm_at "gg"
     refine zch (n:=(n : Int)) (by omega) (by omega) (fun D j ys σ' H'=>(∃ o,σ' = [o,some (.int (a : Int)),some (.int (d : Int))]) /\ H3 D = none /\ zaf H3 H' /\ H' D = some (.lst ys) /\ IsAll K H' ys ((zcp a d j).map TZ)) (fun D H' n s e=>⟨⟨_,rfl⟩,n,s,e,.nil⟩) ?_ ?_
     . rintro D j ys σ' H4 hj ⟨⟨o,rfl⟩,nD,S4,eD,t4⟩
       have hj : j < n:=by omega
       have hyl : ys.length <= j:=by
         have:=t4.length
         rw [List.length_map] at this
         have:=zeq a d j
         omega
       wtm_at "gg"
       . rename_i z
         refine zaQ (ds:=[.int (a : Int),.int (j : Int),.int (d : Int)]) (by simp) (.cons (zaT.mpr rfl) (.cons (zaT.mpr rfl) (.cons (zaT.mpr rfl) .nil))) (fun v5 H5 S5 i5=>?_)
         refine zbA (S5 _ _ eD) (by omega) (fun H6 E6 e6=>⟨⟨_,rfl⟩,nD,(S4.trans S5).grow nD E6,e6,?_⟩)
         have k6:=E6.keep (S5 _ _ eD)
         rw [zfN,if_neg (by intro e; exact z (by omega)),List.map_append]
         exact (IsAll.keep (S5.keep.trans k6) _ _ (za3 _) t4).append (.cons (Is.thruI (ns:=[(a : Int),(j : Int),(d : Int)]) i5 k6) .nil)
       . rename_i z
         refine ⟨ys,⟨_,rfl⟩,nD,S4,eD,?_⟩
         rw [zfN,if_pos (by omega),List.append_nil]
         exact t4
     . rintro D ys σ' H4 ⟨_,nD,S4,eD,t4⟩
       rw [Int.toNat_natCast] at t4
       have hyl : ys.length <= n:=by
         have:=t4.length
         rw [List.length_map] at this
         have:=zeq a d n
         omega
       have hul : us.length = L.length:=by rw [t3.length,List.length_map]
       have hLl:=T3.len
       wtm_at "gg"
       refine zfV (S4 _ _ e3) eD (Nat.le_of_lt (zbH (by omega))) (fun l5 H5 n5 S5 e5=>?_)
       have S35:=S4.trans S5
       wtm_at "gg"
       refine ⟨_,l5,us ++ ys,L ++ zcp a d n,rfl,S3.trans S35,zfn (S3.trans S4) n5,e5,?_,T3.row h8 ha (by omega)⟩
       rw [List.map_append]
       exact (IsAll.same S35 _ _ t3).append (IsAll.same S5 _ _ t4)
   . rintro σ H3 ⟨o5,ll,us,L,rfl,S3,nl,e3,t3,T3⟩
     refine ⟨_,_,ll,us,L,rfl,S3,nl,e3,t3,?_⟩
     exact T3.up h8
 . rintro σ H2 ⟨o4,o5,ll,us,L,rfl,S2,nl,e2,t2,T2⟩
   have hLl:=T2.len
   have hul : us.length = L.length:=by rw [t2.length,List.length_map]
   have P2:=hp.same S2
   have nlp : ll ≠ p:=Pen.ne nl hp
   wtm_at "ga"
   rename_i l3 H3 n3 S3 e3 r4 H4 r40 r41 E4 K4 P4 near hnear lt H5 n5 S5 e5
   have nltp : lt ≠ p:=Pen.ne n5 P4
   have E25 : Exc p H2 H5:=S3.exc.trans (E4.trans S5.exc)
   have K25 : za7 H2 H5:=S3.keep.trans (K4.trans S5.keep)
   have el5:=E25.at nlp e2
   have t5 : IsAll K H5 us (L.map TZ):=IsAll.keep K25 _ _ (za3 _) t2
   have P5:=P4.same S5
   have E05 : Exc p H H5:=S2.exc.trans E25
   have K05 : za7 H H5:=S2.keep.trans K25
   have nlt0 : H lt = none:=by
     cases z : H lt with
     | none=>rfl
     | some o=>rw [(S2.exc.trans (S3.exc.trans E4)) lt o nltp z] at n5; cases n5
   have nll : ll ≠ lt:=fun z=>by
     subst z
     rw [(S3.exc.trans E4).at nlp e2] at n5
     cases n5
   clear S3 E4 K4 P4 S5 e3 n3 E25 K25 n5
   refine zb8 (.of el5) ?_
   wtm_at "ga"
   rename_i l6 H6 n6 S6 e6 r7 H7 r70 r71 E7 K7 P7 c7 c71 c72 c73
   have E57 : Exc p H5 H7:=S6.exc.trans E7
   have K57 : za7 H5 H7:=S6.keep.trans K7
   have el7:=E57.at nlp el5
   have et7:=E57.at nltp e5
   have t7 : IsAll K H7 us (L.map TZ):=IsAll.keep K57 _ _ (za3 _) t5
   have E07:=E05.trans E57
   have K07:=K05.trans K57
   clear S6 E7 K7 e6 n6 E57 K57 el5 e5 t5 E05 K05 P5
   refine zcK (n:=c7) (by omega) (by omega) (fun i σ H'=>∃ (o8 : Option V) (us vs : List V) (L T : List (List Int)),σ = [some (.ref p),some (.int (n : Int)),some (.bl false),some (.ref ll),o4,o5,some (.int near),some (.ref lt),o8] /\ (∀ b o,b ≠ p -> H b = some o -> H' b = some o) /\ za7 H H' /\ Pen H' p k /\ H' ll = some (.lst us) /\ H' lt = some (.lst vs) /\ IsAll K H' us (L.map TZ) /\ IsAll K H' vs (T.map TZ) /\ (∀ t ∈ T ++ L,zcD n t) /\ (T ++ L).Nodup /\ T.length = i /\ c7 <= (L.length : Int) + i /\ L.length <= 280)
     ⟨_,us,[],L,[],rfl,E07,K07,P7,el7,et7,t7,.nil,T2.ok,T2.nd,rfl,by omega,by omega⟩ ?_ ?_
   . rintro i σ H8 hi ⟨o8,us,vs,L,T,rfl,X8,K8,P8,el8,et8,tl8,tt8,ok8,nd8,hT8,hc8,hL8⟩
     have hul : us.length = L.length:=by rw [tl8.length,List.length_map]
     have hvl : vs.length = T.length:=by rw [tt8.length,List.length_map]
     have hi60 : i < 61:=by omega
     have hL1 : 1 <= L.length:=by omega
     wtm_at "gg"
     refine zdC (.of et8) ?_
     wtm_at "gg"
     refine zdC (.of el8) ?_
     wtm_at "gg"
     refine zb8 (.of el8) ?_
     rw [hul]
     have hq : 0 <= ((L.length : Int) - 1).fdiv near /\ ((L.length : Int) - 1).fdiv near <= (L.length : Int) - 1:=by
       rcases hnear with rfl | rfl
       . rw [Int.fdiv_one]; omega
       . rw [Int.fdiv_eq_ediv_of_nonneg _ (by decide)]; omega
     generalize hqq : ((L.length : Int) - 1).fdiv near = qq at hq
     wtm_at "gg"
     refine znu ⟨by omega,(Bd.of128 (by omega) (by omega)).mono (by decide)⟩ ?_
     rw [hqq]
     wtm_at "gg"
     rename_i r9 H9 r90 r91 E9 K9 P9
     have el9:=E9.at nlp el8
     have et9:=E9.at nltp et8
     refine znf el9 r90 (by omega) (by omega) (fun y H10 hy E10 e10=>?_)
     have hr : r9.toNat < L.length:=by omega
     have K10:=E10.keep el9
     have et10:=E10.at (Ne.symm nll) et9
     wtm_at "gg"
     refine zb0 et10 (by omega) (fun H11 E11 e11=>?_)
     have K11:=E11.keep et10
     have K811:=K9.trans (K10.trans K11)
     wtm_at "gg"
     obtain ⟨hj,iy⟩:=zcC tl8 hy
     have iy' : Is K H8 y (TZ L[r9.toNat]):=by
       rw [List.getD_eq_getElem?_getD,List.getElem?_map,List.getElem?_eq_getElem hr] at iy
       exact iy
     have pm : (L[r9.toNat] :: L.eraseIdx r9.toNat).Perm L:=L2.erase_perm L r9.toNat hr
     have pm2 : ((T ++ [L[r9.toNat]]) ++ L.eraseIdx r9.toNat).Perm (T ++ L):=by
       rw [List.append_assoc]
       exact List.Perm.append_left T pm
     refine ⟨_,us.eraseIdx r9.toNat,vs ++ [y],L.eraseIdx r9.toNat,T ++ [L[r9.toNat]],rfl,fun b o hb h=>?_,K8.trans K811,?_,E11.at nll e10,e11,?_,?_,fun t ht=>ok8 t (pm2.mem_iff.mp ht),pm2.nodup_iff.mpr nd8,by rw [List.length_append,hT8]; rfl,?_,?_⟩
     . exact E11 b o (zaz h nlt0) (E10 b o (zaz h nl) (E9 b o hb (X8 b o hb h)))
     . exact (P9.exc E10 (Ne.symm nlp)).exc E11 (Ne.symm nltp)
     . rw [<- zfh]
       exact IsAll.keep K811 _ _ (by rw [zfh]; exact za3 _) (tl8.erase _)
     . rw [List.map_append]
       exact (IsAll.keep K811 _ _ (za3 _) tt8).append (.cons (iy'.thruI K811) .nil)
     . rw [List.length_eraseIdx,if_pos hr]; omega
     . rw [List.length_eraseIdx,if_pos hr]; omega
   . rintro σ H8 ⟨o8,us,vs,L,T,rfl,X8,K8,P8,el8,et8,tl8,tt8,ok8,nd8,hT8,hc8,hL8⟩
     wtm_at "gg"
     exact q lt H8 vs T X8 K8 P8 et8 tt8 (fun t ht=>ok8 t (List.mem_append_left _ ht)) (List.nodup_append.mp nd8).1 (by rw [hT8]; omega)
def zgH (K : PySem.W.Frag) : Sp:=fun vs H Q _=>∃ x0 x1,vs = [x0,x1] /\ ∃ (p : Addr) (k m : Int),x0 = .ref p /\ x1 = .int m /\ Pen H p k /\ 1 <= m /\ m <= 8 /\ ∀ v H' rs us ts,Exc p H H' -> za7 H H' -> Pen H' p k -> Is K H' v (zbb rs us ts) -> zaN rs us ts -> (rs.length : Int) <= m -> ts.length <= 8 -> Q v H'
theorem zj3 {K : PySem.W.Frag} {H : Hp} {Q : VK} {E : XK} {p : Addr} {k m : Int} (h : Pen H p k) (h1 : 1 <= m) (h8 : m <= 8) (q : ∀ v H' rs us ts,Exc p H H' -> za7 H H' -> Pen H' p k -> Is K H' v (zbb rs us ts) -> zaN rs us ts -> (rs.length : Int) <= m -> ts.length <= 8 -> Q v H') : zgH K [.ref p,.int m] H Q E:=⟨_,_,rfl,p,k,m,rfl,rfl,h,h1,h8,q⟩
structure zlD (rs : List Int) (us : List (List Int)) : Prop where
 l : us.length <= rs.length
 u : ∀ i,i < us.length -> ((us.getD i []).length : Int) = rs.getD i 0 /\ ∀ x ∈ us.getD i [],0 <= x /\ x <= 60
theorem znA {α : Type} {xs : List α} {x d : α} {i : Nat} (h : i < xs.length + 1) : (xs ++ [x]).getD i d = if i < xs.length then xs.getD i d else x:=by
 rw [List.getD_eq_getElem?_getD,List.getElem?_append]
 split
 . rw [List.getD_eq_getElem?_getD]
 . have : i - xs.length = 0:=by omega
   rw [this]; rfl
theorem zlD.add {rs : List Int} {us : List (List Int)} {u : List Int} (h : zlD rs us) (hl : us.length < rs.length) (h1 : (u.length : Int) = rs.getD us.length 0) (h2 : ∀ x ∈ u,0 <= x /\ x <= 60) : zlD rs (us ++ [u]):=by
 refine ⟨by rw [List.length_append]; exact hl,fun i hi=>?_⟩
 rw [List.length_append,List.length_singleton] at hi
 rw [znA hi]
 split
 . rename_i z; exact h.u i z
 . rename_i z
   have e : i = us.length:=by omega
   subst e
   exact ⟨h1,h2⟩
set_option maxHeartbeats 4000000 in
theorem zkg (T : Txt K mg a) : zbr P w K mg base CX0 3 a.law_web a.fd_law_web ["_law_pen_here","_law_most"] (zgH K):=by
 refine T.F_law_web.ok zcl (fun vs H Q E h=>by obtain ⟨_,_,rfl,_⟩:=h; rfl) (fun cdv A outer s H vs Q E hr h=>?_)
 obtain ⟨x0,x1,rfl,h⟩:=h
 have hu:=hr.units
 refine ⟨_,(zae (zap (i:=2) zcl.nd rfl (Or.inl rfl) (zaq zaR zad (zag (za1 T) (hr.mono (by decide)) rfl T.g_law_draw T.F_law_draw.kp T.b_law_draw .nil zat (zaa (pv 0) (zaa (pv 1) zab)))))
     (zae (zcP (i:=3) zcl.nd rfl (Or.inl rfl) rfl (zaL.by (N':=["_law_k","_law_pen_here"]) (src:=[none,some 0]) rfl (show zaF _ (zac zb1).names ["_law_pen_here","_law_most","_law_many","_law_sizes","_law_ups","_law_size","_law_high"] ["_law_k","_law_pen_here"] [none,some 0] = true from by decide +kernel)) (zbd rfl T.z_range (zaa (pv 2) zab)) (fun _ _ _ _ _=>(zak (i:=0) (show (["_law_k","_law_pen_here"] : List Str).Nodup from by decide) rfl (Or.inl rfl))) (fun _ _ _ _ _=>zaY) (fun _ _ _ _ _=>by exact (zaq zaR zad (zag (za1 (K:=K) (mg:=mg) (a:=a) T) (hr.mono (by decide)) rfl T.g_law_draw T.F_law_draw.kp T.b_law_draw .nil zat (zaa (pv 1) (zaa zad zab))))))
     (zae (zap (i:=4) zcl.nd rfl (Or.inl rfl) (zbs zab))
     (zae (zcy PassesOwn.never rfl (zcq (pv 3)) (zak (i:=5) zcl.nd rfl (Or.inl rfl)) (zae (zap (i:=6) zcl.nd rfl (Or.inr rfl) (zal zah (zbs (zaa zad (zaa (zam (show zaj _ (.builtin "min") zlk from zhR rfl) rfl T.z_min znm (zaa (zaq zaR (pv 5) zad) (zaa zad zab))) (zaa zad (zaa zad zab))))) (zag (za1 T) (hr.mono (by decide)) rfl T.g_law_draw T.F_law_draw.kp T.b_law_draw .nil zat (zaa (pv 0) (zaa zad zab))) (fun _ _=>rfl)))
     (zai (zc7 (zeV PySem.F.plainAttrs_list PySem.F.slot_list_append PySem.F.type_list_append zbL (pv 4) (zaa (zan (show zaj _ (.type "tuple") (zas K) from zao) rfl T.z_tuple zaG (zaa (zaU rfl (zaL.by (N':=["_law_p","_law_pen_here","_law_high"]) (src:=[none,some 0,some 6]) rfl (show zaF _ (zac zb1).names ["_law_pen_here","_law_most","_law_many","_law_sizes","_law_ups","_law_size","_law_high"] ["_law_p","_law_pen_here","_law_high"] [none,some 0,some 6] = true from by decide +kernel)) (zbd rfl T.z_range (zaa (pv 5) zab)) (fun _ _ _ _ _=>(zak (i:=0) (show (["_law_p","_law_pen_here","_law_high"] : List Str).Nodup from by decide) rfl (Or.inl rfl))) (fun _ _ _ _ _=>zaY) (fun _ _ _ _ _=>by exact (zag (za1 (K:=K) (mg:=mg) (a:=a) T) (hr.mono (by decide)) rfl T.g_law_draw T.F_law_draw.kp T.b_law_draw .nil zat (zaa (pv 1) (zaa (pv 2) zab))))) zab)) zab))))))
     (zai (zaB (zaS (zaa (zan (show zaj _ (.type "tuple") (zas K) from zao) rfl T.z_tuple zaG (zaa (pv 3) zab)) (zaa (zan (show zaj _ (.type "tuple") (zas K) from zao) rfl T.z_tuple zaG (zaa (pv 4) zab)) (zaa (zan (show zaj _ (.type "tuple") (zas K) from zao) rfl T.z_tuple zaG (zaa (zag (zjf T) (hr.mono (by decide)) rfl T.g_law_ties T.F_law_ties.kp T.b_law_ties .nil zat (zaa (pv 0) (zaa (pv 2) (zaa zeC zab)))) zab)) zab)))))))))),?_⟩
 clear hu
 try clear hgd
 try dsimp only [zbp,zbc]
 rw [show start ["_law_pen_here","_law_most","_law_many","_law_sizes","_law_ups","_law_size","_law_high"] [x0,x1] = [some x0,some x1,none,none,none,none,none] from rfl]
 obtain ⟨p,k,m,rfl,rfl,hp,m1,m8,q⟩:=h
 wtm_at "ga"
 rename_i r3 H3 r30 r31 E3 K3 P3
 obtain ⟨n,hn⟩ : ∃ n : Nat,1 + r3 = (n : Int):=⟨(1 + r3).toNat,by omega⟩
 rw [hn]
 have n1 : 1 <= n:=by omega
 have n8 : n <= 8:=by omega
 have n4 : (n : Int) <= m:=by omega
 have E03 : Exc p H H3:=E3
 have K03 : za7 H H3:=K3
 clear E3 K3 r30 r31 hn
 refine zch (n:=(n : Int)) (by omega) (by omega) (fun D i ys σ' H'=>(∃ o,σ' = [o,some (.ref p)]) /\ H3 D = none /\ Exc p H3 H' /\ za7 H3 H' /\ Pen H' p k /\ ∃ rs : List Int,H' D = some (.lst (rs.map V.int)) /\ rs.length = i /\ ∀ r ∈ rs,1 <= r /\ r <= 60) (fun D H' n s e=>⟨⟨_,rfl⟩,n,s.exc,s.keep,P3.same s,[],e,rfl,by simp⟩) ?_ ?_
 . rintro D i ys σ' H4 hi ⟨⟨o,rfl⟩,nD,E4,K4,P4,rs,eD,hl,hr⟩
   have hi8 : i < n:=by omega
   have nDp : D ≠ p:=Pen.ne nD P3
   wtm_at "ga"
   rename_i r6 H6 r60 r61 E6 K6 P6
   have eD6:=E6.at nDp eD
   refine zbA eD6 (by rw [List.length_map]; omega) (fun H7 E7 e7=>⟨⟨_,rfl⟩,nD,fun b o hb h=>?_,K4.trans (K6.trans (E7.keep eD6)),P6.exc E7 (Ne.symm nDp),rs ++ [1 + r6],by rw [List.map_append]; exact e7,by rw [List.length_append,hl]; rfl,fun r hm=>?_⟩)
   . exact E7 b o (zaz h nD) (E6 b o hb (E4 b o hb h))
   . rcases List.mem_append.mp hm with h | h
     . exact hr r h
     . rw [List.mem_singleton.mp h]; omega
 . rintro ls ys σ' H4 ⟨_,nls,E4,K4,P4,rs,els,hl,hr⟩
   rw [Int.toNat_natCast] at hl
   have nlsp : ls ≠ p:=Pen.ne nls P3
   have E04:=E03.trans E4
   have K04:=K03.trans K4
   have nls0 : H ls = none:=by
     cases z : H ls with
     | none=>rfl
     | some o=>rw [E03 ls o nlsp z] at nls; cases nls
   clear E4 K4 P3 nls E03 K03
   wtm_at "ga"
   rename_i lu H5 n5 S5 e5
   have nlup : lu ≠ p:=Pen.ne n5 P4
   have nlu : ls ≠ lu:=fun z=>by subst z; rw [els] at n5; cases n5
   have nlu0 : H lu = none:=by
     cases z : H lu with
     | none=>rfl
     | some o=>rw [E04 lu o nlup z] at n5; cases n5
   have els5:=S5 _ _ els
   refine zh3 (SqL.of els5) (fun i σ H'=>∃ (o6 o7 : Option V) (us : List V) (u : List (List Int)),σ = [some (.ref p),some (.int m),some (.int (n : Int)),some (.ref ls),some (.ref lu),o6,o7] /\ (∀ b o,b ≠ p -> H b = some o -> H' b = some o) /\ za7 H H' /\ Pen H' p k /\ H' ls = some (.lst (rs.map V.int)) /\ H' lu = some (.lst us) /\ IsAll K H' us (u.map TZ) /\ u.length = i /\ zlD rs u)
     ⟨_,_,[],[],rfl,E04.trans S5.exc,K04.trans S5.keep,P4.same S5,els5,e5,.nil,rfl,⟨by simp,by simp⟩⟩ (fun i σ H' _ ⟨_,_,_,_,_,_,_,_,e,_⟩=>.of e) ?_ ?_
   . rintro i x σ H6 hx ⟨o6,o7,us,u,rfl,X6,K6,P6,els6,elu6,t6,hu6,U6⟩
     obtain ⟨hi,rfl⟩:=int_at hx
     have hul : us.length = u.length:=by rw [t6.length,List.length_map]
     have hri:=hr (rs.getD i 0) (GM.getD_mem hi)
     generalize hri' : rs.getD i 0 = r at *
     obtain ⟨c,rfl⟩:=Int.eq_ofNat_of_zero_le (show 0 <= r by omega)
     wtm_at "ga"
     rename_i b1 b2 b3 b4 l7 H7 n7 S7 e7 r8 H8 r80 r81 E8 K8 P8 hi9 hhi9
     have h9 : 1 <= hi9 /\ hi9 <= 61:=by omega
     have X8 : ∀ b o,b ≠ p -> H b = some o -> H8 b = some o:=fun b o hb h=>E8 b o hb (S7 b o (X6 b o hb h))
     have K68:=S7.keep.trans K8
     have els8:=E8.at nlsp (S7 _ _ els6)
     have elu8:=E8.at nlup (S7 _ _ elu6)
     have t8 : IsAll K H8 us (u.map TZ):=IsAll.keep K68 _ _ (za3 _) t6
     have K08:=K6.trans K68
     clear S7 E8 K8 e7 n7 hhi9 r80 r81 t6 X6 K6 P6 els6 elu6 K68
     refine zdC (.of elu8) ?_
     wtm_at "gg"
     refine zch (n:=(c : Int)) (by omega) (by omega) (fun D j ys σ' H'=>(∃ o,σ' = [o,some (.ref p),some (.int hi9)]) /\ H8 D = none /\ Exc p H8 H' /\ za7 H8 H' /\ Pen H' p k /\ ∃ ws : List Int,H' D = some (.lst (ws.map V.int)) /\ ws.length = j /\ ∀ x ∈ ws,0 <= x /\ x <= 60) (fun D H' n s e=>⟨⟨_,rfl⟩,n,s.exc,s.keep,P8.same s,[],e,rfl,by simp⟩) ?_ ?_
     . rintro D j ys σ' H9 hj ⟨⟨o,rfl⟩,nD,E9,K9,P9,ws,eD,hwl,hw⟩
       have nDp : D ≠ p:=Pen.ne nD P8
       wtm_at "gg"
       rename_i r10 H10 r100 r101 E10 K10 P10
       have eD10:=E10.at nDp eD
       refine zbA eD10 (by rw [List.length_map]; omega) (fun H11 E11 e11=>⟨⟨_,rfl⟩,nD,fun b o hb h=>?_,K9.trans (K10.trans (E11.keep eD10)),P10.exc E11 (Ne.symm nDp),ws ++ [r10],by rw [List.map_append]; exact e11,by rw [List.length_append,hwl]; rfl,fun x hm=>?_⟩)
       . exact E11 b o (zaz h nD) (E10 b o hb (E9 b o hb h))
       . rcases List.mem_append.mp hm with h | h
         . exact hw x h
         . rw [List.mem_singleton.mp h]; omega
     . rintro D ys σ' H9 ⟨_,nD,E9,K9,P9,ws,eD,hwl,hw⟩
       rw [Int.toNat_natCast] at hwl
       have nDp : D ≠ p:=Pen.ne nD P8
       wtm_at "gg"
       refine zbN (.of eD) (fun l10 H10 n10 S10 e10=>?_)
       have elu10:=S10 _ _ (E9.at nlup elu8)
       wtm_at "gg"
       refine zb0 elu10 (by omega) (fun H11 E11 e11=>?_)
       have K11:=E11.keep elu10
       have K811:=K9.trans (S10.keep.trans K11)
       wtm_at "gg"
       refine ⟨_,_,us ++ [.ref l10],u ++ [ws],rfl,fun b o hb h=>?_,K08.trans K811,(P9.same S10).exc E11 (Ne.symm nlup),E11.at nlu (S10 _ _ (E9.at nlsp els8)),e11,?_,by rw [List.length_append,hu6]; rfl,U6.add (by omega) (by rw [hwl,hu6,hri']) hw⟩
       . exact E11 b o (zaz h nlu0) (S10 b o (E9 b o hb (X8 b o hb h)))
       . rw [List.map_append]
         exact (IsAll.keep K811 _ _ (za3 _) t8).append (.cons (Is.thruI (zdp.mpr ⟨l10,rfl,.of e10⟩) K11) .nil)
   . rintro σ H6 ⟨o6,o7,us,u,rfl,X6,K6,P6,els6,elu6,t6,hu6,U6⟩
     rw [List.length_map] at hu6
     wtm_at "gg"
     refine zbN (.of els6) (fun l7 H7 n7 S7 e7=>?_)
     have i7 : Is K H7 (.ref l7) (TZ rs):=zdp.mpr ⟨l7,rfl,.of e7⟩
     wtm_at "gg"
     refine za5 (zaM.mpr ⟨lu,us,rfl,.of (S7 _ _ elu6),IsAll.same S7 _ _ t6⟩) (fun w8 H8 S8 i8=>?_)
     wtm_at "gg"
     refine ziZ ((P6.same S7).same S8) n8 (fun l9 H9 vs ts E9 K9 P9 e9 t9 hok hnd h60=>?_)
     wtm_at "gg"
     refine za5 (zaM.mpr ⟨l9,vs,rfl,.of e9,t9⟩) (fun w10 H10 S10 i10=>?_)
     wtm_at "gg"
     have K810:=K9.trans S10.keep
     have i8 : Is K H8 w8 (TTr u):=i8
     have i10 : Is K H10 w10 (TTr ts):=i10
     refine zaQ (ds:=[TZ rs,TTr u,TTr ts]) (by simp) (.cons ((i7.by S8).thruI K810) (.cons (i8.byK K810 (zfT _)) (.cons i10 .nil))) (fun v11 H11 S11 i11=>?_)
     have X11 : Exc p H H11:=fun b o hb h=>S11 b o (S10 b o (E9 b o hb (S8 b o (S7 b o (X6 b o hb h)))))
     refine q v11 H11 rs u ts X11 (K6.trans (S7.keep.trans (S8.keep.trans (K810.trans S11.keep)))) ((P9.same S10).same S11) i11 ⟨by omega,by omega,hr,hu6,fun i hi=>U6.u i (by omega),Nat.le_trans h60 (by decide),?_,hnd⟩ (by omega) h60
     rw [hl]
     exact hok
def ze3 (K : PySem.W.Frag) : Sp:=fun vs H Q _=>∃ x0 x1,vs = [x0,x1] /\ ∃ (p : Addr) (k : Int) (rs : List Int) (us ts : List (List Int)),x0 = .ref p /\ Pen H p k /\ Is K H x1 (zbb rs us ts) /\ zaN rs us ts /\ ∀ v H' ps,Exc p H H' -> za7 H H' -> Pen H' p k -> Is K H' v (StD ps (zaD rs.length)) -> ps.length = rs.length -> (∀ i,i < rs.length -> 0 <= ps.getD i 0 /\ ps.getD i 0 < rs.getD i 0) -> Q v H'
theorem zib {K : PySem.W.Frag} {H : Hp} {Q : VK} {E : XK} {p : Addr} {k : Int} {v : V} {rs : List Int} {us ts : List (List Int)} (h : Pen H p k) (h1 : Is K H v (zbb rs us ts)) (ok : zaN rs us ts) (q : ∀ v H' ps,Exc p H H' -> za7 H H' -> Pen H' p k -> Is K H' v (StD ps (zaD rs.length)) -> ps.length = rs.length -> (∀ i,i < rs.length -> 0 <= ps.getD i 0 /\ ps.getD i 0 < rs.getD i 0) -> Q v H') : ze3 K [.ref p,v] H Q E:=⟨_,_,rfl,p,k,rs,us,ts,rfl,h,h1,ok,q⟩
theorem zl5 {xs : List Int} {x : Int} {i : Nat} (h : i < xs.length + 1) : (xs ++ [x]).getD i 0 = if i < xs.length then xs.getD i 0 else x:=by
 rw [List.getD_eq_getElem?_getD,List.getElem?_append]
 split
 . rw [List.getD_eq_getElem?_getD]
 . have : i - xs.length = 0:=by omega
   rw [this]; rfl
set_option maxHeartbeats 4000000 in
theorem ziw (T : Txt K mg a) : zbr P w K mg base CX0 2 a.law_begin a.fd_law_begin ["_law_pen_here","_law_web_here"] (ze3 K):=by
 refine T.F_law_begin.ok zcc (fun vs H Q E h=>by obtain ⟨_,_,rfl,_⟩:=h; rfl) (fun cdv A outer s H vs Q E hr h=>?_)
 obtain ⟨x0,x1,rfl,h⟩:=h
 have hu:=hr.units
 refine ⟨_,(zae (zap (i:=2) zcc.nd rfl (Or.inl rfl) (zag (za1 T) (hr.mono (by decide)) rfl T.g_law_draw T.F_law_draw.kp T.b_law_draw .nil zat (zaa (pv 0) (zaa zad zab))))
     (zae (zap (i:=3) zcc.nd rfl (Or.inl rfl) (zbs zab))
     (zae (zcy PassesOwn.never rfl (zgs (zal zah (pv 1) zad (fun _ _=>rfl))) (zak (i:=4) zcc.nd rfl (Or.inl rfl)) (zae (zap (i:=5) zcc.nd rfl (Or.inl rfl) (zag (za1 T) (hr.mono (by decide)) rfl T.g_law_draw T.F_law_draw.kp T.b_law_draw .nil zat (zaa (pv 0) (zaa (pv 4) zab))))
     (zai (zc7 (zeV PySem.F.plainAttrs_list PySem.F.slot_list_append PySem.F.type_list_append zbL (pv 3) (zaa (zal zah (zbs (zaa (pv 5) (zaa (pv 5) (zaa (pv 5) (zaa (pv 5) (zaa zad (zaa (zaq zfr (pv 4) zad) zab))))))) (pv 2) (fun _ _=>rfl)) zab))))))
     (zai (zaB (zaS (zaa (zan (show zaj _ (.type "tuple") (zas K) from zao) rfl T.z_tuple zaG (zaa (pv 3) zab)) (zaa (zaq (show OpR _ (binaryOp .Mult) (zgR K) from zf1) (zaS (zaa (zaq (show OpR _ (binaryOp .Mult) (zgR K) from zf1) (zaS (zaa zad zab)) (zam (show zaj _ (.builtin "len") (zcb K) from zax) rfl T.z_len za8 (zaa (pv 3) zab))) zab)) zad) zab)))))))),?_⟩
 clear hu
 try clear hgd
 try dsimp only [zbp,zbc]
 rw [show start ["_law_pen_here","_law_web_here","_law_way","_law_found","_law_size","_law_drawn"] [x0,x1] = [some x0,some x1,none,none,none,none] from rfl]
 obtain ⟨p,k,rs,us,ts,rfl,hp,hw,ok,q⟩:=h
 have n8:=ok.n8
 have n1:=ok.n1
 wtm_at "ga"
 rename_i wy H1 w0 w1 E1 K1 P1 lf H2 n2 S2 e2
 have nlp : lf ≠ p:=Pen.ne n2 P1
 have nlf0 : H lf = none:=by
   cases z : H lf with
   | none=>rfl
   | some o=>rw [E1 lf o nlp z] at n2; cases n2
 have K02:=K1.trans S2.keep
 refine zbJ (hw.thruW K02) (fun x3 i3=>?_)
 obtain ⟨ar,rfl,hsr⟩:=zdp.mp i3
 refine zmt hsr (fun i σ H'=>∃ (o4 o5 : Option V) (ps : List Int),σ = [some (.ref p),some x1,some (.int wy),some (.ref lf),o4,o5] /\ Exc p H H' /\ za7 H H' /\ za7 H2 H' /\ Pen H' p k /\ H' lf = some (.lst (ps.map V.int)) /\ ps.length = i /\ ∀ j,j < ps.length -> 0 <= ps.getD j 0 /\ ps.getD j 0 < rs.getD j 0)
   ⟨_,_,[],rfl,E1.trans S2.exc,K02,za7.refl _,P1.same S2,e2,rfl,by simp⟩ (fun i σ H' _ ⟨_,_,_,_,_,_,k,_⟩=>k.sqT hsr) ?_ ?_
 . rintro i x σ H3 hx ⟨o4,o5,ps,rfl,X3,K3,L3,P3,e3,hpl,hps⟩
   obtain ⟨hi,rfl⟩:=int_at hx
   have hr:=ok.ri hi
   wtm_at "gg"
   rename_i d4 H4 d40 d41 E4 K4 P4
   refine zdC (.of (E4.at nlp e3)) ?_
   wtm_at "ga"
   rename_i l5 H5 n5 S5 e5 z5 hz5
   have e35:=S5 _ _ (E4.at nlp e3)
   refine zb0 e35 (by rw [List.length_map]; omega) (fun H6 E6 e6=>?_)
   have k6:=E6.keep e35
   wtm_at "gg"
   refine ⟨_,_,ps ++ [z5],rfl,fun b o hb h=>E6 b o (zaz h nlf0) (S5 b o (E4 b o hb (X3 b o hb h))),K3.trans (K4.trans (S5.keep.trans k6)),L3.trans (K4.trans (S5.keep.trans k6)),(P4.same S5).exc E6 (Ne.symm nlp),by rw [List.map_append]; exact e6,by rw [List.length_append,hpl]; rfl,fun j hj=>?_⟩
   rw [List.length_append,List.length_singleton] at hj
   rw [zl5 hj]
   split
   . rename_i z; exact hps j z
   . have e : j = i:=by omega
     subst e
     omega
 . rintro σ H3 ⟨o4,o5,ps,rfl,X3,K3,L3,P3,e3,hpl,hps⟩
   rw [List.length_map] at hpl
   wtm_at "gg"
   refine zbN (.of e3) (fun l4 H4 n4 S4 e4=>?_)
   wtm_at "gg"
   refine zaQ (ds:=[.int 0]) (by simp) (.cons (zaT.mpr rfl) .nil) (fun v5 H5 S5 i5=>?_)
   wtm_at "gg"
   refine zb8 (.of (S5 _ _ (S4 _ _ e3))) ?_
   rw [List.length_map,hpl]
   refine zeT i5 (by omega) (by omega) (fun v6 H6 S6 i6=>?_)
   wtm_at "gg"
   rw [Int.toNat_natCast] at i6
   refine zaQ (ds:=[.tuple (List.replicate rs.length (.int 0))]) (by simp) (.cons i6 .nil) (fun v7 H7 S7 i7=>?_)
   wtm_at "gg"
   refine zeT i7 (by decide) (by decide) (fun v8 H8 S8 i8=>?_)
   wtm_at "gg"
   have T8:=S5.trans (S6.trans (S7.trans S8))
   have i8' : Is K H8 v8 (TTr (zaD rs.length)):=by
     unfold TTr zaD TZ
     rw [List.map_replicate,List.map_replicate]
     exact i8
   have i4 : Is K H8 (.ref l4) (TZ ps):=zdp.mpr ⟨l4,rfl,.of (T8 _ _ e4)⟩
   refine zaQ (ds:=[TZ ps,TTr (zaD rs.length)]) (by simp) (.cons i4 (.cons i8' .nil)) (fun v9 H9 S9 i9=>?_)
   have T9:=S4.trans (T8.trans S9)
   exact q v9 H9 ps (X3.trans T9.exc) (K3.trans T9.keep) (P3.same T9) i9 hpl (fun i hi=>hps i (by omega))
def shT (n : Nat) (t : List Int) : List Int:=[t.getD 0 0 + (n : Int),t.getD 1 0 + (n : Int),t.getD 2 0]
structure zfb (n m : Nat) (g g1 g2 : List Nat) : Prop where
 a : ∀ w,w < n -> (w ∈ g ↔ w ∈ g1)
 b : ∀ w,w < m -> (n + w ∈ g ↔ w ∈ g2)
theorem zby {α : Type} {xs ys : List α} {d : α} {i : Nat} (h : i < xs.length) : (xs ++ ys).getD i d = xs.getD i d:=by
 rw [List.getD_eq_getElem?_getD,List.getElem?_append_left h,List.getD_eq_getElem?_getD]
theorem zbh {α : Type} {xs ys : List α} {d : α} {n i : Nat} (h : xs.length = n) : (xs ++ ys).getD (n + i) d = ys.getD i d:=by
 rw [List.getD_eq_getElem?_getD,List.getElem?_append_right (by omega),show n + i - xs.length = i from by omega,List.getD_eq_getElem?_getD]
theorem zeY (g : List Nat) (w d a b c : Nat) : zdK g w d [(a : Int),(b : Int),(c : Int)] = (decide (a ∈ g) && (decide (b = w) && decide (c = d))):=by
 unfold zdK
 have e0 : (([(a : Int),(b : Int),(c : Int)] : List Int).getD 0 0).toNat = a:=by simp
 rw [e0]
 show (_ && (decide ((b : Int) = (w : Int)) && decide ((c : Int) = (d : Int)))) = _
 rw [show decide ((b : Int) = (w : Int)) = decide (b = w) from decide_eq_decide.mpr (by omega),show decide ((c : Int) = (d : Int)) = decide (c = d) from decide_eq_decide.mpr (by omega)]
theorem zd3 (n a b c : Nat) : shT n [(a : Int),(b : Int),(c : Int)] = [((a + n : Nat) : Int),((b + n : Nat) : Int),(c : Int)]:=by
 unfold shT
 simp
theorem zjM {ts ts' : List (List Int)} (p : ts.Perm ts') (g : List Nat) (w d : Nat) : zcd ts g w d = zcd ts' g w d:=(p.filter _).length_eq
section
variable {n m : Nat} {ts ts1 ts2 : List (List Int)} {g g1 g2 : List Nat} (hp : ts.Perm (ts1 ++ ts2.map (shT n))) (o1 : ∀ t ∈ ts1,zcD n t) (o2 : ∀ t ∈ ts2,zcD m t) (sp : zfb n m g g1 g2)
include hp o1 o2 sp
theorem zi8 {w : Nat} (hw : w < n) (d : Nat) : zcd ts g w d = zcd ts1 g1 w d:=by
 rw [zjM hp,<- zj0 o1 sp.a w d]
 unfold zcd
 rw [List.filter_append,List.length_append]
 have : (ts2.map (shT n)).filter (zdK g w d) = []:=by
   rw [List.filter_eq_nil_iff]
   intro t ht
   obtain ⟨u,hu,rfl⟩:=List.mem_map.mp ht
   obtain ⟨a,b,c,rfl,_⟩:=o2 u hu
   rw [zd3,zeY]
   intro z
   simp only [Bool.and_eq_true,decide_eq_true_eq] at z
   omega
 rw [this]
 rfl
theorem zhB {w : Nat} (hw : w < m) (d : Nat) : zcd ts g (n + w) d = zcd ts2 g2 w d:=by
 rw [zjM hp]
 unfold zcd
 rw [List.filter_append,List.length_append]
 have h1 : ts1.filter (zdK g (n + w) d) = []:=by
   rw [List.filter_eq_nil_iff]
   intro t ht
   obtain ⟨a,b,c,rfl,_,hb,_⟩:=o1 t ht
   rw [zeY]
   intro z
   simp only [Bool.and_eq_true,decide_eq_true_eq] at z
   omega
 rw [h1,List.filter_map,List.length_map,List.length_nil,Nat.zero_add]
 congr 1
 refine List.filter_congr fun t ht=>?_
 obtain ⟨a,b,c,rfl,ha,_⟩:=o2 t ht
 show zdK g (n + w) d (shT n [(a : Int),(b : Int),(c : Int)]) = _
 rw [zd3,zeY,zeY]
 have e1:=sp.b a ha
 rw [show n + a = a + n from Nat.add_comm _ _] at e1
 rw [show decide (a + n ∈ g) = decide (a ∈ g2) from decide_eq_decide.mpr e1,show decide (b + n = n + w) = decide (b = w) from decide_eq_decide.mpr (by omega)]
end
def zce (n : Nat) (xs ys : List (List Nat)) : List (List Nat):=(List.range (max xs.length ys.length)).map fun k=>xs.getD k [] ++ (ys.getD k []).map (n + ·)
theorem zl6 (n : Nat) (x y : List Nat) (xs ys : List (List Nat)) : zce n (x :: xs) (y :: ys) = (x ++ y.map (n + ·)) :: zce n xs ys:=by
 unfold zce
 rw [List.length_cons,List.length_cons,show max (xs.length + 1) (ys.length + 1) = max xs.length ys.length + 1 from by omega,List.range_succ_eq_map,List.map_cons,List.map_map]
 rfl
theorem zmj (n : Nat) (x : List Nat) (xs : List (List Nat)) : zce n (x :: xs) [] = x :: zce n xs []:=by
 unfold zce
 rw [List.length_cons,List.length_nil,show max (xs.length + 1) 0 = max xs.length 0 + 1 from by omega,List.range_succ_eq_map,List.map_cons,List.map_map]
 congr 1
 show x ++ [] = x
 exact List.append_nil _
theorem zkG (n : Nat) (y : List Nat) (ys : List (List Nat)) : zce n [] (y :: ys) = y.map (n + ·) :: zce n [] ys:=by
 unfold zce
 rw [List.length_cons,List.length_nil,show max 0 (ys.length + 1) = max 0 ys.length + 1 from by omega,List.range_succ_eq_map,List.map_cons,List.map_map]
 rfl
theorem zon {n : Nat} {xs ys : List (List Nat)} : zce n xs ys = [] ↔ xs = [] /\ ys = []:=by
 unfold zce
 rw [List.map_eq_nil_iff,List.range_eq_nil,<- List.length_eq_zero_iff,<- List.length_eq_zero_iff]
 omega
structure zfc (rs1 rs2 : List Int) (us1 us2 ts ts1 ts2 : List (List Int)) : Prop where
 w1 : zaN rs1 us1 ts1
 w2 : zaN rs2 us2 ts2
 p : ts.Perm (ts1 ++ ts2.map (shT rs1.length))
section
variable {rs1 rs2 : List Int} {us1 us2 ts ts1 ts2 : List (List Int)} (S : zfc rs1 rs2 us1 us2 ts ts1 ts2) {ps1 ps2 cs1 cs2 : List Int} (hp1 : ps1.length = rs1.length) (hc1 : cs1.length = rs1.length) {g g1 g2 : List Nat} (sp : zfb rs1.length rs2.length g g1 g2)
include S hp1 hc1 sp
theorem zlc {w : Nat} (hw : w < rs1.length) : phG (rs1 ++ rs2) (us1 ++ us2) ts (ps1 ++ ps2) (cs1 ++ cs2) g w = phG rs1 us1 ts1 ps1 cs1 g1 w:=by
 unfold phG
 rw [zby hw,zby (by rw [S.w1.ul]; exact hw),zby (by omega),zby (by omega),zi8 S.p S.w1.t S.w2.t sp hw]
theorem zjI {w : Nat} (hw : w < rs2.length) : phG (rs1 ++ rs2) (us1 ++ us2) ts (ps1 ++ ps2) (cs1 ++ cs2) g (rs1.length + w) = phG rs2 us2 ts2 ps2 cs2 g2 w:=by
 unfold phG
 rw [zbh rfl,zbh S.w1.ul,zbh hp1,zbh hc1,zhB S.p S.w1.t S.w2.t sp hw]
theorem zgY : GM.fresh (rs1 ++ rs2) (us1 ++ us2) ts (ps1 ++ ps2) (cs1 ++ cs2) g = GM.fresh rs1 us1 ts1 ps1 cs1 g1 ++ (GM.fresh rs2 us2 ts2 ps2 cs2 g2).map (rs1.length + ·):=by
 unfold GM.fresh
 rw [List.length_append,List.range_add,List.filter_append,List.filter_map]
 congr 1
 . refine List.filter_congr fun w hw=>?_
   have hw:=List.mem_range.mp hw
   rw [zby hw,zlc S hp1 hc1 sp hw,show decide (w ∈ g) = decide (w ∈ g1) from decide_eq_decide.mpr (sp.a w hw)]
 . congr 1
   refine List.filter_congr fun w hw=>?_
   have hw:=List.mem_range.mp hw
   show (!decide (rs1.length + w ∈ g) && decide ((rs1 ++ rs2).getD (rs1.length + w) 0 <= _)) = _
   rw [zbh rfl,zjI S hp1 hc1 sp hw,show decide (rs1.length + w ∈ g) = decide (w ∈ g2) from decide_eq_decide.mpr (sp.b w hw)]
theorem zkB : zfb rs1.length rs2.length (g ++ GM.fresh (rs1 ++ rs2) (us1 ++ us2) ts (ps1 ++ ps2) (cs1 ++ cs2) g) (g1 ++ GM.fresh rs1 us1 ts1 ps1 cs1 g1) (g2 ++ GM.fresh rs2 us2 ts2 ps2 cs2 g2):=by
 rw [zgY S hp1 hc1 sp]
 refine ⟨fun w hw=>?_,fun w hw=>?_⟩
 . rw [List.mem_append,List.mem_append,List.mem_append,sp.a w hw]
   have : w ∉ (GM.fresh rs2 us2 ts2 ps2 cs2 g2).map (rs1.length + ·):=fun z=>by
     obtain ⟨v,_,e⟩:=List.mem_map.mp z
     have e : rs1.length + v = w:=e
     omega
   constructor
   . rintro (h | h | h)
     . exact .inl h
     . exact .inr h
     . exact absurd h this
   . rintro (h | h)
     . exact .inl h
     . exact .inr (.inl h)
 . rw [List.mem_append,List.mem_append,List.mem_append,sp.b w hw]
   have h1 : rs1.length + w ∉ GM.fresh rs1 us1 ts1 ps1 cs1 g1:=fun z=>by
     have:=(zdU z).1
     omega
   have h2 : rs1.length + w ∈ (GM.fresh rs2 us2 ts2 ps2 cs2 g2).map (rs1.length + ·) ↔ w ∈ GM.fresh rs2 us2 ts2 ps2 cs2 g2:=by
     rw [List.mem_map]
     constructor
     . rintro ⟨v,hv,e⟩
       have e : rs1.length + v = rs1.length + w:=e
       have : v = w:=by omega
       rw [<- this]; exact hv
     . exact fun h=>⟨w,h,rfl⟩
   rw [h2]
   constructor
   . rintro (h | h | h)
     . exact .inl h
     . exact absurd h h1
     . exact .inr h
   . rintro (h | h)
     . exact .inl h
     . exact .inr (.inr h)
end
theorem zgK {rs1 rs2 : List Int} {us1 us2 ts ts1 ts2 : List (List Int)} (S : zfc rs1 rs2 us1 us2 ts ts1 ts2) {ps1 ps2 cs1 cs2 : List Int} (hp1 : ps1.length = rs1.length) (hc1 : cs1.length = rs1.length) : ∀ (f : Nat) (g g1 g2 : List Nat),zfb rs1.length rs2.length g g1 g2 ->
   zbP (rs1 ++ rs2) (us1 ++ us2) ts (ps1 ++ ps2) (cs1 ++ cs2) f g = zce rs1.length (zbP rs1 us1 ts1 ps1 cs1 f g1) (zbP rs2 us2 ts2 ps2 cs2 f g2) /\ zfb rs1.length rs2.length (zcM (rs1 ++ rs2) (us1 ++ us2) ts (ps1 ++ ps2) (cs1 ++ cs2) f g) (zcM rs1 us1 ts1 ps1 cs1 f g1) (zcM rs2 us2 ts2 ps2 cs2 f g2)
 | 0,g,g1,g2,sp=>⟨rfl,sp⟩
 | f + 1,g,g1,g2,sp=>by
   have fs:=zgY (ps2:=ps2) (cs2:=cs2) S hp1 hc1 sp
   obtain ⟨i1,i2⟩:=zgK (ps2:=ps2) (cs2:=cs2) S hp1 hc1 f _ _ _ (zkB (ps2:=ps2) (cs2:=cs2) S hp1 hc1 sp)
   by_cases e1 : GM.fresh rs1 us1 ts1 ps1 cs1 g1 = [] <;> by_cases e2 : GM.fresh rs2 us2 ts2 ps2 cs2 g2 = []
   . have e : GM.fresh (rs1 ++ rs2) (us1 ++ us2) ts (ps1 ++ ps2) (cs1 ++ cs2) g = []:=by rw [fs,e1,e2]; rfl
     rw [(zaI e _).1,(zaI e _).2,(zaI e1 _).1,(zaI e1 _).2,(zaI e2 _).1,(zaI e2 _).2]
     exact ⟨rfl,sp⟩
   . have e : GM.fresh (rs1 ++ rs2) (us1 ++ us2) ts (ps1 ++ ps2) (cs1 ++ cs2) g ≠ []:=by rw [fs,e1]; simpa using e2
     rw [(zaE e f).1,(zaE e f).2,(zaI e1 _).1,(zaI e1 _).2,(zaE e2 f).1,(zaE e2 f).2]
     rw [e1,List.append_nil,(zaI e1 f).1] at i1
     rw [e1,List.append_nil,(zaI e1 f).2] at i2
     rw [i1,zkG]
     refine ⟨?_,i2⟩
     rw [fs,e1,List.nil_append]
   . have e : GM.fresh (rs1 ++ rs2) (us1 ++ us2) ts (ps1 ++ ps2) (cs1 ++ cs2) g ≠ []:=by rw [fs,e2]; simpa using e1
     rw [(zaE e f).1,(zaE e f).2,(zaI e2 _).1,(zaI e2 _).2,(zaE e1 f).1,(zaE e1 f).2]
     rw [e2,List.append_nil,(zaI e2 f).1] at i1
     rw [e2,List.append_nil,(zaI e2 f).2] at i2
     rw [i1,zmj]
     refine ⟨?_,i2⟩
     rw [fs,e2,List.map_nil,List.append_nil]
   . have e : GM.fresh (rs1 ++ rs2) (us1 ++ us2) ts (ps1 ++ ps2) (cs1 ++ cs2) g ≠ []:=by rw [fs]; simp [e1]
     rw [(zaE e f).1,(zaE e f).2,(zaE e1 f).1,(zaE e1 f).2,(zaE e2 f).1,(zaE e2 f).2,zl6,i1,fs]
     rw [fs] at i2
     exact ⟨rfl,i2⟩
def zdh (cm1 cm2 : List (List Int)) : List (List Int):=(List.range 4).map fun d=>cm1.getD d [] ++ cm2.getD d []
theorem zeK (cm1 cm2 : List (List Int)) {d : Nat} (h : d < 4) : (zdh cm1 cm2).getD d [] = cm1.getD d [] ++ cm2.getD d []:=zb9 h
theorem zei {α : Type} (f : Nat -> α) (n m : Nat) : (List.range (n + m)).map f = (List.range n).map f ++ (List.range m).map fun w=>f (n + w):=by
 rw [List.range_add,List.map_append,List.map_map]
 rfl
section
variable {rs1 rs2 : List Int} {us1 us2 ts ts1 ts2 : List (List Int)} (S : zfc rs1 rs2 us1 us2 ts ts1 ts2) {ps1 ps2 : List Int} {cm1 cm2 : List (List Int)} (s1 : zdq rs1 ps1 cm1) (s2 : zdq rs2 ps2 cm2)
include S s1 s2
theorem zfs : zdf (rs1 ++ rs2) (us1 ++ us2) ts (ps1 ++ ps2) (zdh cm1 cm2) = zce rs1.length (zdf rs1 us1 ts1 ps1 cm1) (zdf rs2 us2 ts2 ps2 cm2) /\ zfb rs1.length rs2.length (zcX (rs1 ++ rs2) (us1 ++ us2) ts (ps1 ++ ps2) (zdh cm1 cm2)) (zcX rs1 us1 ts1 ps1 cm1) (zcX rs2 us2 ts2 ps2 cm2):=by
 unfold zdf zcX
 rw [zeK cm1 cm2 (by decide)]
 exact zgK S s1.pl (s1.c 0 (by decide)).1 9 [] [] [] ⟨fun w _=>by simp,fun w _=>by simp⟩
theorem zmv : zcA (rs1 ++ rs2) (us1 ++ us2) ts (ps1 ++ ps2) (zdh cm1 cm2) = zcA rs1 us1 ts1 ps1 cm1 ++ zcA rs2 us2 ts2 ps2 cm2:=by
 obtain ⟨_,sp⟩:=zfs S s1 s2
 have hc:=(s1.c 0 (by decide)).1
 unfold zcA
 rw [List.length_append,zei]
 congr 1
 . refine List.map_congr_left fun w hw=>?_
   have hw:=List.mem_range.mp hw
   rw [zeK cm1 cm2 (by decide),zlc S s1.pl hc sp hw]
   simp only [sp.a w hw]
 . refine List.map_congr_left fun w hw=>?_
   have hw:=List.mem_range.mp hw
   rw [zeK cm1 cm2 (by decide),zjI S s1.pl hc sp hw]
   simp only [sp.b w hw]
theorem zmN : zeD (rs1 ++ rs2) (us1 ++ us2) ts (ps1 ++ ps2) (zdh cm1 cm2) = zdh (zeD rs1 us1 ts1 ps1 cm1) (zeD rs2 us2 ts2 ps2 cm2):=by
 obtain ⟨_,sp⟩:=zfs S s1 s2
 unfold zeD
 generalize zcX (rs1 ++ rs2) (us1 ++ us2) ts (ps1 ++ ps2) (zdh cm1 cm2) = gg at sp ⊢
 unfold zha zdh
 refine List.map_congr_left fun d hd=>?_
 have hd:=List.mem_range.mp hd
 rw [zb9 hd,zb9 hd,List.length_append,zei]
 have e : ((List.range 4).map fun d=>cm1.getD d [] ++ cm2.getD d []).getD (d + 1) [] = cm1.getD (d + 1) [] ++ cm2.getD (d + 1) []:=by
   rcases Nat.lt_or_ge (d + 1) 4 with z | z
   . exact zb9 z
   . rw [List.getD_eq_getElem?_getD,List.getElem?_eq_none (by rw [List.length_map,List.length_range]; exact z),List.getD_eq_getElem?_getD,List.getElem?_eq_none (by rw [s1.cl]; exact z),List.getD_eq_getElem?_getD,List.getElem?_eq_none (by rw [s2.cl]; exact z)]
     rfl
 rw [e]
 congr 1
 . refine List.map_congr_left fun w hw=>?_
   have hw:=List.mem_range.mp hw
   rw [zi8 S.p S.w1.t S.w2.t sp hw]
   congr 1
   rcases Nat.lt_or_ge (d + 1) 4 with z | z
   . exact zby (by rw [(s1.c _ z).1]; exact hw)
   . have e1 : cm1.getD (d + 1) [] = []:=by rw [List.getD_eq_getElem?_getD,List.getElem?_eq_none (by rw [s1.cl]; exact z)]; rfl
     have e2 : cm2.getD (d + 1) [] = []:=by rw [List.getD_eq_getElem?_getD,List.getElem?_eq_none (by rw [s2.cl]; exact z)]; rfl
     rw [e1,e2]; rfl
 . refine List.map_congr_left fun w hw=>?_
   have hw:=List.mem_range.mp hw
   rw [zhB S.p S.w1.t S.w2.t sp hw]
   congr 1
   rcases Nat.lt_or_ge (d + 1) 4 with z | z
   . exact zbh (s1.c _ z).1
   . have e1 : cm1.getD (d + 1) [] = []:=by rw [List.getD_eq_getElem?_getD,List.getElem?_eq_none (by rw [s1.cl]; exact z)]; rfl
     have e2 : cm2.getD (d + 1) [] = []:=by rw [List.getD_eq_getElem?_getD,List.getElem?_eq_none (by rw [s2.cl]; exact z)]; rfl
     rw [e1,e2]; rfl
theorem zgb : ∀ k,stN (rs1 ++ rs2) (us1 ++ us2) ts (ps1 ++ ps2) (zdh cm1 cm2) k = ((stN rs1 us1 ts1 ps1 cm1 k).1 ++ (stN rs2 us2 ts2 ps2 cm2 k).1,zdh (stN rs1 us1 ts1 ps1 cm1 k).2 (stN rs2 us2 ts2 ps2 cm2 k).2)
 | 0=>rfl
 | k + 1=>by
   have ih:=zgb k
   have t1:=zc9 S.w1 s1 k
   have t2:=zc9 S.w2 s2 k
   rw [stN,ih,zmv S t1 t2,zmN S t1 t2]
   rfl
theorem zjm (k : Nat) : wvN (rs1 ++ rs2) (us1 ++ us2) ts (ps1 ++ ps2) (zdh cm1 cm2) k = zce rs1.length (wvN rs1 us1 ts1 ps1 cm1 k) (wvN rs2 us2 ts2 ps2 cm2 k):=by
 unfold wvN
 rw [zgb S s1 s2 k]
 exact (zfs S (zc9 S.w1 s1 k) (zc9 S.w2 s2 k)).1
end
theorem zoS {rs1 rs2 : List Int} {us1 us2 ts ts1 ts2 : List (List Int)} (S : zfc rs1 rs2 us1 us2 ts ts1 ts2) (h8 : rs1.length + rs2.length <= 8) (h60 : ts1.length + ts2.length <= 60) : zaN (rs1 ++ rs2) (us1 ++ us2) ts:=by
 have w1:=S.w1
 have w2:=S.w2
 refine ⟨by rw [List.length_append]; have:=w1.n1; omega,by rw [List.length_append]; exact h8,fun r hr=>(List.mem_append.mp hr).elim (w1.r r) (w2.r r),by rw [List.length_append,List.length_append,w1.ul,w2.ul],fun i hi=>?_,by rw [S.p.length_eq,List.length_append,List.length_map]; exact h60,fun t ht=>?_,?_⟩
 . rw [List.length_append] at hi
   rcases Nat.lt_or_ge i rs1.length with z | z
   . rw [zby z,zby (by rw [w1.ul]; exact z)]
     exact w1.u i z
   . have:=w2.u (i - rs1.length) (by omega)
     have e1 : (us1 ++ us2).getD i [] = us2.getD (i - rs1.length) []:=by
       have:=zbh (xs:=us1) (ys:=us2) (d:=[]) (n:=rs1.length) (i:=i - rs1.length) w1.ul
       rwa [show rs1.length + (i - rs1.length) = i from by omega] at this
     have e2 : (rs1 ++ rs2).getD i 0 = rs2.getD (i - rs1.length) 0:=by
       have:=zbh (xs:=rs1) (ys:=rs2) (d:=0) (n:=rs1.length) (i:=i - rs1.length) rfl
       rwa [show rs1.length + (i - rs1.length) = i from by omega] at this
     rw [e1,e2]
     exact this
 . rw [List.length_append]
   rcases List.mem_append.mp (S.p.mem_iff.mp ht) with h | h
   . obtain ⟨a,b,c,e,h1,h2,h3,h4⟩:=w1.t t h
     exact ⟨a,b,c,e,by omega,by omega,h3,h4⟩
   . obtain ⟨u,hu,rfl⟩:=List.mem_map.mp h
     obtain ⟨a,b,c,rfl,h1,h2,h3,h4⟩:=w2.t u hu
     exact ⟨a + rs1.length,b + rs1.length,c,zd3 _ _ _ _,by omega,by omega,by omega,h4⟩
 . refine S.p.nodup_iff.mpr (List.nodup_append.mpr ⟨w1.nd,?_,fun t ht u hu=>?_⟩)
   . rw [List.Nodup,List.pairwise_map]
     refine List.Pairwise.imp_of_mem (fun {t u} ht hu ne e=>ne ?_) w2.nd
     obtain ⟨a,b,c,rfl,_⟩:=w2.t t ht
     obtain ⟨a',b',c',rfl,_⟩:=w2.t u hu
     rw [zd3,zd3] at e
     simp only [List.cons.injEq,and_true] at e
     rw [show a = a' from by omega,show b = b' from by omega,show c = c' from by omega]
   . obtain ⟨v,hv,rfl⟩:=List.mem_map.mp hu
     obtain ⟨a,b,c,rfl,ha,_⟩:=w1.t t ht
     obtain ⟨a',b',c',rfl,_⟩:=w2.t v hv
     rw [zd3]
     intro e
     simp only [List.cons.injEq,and_true] at e
     omega
def zeh (K : PySem.W.Frag) : Sp:=fun vs H Q _=>∃ x0 x1,vs = [x0,x1] /\ ∃ (rs1 rs2 : List Int) (us1 us2 ts1 ts2 : List (List Int)),Is K H x0 (zbb rs1 us1 ts1) /\ Is K H x1 (zbb rs2 us2 ts2) /\ zaN rs1 us1 ts1 /\ zaN rs2 us2 ts2 /\ ∀ v H',zaf H H' -> Is K H' v (zbb (rs1 ++ rs2) (us1 ++ us2) (ts1 ++ ts2.map (shT rs1.length))) -> Q v H'
theorem zhj {K : PySem.W.Frag} {H : Hp} {Q : VK} {E : XK} {v w : V} {rs1 rs2 : List Int} {us1 us2 ts1 ts2 : List (List Int)} (h1 : Is K H v (zbb rs1 us1 ts1)) (h2 : Is K H w (zbb rs2 us2 ts2)) (o1 : zaN rs1 us1 ts1) (o2 : zaN rs2 us2 ts2) (q : ∀ v H',zaf H H' -> Is K H' v (zbb (rs1 ++ rs2) (us1 ++ us2) (ts1 ++ ts2.map (shT rs1.length))) -> Q v H') : zeh K [v,w] H Q E:=⟨_,_,rfl,rs1,rs2,us1,us2,ts1,ts2,h1,h2,o1,o2,q⟩
set_option maxHeartbeats 4000000 in
theorem zhe (T : Txt K mg a) : zbr P w K mg base CX0 1 a.law_beside a.fd_law_beside ["_law_one","_law_other"] (zeh K):=by
 refine T.F_law_beside.ok zdb (fun vs H Q E h=>by obtain ⟨_,_,rfl,_⟩:=h; rfl) (fun cdv A outer s H vs Q E hr h=>?_)
 obtain ⟨x0,x1,rfl,h⟩:=h
 have hu:=hr.units
 refine ⟨_,(zae (zap (i:=2) zdb.nd rfl (Or.inr rfl) (zam (show zaj _ (.builtin "len") (zcb K) from zax) rfl T.z_len za8 (zaa (zal zah (pv 0) zad (fun _ _=>rfl)) zab)))
     (zae (zap (i:=3) zdb.nd rfl (Or.inl rfl) (zaq (show OpR _ (binaryOp .Add) (zdE K) from zcr) (zal zah (pv 0) zad (fun _ _=>rfl)) (zan (show zaj _ (.type "tuple") (zas K) from zao) rfl T.z_tuple zaG (zaa (zaU rfl (zaL.by (N':=["_law_a","_law_b","_law_delay","_law_many"]) (src:=[none,none,none,some 2]) rfl (show zaF _ (zac zbt).names ["_law_one","_law_other","_law_many","_law_ties_here"] ["_law_a","_law_b","_law_delay","_law_many"] [none,none,none,some 2] = true from by decide +kernel)) (zgs (zal zah (pv 1) zad (fun _ _=>rfl))) (fun _ _ _ _ _=>by exact (show PG _ _ (ziI K 3 _) from zdM (n:=3) rfl (zaZ (zak (i:=0) (show (["_law_a","_law_b","_law_delay","_law_many"] : List Str).Nodup from by decide) rfl (Or.inl rfl)) (zaZ (zak (i:=1) (show (["_law_a","_law_b","_law_delay","_law_many"] : List Str).Nodup from by decide) rfl (Or.inl rfl)) (zaZ (zak (i:=2) (show (["_law_a","_law_b","_law_delay","_law_many"] : List Str).Nodup from by decide) rfl (Or.inl rfl)) zcZ))))) (fun _ _ _ _ _=>zaY) (fun _ _ _ _ _=>by exact (show PE _ _ (zfI K _) from zaS (zaa (zaq zaR (pv 0) (pv 3)) (zaa (zaq zaR (pv 1) (pv 3)) (zaa (pv 2) zab)))))) zab))))
     (zai (zaB (zaS (zaa (zaq (show OpR _ (binaryOp .Add) (zdE K) from zcr) (zal zah (pv 0) zad (fun _ _=>rfl)) (zal zah (pv 1) zad (fun _ _=>rfl))) (zaa (zaq (show OpR _ (binaryOp .Add) (zdE K) from zcr) (zal zah (pv 0) zad (fun _ _=>rfl)) (zal zah (pv 1) zad (fun _ _=>rfl))) (zaa (pv 3) zab)))))))),?_⟩
 clear hu
 try clear hgd
 try dsimp only [zbp,zbc]
 rw [show start ["_law_one","_law_other","_law_many","_law_ties_here"] [x0,x1] = [some x0,some x1,none,none] from rfl]
 obtain ⟨rs1,rs2,us1,us2,ts1,ts2,h1,h2,ok1,ok2,q⟩:=h
 have a8:=ok1.n8
 have b8:=ok2.n8
 have a60:=ok1.tl
 have b60:=ok2.tl
 wtm_at "gg"
 refine zbJ h1 (fun y0 j0=>?_)
 wtm_at "gg"
 refine zgj j0 ?_
 wtm_at "gg"
 refine zeN h1 (fun y1 j1=>?_)
 wtm_at "gg"
 refine zeN h2 (fun y2 j2=>?_)
 obtain ⟨a2,xs,rfl,hs2,t2⟩:=zaH.mp j2
 have hl2:=t2.length
 rw [List.length_map] at hl2
 refine zeo hs2 (fun D j ys σ' H'=>(∃ o1 o2 o3,σ' = [o1,o2,o3,some (.int (rs1.length : Int))]) /\ H D = none /\ zaf H H' /\ H' D = some (.lst ys) /\ IsAll K H' ys (((ts2.take j).map (shT rs1.length)).map TZ)) (fun D H' n s e=>⟨⟨_,_,_,rfl⟩,n,s,e,.nil⟩) (fun D j ys σ' H' h=>h.2.2.1.keep.sqT hs2) ?_ ?_
 . rintro D j x ys σ' H12 hx ⟨⟨o1',o2',o3',rfl⟩,n12,S12,e12,t12⟩
   obtain ⟨hj,ta,tb,td,et,ha,hb,_,hd,ix⟩:=zj5 t2 ok2.t hx
   have ix:=ix.by S12
   have tk : ts2.take (j + 1) = ts2.take j ++ [ts2[j]]:=by rw [List.take_succ,List.getElem?_eq_getElem hj]; rfl
   have hyl:=t12.length
   rw [List.length_map,List.length_map,List.length_take] at hyl
   wtm_at "gg"
   refine zjh ix rfl (fun zs tz=>?_)
   have ez:=zcn.mp tz
   subst ez
   rw [show List.map V.int [(ta : Int),(tb : Int),(td : Int)] = [.int (ta : Int),.int (tb : Int),.int (td : Int)] from rfl]
   wtm_at "gg"
   refine zaQ (ds:=[.int ((ta : Int) + (rs1.length : Int)),.int ((tb : Int) + (rs1.length : Int)),.int (td : Int)]) (by simp) (.cons (zaT.mpr rfl) (.cons (zaT.mpr rfl) (.cons (zaT.mpr rfl) .nil))) (fun v13 H13 S13 i13=>?_)
   refine zbA (S13 _ _ e12) (by omega) (fun H14 E14 e14=>⟨⟨_,_,_,rfl⟩,n12,(S12.trans S13).grow n12 E14,e14,?_⟩)
   have k14:=E14.keep (S13 _ _ e12)
   rw [tk,List.map_append,List.map_append,et]
   refine (IsAll.keep (S13.keep.trans k14) _ _ (za3 _) t12).append (.cons ?_ .nil)
   exact Is.thruI (ns:=shT rs1.length [(ta : Int),(tb : Int),(td : Int)]) i13 k14
 . rintro D ys σ' H12 ⟨_,nD,S12,eD,t12⟩
   rw [hl2,List.take_length] at t12
   wtm_at "gg"
   refine za5 (zaM.mpr ⟨D,ys,rfl,.of eD,t12⟩) (fun w13 H13 S13 i13=>?_)
   have S013:=S12.trans S13
   wtm_at "gg"
   refine zbS (j1.by S013) i13 (by simp only [List.length_map]; omega) (fun u14 H14 S14 i14=>?_)
   have S014:=S013.trans S14
   wtm_at "gg"
   refine zbJ (h1.by S014) (fun y3 j3=>?_)
   wtm_at "gg"
   refine zbJ (h2.by S014) (fun y4 j4=>?_)
   wtm_at "gg"
   refine zbS j3 j4 (by simp only [List.length_map]; omega) (fun u15 H15 S15 i15=>?_)
   have S015:=S014.trans S15
   wtm_at "gg"
   refine zec (h1.by S015) (fun y5 j5=>?_)
   wtm_at "gg"
   refine zec (h2.by S015) (fun y6 j6=>?_)
   wtm_at "gg"
   refine zbS j5 j6 (by simp only [List.length_map,ok1.ul,ok2.ul]; omega) (fun u16 H16 S16 i16=>?_)
   wtm_at "gg"
   refine zaQ (ds:=[TZ (rs1 ++ rs2),TTr (us1 ++ us2),TTr (ts1 ++ ts2.map (shT rs1.length))]) (by simp) (.cons ?_ (.cons ?_ (.cons ?_ .nil))) (fun v17 H17 S17 i17=>?_)
   . rw [TZ,List.map_append]; exact i15.by S16
   . rw [TTr,List.map_append]; exact i16
   . rw [TTr,List.map_append]; exact (i14.by S15).by S16
   . exact q v17 H17 (S015.trans (S16.trans S17)) i17
def zfG (K : PySem.W.Frag) : Sp:=fun vs H Q _=>∃ x0 x1 x2,vs = [x0,x1,x2] /\ ∃ (xs ys : List (List Nat)) (n : Nat),Is K H x0 (TWs xs) /\ Is K H x1 (TWs ys) /\ x2 = .int (n : Int) /\ xs.length <= 8 /\ ys.length <= 8 /\ n <= 8 /\ (∀ r ∈ xs,r.length <= 8) /\ (∀ r ∈ ys,r.length <= 8 /\ ∀ w ∈ r,w < 8) /\ ∀ v H',zaf H H' -> Is K H' v (TWs (zce n xs ys)) -> Q v H'
theorem zjG {K : PySem.W.Frag} {H : Hp} {Q : VK} {E : XK} {v w : V} {xs ys : List (List Nat)} {n : Nat} (h1 : Is K H v (TWs xs)) (h2 : Is K H w (TWs ys)) (l1 : xs.length <= 8) (l2 : ys.length <= 8) (hn : n <= 8) (r1 : ∀ r ∈ xs,r.length <= 8) (r2 : ∀ r ∈ ys,r.length <= 8 /\ ∀ w ∈ r,w < 8) (q : ∀ v H',zaf H H' -> Is K H' v (TWs (zce n xs ys)) -> Q v H') : zfG K [v,w,.int (n : Int)] H Q E:=⟨_,_,_,rfl,xs,ys,n,h1,h2,rfl,l1,l2,hn,r1,r2,q⟩
theorem zle {xs : List (List Nat)} {k : Nat} (h : k < xs.length + 8) : ((xs ++ List.replicate 8 []).map TW)[k]? = some (TW (xs.getD k [])):=by
 rw [List.getElem?_map]
 rcases Nat.lt_or_ge k xs.length with z | z
 . rw [List.getElem?_append_left z,List.getElem?_eq_getElem z,List.getD_eq_getElem?_getD,List.getElem?_eq_getElem z]; rfl
 . rw [List.getElem?_append_right z,List.getElem?_replicate,if_pos (by omega),List.getD_eq_getElem?_getD,List.getElem?_eq_none z]; rfl
theorem zln {xs : List (List Nat)} (h : ∀ r ∈ xs,r.length <= 8) (k : Nat) : (xs.getD k []).length <= 8:=by
 rcases Nat.lt_or_ge k xs.length with z | z
 . exact h _ (GM.getD_mem z)
 . rw [List.getD_eq_getElem?_getD,List.getElem?_eq_none z]; exact Nat.zero_le _
set_option maxHeartbeats 4000000 in
theorem zjv (T : Txt K mg a) : zbr P w K mg base CX0 1 a.law_laid a.fd_law_laid ["_law_mine","_law_yours","_law_many"] (zfG K):=by
 refine T.F_law_laid.ok zct (fun vs H Q E h=>by obtain ⟨_,_,_,rfl,_⟩:=h; rfl) (fun cdv A outer s H vs Q E hr h=>?_)
 obtain ⟨x0,x1,x2,rfl,h⟩:=h
 have hu:=hr.units
 refine ⟨_,(zae (zap (i:=3) zct.nd rfl (Or.inl rfl) (zbs zab))
     (zae (zcy PassesOwn.never rfl (zbd rfl T.z_range (zaa (zam (show zaj _ (.builtin "max") zoa from zkM rfl) rfl T.z_max zry (zaa (zam (show zaj _ (.builtin "len") (zcb K) from zax) rfl T.z_len za8 (zaa (pv 0) zab)) (zaa (zam (show zaj _ (.builtin "len") (zcb K) from zax) rfl T.z_len za8 (zaa (pv 1) zab)) zab))) zab)) (zak (i:=4) zct.nd rfl (Or.inl rfl)) (zae (zap (i:=5) zct.nd rfl (Or.inl rfl) (zal zah (zaq (show OpR _ (binaryOp .Add) (zdE K) from zcr) (pv 0) (zaq (show OpR _ (binaryOp .Mult) (zgR K) from zf1) (zaS (zaa (zaS zab) zab)) zad)) (pv 4) (fun _ _=>rfl)))
     (zae (zap (i:=6) zct.nd rfl (Or.inl rfl) (zal zah (zaq (show OpR _ (binaryOp .Add) (zdE K) from zcr) (pv 1) (zaq (show OpR _ (binaryOp .Mult) (zgR K) from zf1) (zaS (zaa (zaS zab) zab)) zad)) (pv 4) (fun _ _=>rfl)))
     (zai (zc7 (zeV PySem.F.plainAttrs_list PySem.F.slot_list_append PySem.F.type_list_append zbL (pv 3) (zaa (zaq (show OpR _ (binaryOp .Add) (zdE K) from zcr) (pv 5) (zan (show zaj _ (.type "tuple") (zas K) from zao) rfl T.z_tuple zaG (zaa (zaU rfl (zaL.by (N':=["_law_worm","_law_many"]) (src:=[none,some 2]) rfl (show zaF _ (zac zbZ).names ["_law_mine","_law_yours","_law_many","_law_found","_law_k","_law_first","_law_second"] ["_law_worm","_law_many"] [none,some 2] = true from by decide +kernel)) (zgs (pv 6)) (fun _ _ _ _ _=>(zak (i:=0) (show (["_law_worm","_law_many"] : List Str).Nodup from by decide) rfl (Or.inl rfl))) (fun _ _ _ _ _=>zaY) (fun _ _ _ _ _=>(zaq zaR (pv 0) (pv 1)))) zab))) zab)))))))
     (zai (zaB (zan (show zaj _ (.type "tuple") (zas K) from zao) rfl T.z_tuple zaG (zaa (pv 3) zab)))))),?_⟩
 clear hu
 try clear hgd
 try dsimp only [zbp,zbc]
 rw [show start ["_law_mine","_law_yours","_law_many","_law_found","_law_k","_law_first","_law_second"] [x0,x1,x2] = [some x0,some x1,some x2,none,none,none,none] from rfl]
 obtain ⟨xs,ys,n,h1,h2,rfl,l1,l2,hn,r1,r2,q⟩:=h
 wtm_at "gg"
 refine zis (by simp) (fun lo H1 n1 S1 e1=>?_)
 wtm_at "gg"
 refine zfY (show Is K H1 x0 (.tuple _) from h1.by S1) ?_
 rw [List.length_map]
 wtm_at "gg"
 refine zfY (show Is K H1 x1 (.tuple _) from h2.by S1) ?_
 rw [List.length_map]
 wtm_at "gg"
 refine zpm (fun m m1 m2 m3=>?_)
 obtain ⟨k,hk⟩ : ∃ k : Nat,m = (k : Int):=⟨m.toNat,by omega⟩
 subst hk
 have hkk : k = max xs.length ys.length:=by omega
 wtm_at "gg"
 refine zcK (n:=(k : Int)) (by omega) (by omega) (fun i σ H'=>∃ (o4 o5 o6 : Option V) (us : List V),σ = [some x0,some x1,some (.int (n : Int)),some (.ref lo),o4,o5,o6] /\ zaf H H' /\ H' lo = some (.lst us) /\ IsAll K H' us (((List.range i).map fun k=>xs.getD k [] ++ (ys.getD k []).map (n + ·)).map TW))
   ⟨_,_,_,[],rfl,S1,e1,.nil⟩ ?_ ?_
 . rintro i σ H2 hi ⟨o4,o5,o6,us,rfl,S2,e2,t2⟩
   have hi : i < k:=by omega
   have hul:=t2.length
   rw [List.length_map,List.length_map,List.length_range] at hul
   wtm_at "gg"
   refine zaQ (ds:=[]) (by simp) .nil (fun v3 H3 S3 i3=>?_)
   wtm_at "gg"
   refine zaQ (ds:=[.tuple []]) (by simp) (.cons i3 .nil) (fun v4 H4 S4 i4=>?_)
   wtm_at "gg"
   refine zeT i4 (by decide) (by decide) (fun v5 H5 S5 i5=>?_)
   have S25:=S3.trans (S4.trans S5)
   wtm_at "gg"
   refine zbS (show Is K H5 x0 (.tuple (xs.map TW)) from h1.by (S2.trans S25)) i5 (by simp only [List.length_map,List.length_replicate]; omega) (fun v6 H6 S6 i6=>?_)
   have S26:=S25.trans S6
   have i6 : Is K H6 v6 (.tuple ((xs ++ List.replicate 8 []).map TW)):=by
     rw [List.map_append,List.map_replicate]; exact i6
   wtm_at "gg"
   obtain ⟨a6,q6,rfl,hs6,tt6⟩:=zaH.mp i6
   obtain ⟨y6,ey6,iy6⟩:=tt6.get (zle (xs:=xs) (k:=i) (by omega))
   refine zik hs6 (zc1 ey6) ?_
   wtm_at "gg"
   refine zaQ (ds:=[]) (by simp) .nil (fun v7 H7 S7 i7=>?_)
   wtm_at "gg"
   refine zaQ (ds:=[.tuple []]) (by simp) (.cons i7 .nil) (fun v8 H8 S8 i8=>?_)
   wtm_at "gg"
   refine zeT i8 (by decide) (by decide) (fun v9 H9 S9 i9=>?_)
   have S29:=S26.trans (S7.trans (S8.trans S9))
   wtm_at "gg"
   refine zbS (show Is K H9 x1 (.tuple (ys.map TW)) from h2.by (S2.trans S29)) i9 (by simp only [List.length_map,List.length_replicate]; omega) (fun v10 H10 S10 i10=>?_)
   have S210:=S29.trans S10
   have i10 : Is K H10 v10 (.tuple ((ys ++ List.replicate 8 []).map TW)):=by
     rw [List.map_append,List.map_replicate]; exact i10
   wtm_at "gg"
   obtain ⟨a10,q10,rfl,hs10,tt10⟩:=zaH.mp i10
   obtain ⟨y10,ey10,iy10⟩:=tt10.get (zle (xs:=ys) (k:=i) (by omega))
   refine zik hs10 (zc1 ey10) ?_
   have iy6' : Is K H10 y6 (TW (xs.getD i [])):=iy6.by (S7.trans (S8.trans (S9.trans S10)))
   have hx8:=zln r1 i
   have hy8:=zln (fun r hr=>(r2 r hr).1) i
   have hyw : ∀ w ∈ ys.getD i [],w < 8:=fun w hw=>by
     rcases Nat.lt_or_ge i ys.length with z | z
     . exact (r2 _ (GM.getD_mem z)).2 w hw
     . rw [List.getD_eq_getElem?_getD,List.getElem?_eq_none z] at hw; cases hw
   have e210:=S210 _ _ e2
   have t210 : IsAll K H10 us (((List.range i).map fun k=>xs.getD k [] ++ (ys.getD k []).map (n + ·)).map TW):=IsAll.same S210 _ _ t2
   have S010:=S2.trans S210
   clear iy6 i6 tt6 hs6 ey6 i10 tt10 S3 S4 S5 S6 S7 S8 S9 S10 S25 S26 S29 i3 i4 i5 i7 i8 i9 S2 e2 t2 hs10 ey10
   generalize hyr : ys.getD i [] = yr at iy10 hy8 hyw
   generalize hxr : xs.getD i [] = xr at iy6' hx8
   wtm_at "gg"
   refine zdC (.of e210) ?_
   wtm_at "gg"
   obtain ⟨ay,rfl,hsy⟩:=zk6.mp iy10
   refine zf0 hsy (o0:=none) (tl:=[some (.int (n : Int))]) rfl (fun j y H'=>y = .int (((yr.map (n + ·)).getD j 0 : Nat) : Int)) ?_ ?_
   . intro D j x zs o H11 hx inv
     obtain ⟨hj,rfl⟩:=zga hx
     have:=hyw _ (List.getElem_mem hj)
     wtm_at "gg"
     refine zbE inv (by omega) (fun _ _ _ _ _ z=>z) ⟨_,rfl⟩ (zaf.refl _) ?_
     rw [List.getD_eq_getElem?_getD,List.getElem?_map,List.getElem?_eq_getElem hj]
     show V.int ((yr[j] : Int) + (n : Int)) = .int ((n + yr[j] : Nat) : Int)
     congr 1
     omega
   . intro D zs H11 n11 S11 e11 hl11 hr11
     have hzs : zs = vz (yr.map (n + ·)):=by
       refine List.ext_getElem (by rw [hl11,zck,zck,List.length_map]) fun j h1 h2=>?_
       have:=hr11 j zs[j] (List.getElem?_eq_getElem h1)
       rw [this]
       rw [zck,List.length_map] at h2
       simp [vz,List.getD_eq_getElem?_getD,h2]
     subst hzs
     wtm_at "gg"
     refine zbN (.of e11) (fun l12 H12 n12 S12 e12=>?_)
     have i12 : Is K H12 (.ref l12) (TW (yr.map (n + ·))):=zk6.mpr ⟨l12,rfl,.of e12⟩
     have S1012:=S11.trans S12
     wtm_at "gg"
     refine zbS (show Is K H12 y6 (.tuple _) from iy6'.by S1012) (show Is K H12 (.ref l12) (.tuple _) from i12) (by simp only [List.length_map]; omega) (fun v13 H13 S13 i13=>?_)
     have S1013:=S1012.trans S13
     have i13 : Is K H13 v13 (TW (xr ++ yr.map (n + ·))):=by
       rw [TW,List.map_append,TZ,List.map_append]; exact i13
     wtm_at "gg"
     refine zb0 (S1013 _ _ e210) (by omega) (fun H14 E14 e14=>?_)
     have k14:=E14.keep (S1013 _ _ e210)
     wtm_at "gg"
     refine ⟨_,_,_,us ++ [v13],rfl,(S010.trans S1013).grow n1 E14,e14,?_⟩
     rw [List.range_succ,List.map_append,List.map_append]
     refine (IsAll.keep (S1013.keep.trans k14) _ _ (zdn _) t210).append (.cons ?_ .nil)
     show Is K H14 v13 (TW (xs.getD i [] ++ (ys.getD i []).map (n + ·)))
     rw [hxr,hyr]
     exact i13.byK k14 (zkC _)
 . rintro σ H2 ⟨o4,o5,o6,us,rfl,S2,e2,t2⟩
   wtm_at "gg"
   refine za5 (zaM.mpr ⟨lo,us,rfl,.of e2,t2⟩) (fun v3 H3 S3 i3=>?_)
   wtm_at "gg"
   refine q v3 H3 (S2.trans S3) ?_
   rw [zce,<- hkk]
   rw [Int.toNat_natCast] at i3
   exact i3
def zaC (w : Nat -> List (List Nat)) (k : Nat) : List (Nat × List (List Nat)):=((List.range k).filter fun j=>decide (w j ≠ [])).map fun j=>(j + 1,w j)
theorem zcV (rs : List Int) (us ts : List (List Int)) (ps : List Int) (cm : List (List Int)) : ∀ k,zfS rs us ts ps cm k = zaC (wvN rs us ts ps cm) k
 | 0=>rfl
 | k + 1=>by
   rw [zfS,zcV rs us ts ps cm k,zaC,zaC,List.range_succ,List.filter_append,List.map_append]
   congr 1
   by_cases h : wvN rs us ts ps cm k = []
   . rw [if_pos h,List.filter_cons_of_neg (by simp [h])]; rfl
   . rw [if_neg h,List.filter_cons_of_pos (by simp [h])]; rfl
theorem zd4 (w : Nat -> List (List Nat)) (k : Nat) : (zaC w k).length <= k:=by
 rw [zaC,List.length_map]
 have:=List.length_filter_le (fun j=>decide (w j ≠ [])) (List.range k)
 rwa [List.length_range] at this
theorem znS {w : Nat -> List (List Nat)} {k : Nat} : ((zaC w k).map (·.1)).Pairwise (· < ·):=by
 rw [zaC,List.map_map]
 refine List.Pairwise.map _ (fun a b h=>?_) (List.pairwise_lt_range.filter _)
 show a + 1 < b + 1
 omega
theorem zbK {w : Nat -> List (List Nat)} {k m : Nat} {v : List (List Nat)} : (m,v) ∈ zaC w k ↔ ∃ j,j < k /\ w j ≠ [] /\ m = j + 1 /\ v = w j:=by
 rw [zaC,List.mem_map]
 constructor
 . rintro ⟨j,hj,e⟩
   rw [List.mem_filter,List.mem_range,decide_eq_true_eq] at hj
   cases e
   exact ⟨j,hj.1,hj.2,rfl,rfl⟩
 . rintro ⟨j,h1,h2,rfl,rfl⟩
   exact ⟨j,List.mem_filter.mpr ⟨List.mem_range.mpr h1,by rw [decide_eq_true_eq]; exact h2⟩,rfl⟩
def zcB (w1 w2 : Nat -> List (List Nat)) (k : Nat) : List Int:=((List.range k).filter fun j=>decide (w1 j ≠ [] \/ w2 j ≠ [])).map fun (j : Nat)=>((j : Int) + 1)
theorem znJ {w1 w2 : Nat -> List (List Nat)} {k : Nat} {ms : List Int} (so : ms.Pairwise (· <= ·)) (nd : ms.Nodup) (h : ∀ x,x ∈ ms ↔ x ∈ ((zaC w1 k).map fun r=>(r.1 : Int)) ++ ((zaC w2 k).map fun r=>(r.1 : Int))) : ms = zcB w1 w2 k:=by
 have up : (zcB w1 w2 k).Pairwise (· < ·):=List.Pairwise.map _ (fun a b h=>by show (a : Int) + 1 < (b : Int) + 1; omega) (List.pairwise_lt_range.filter _)
 refine zhq ((List.perm_ext_iff_of_nodup nd (up.imp fun h=>Int.ne_of_lt h)).mpr fun x=>?_) so (up.imp fun h=>Int.le_of_lt h)
 rw [h x,List.mem_append,List.mem_map,List.mem_map,zcB,List.mem_map]
 constructor
 . rintro (⟨⟨m,v⟩,hm,rfl⟩ | ⟨⟨m,v⟩,hm,rfl⟩) <;> obtain ⟨j,h1,h2,h3,_⟩:=zbK.mp hm
   . exact ⟨j,List.mem_filter.mpr ⟨List.mem_range.mpr h1,by rw [decide_eq_true_eq]; exact .inl h2⟩,by show (j : Int) + 1 = (m : Int); omega⟩
   . exact ⟨j,List.mem_filter.mpr ⟨List.mem_range.mpr h1,by rw [decide_eq_true_eq]; exact .inr h2⟩,by show (j : Int) + 1 = (m : Int); omega⟩
 . rintro ⟨j,hj,rfl⟩
   rw [List.mem_filter,List.mem_range,decide_eq_true_eq] at hj
   rcases hj.2 with z | z
   . exact .inl ⟨(j + 1,w1 j),zbK.mpr ⟨j,hj.1,z,rfl,rfl⟩,by simp⟩
   . exact .inr ⟨(j + 1,w2 j),zbK.mpr ⟨j,hj.1,z,rfl,rfl⟩,by simp⟩
theorem zhH (w1 w2 : Nat -> List (List Nat)) (k : Nat) : (zcB w1 w2 k).length <= k:=by
 rw [zcB,List.length_map]
 have:=List.length_filter_le (fun j=>decide (w1 j ≠ [] \/ w2 j ≠ [])) (List.range k)
 rwa [List.length_range] at this
theorem zlN (n : Nat) (w1 w2 : Nat -> List (List Nat)) (k : Nat) : zaC (fun j=>zce n (w1 j) (w2 j)) k = (zcB w1 w2 k).map fun m=>(m.toNat,zce n (w1 (m.toNat - 1)) (w2 (m.toNat - 1))):=by
 rw [zaC,zcB,List.map_map]
 have e : (fun j=>decide (zce n (w1 j) (w2 j) ≠ [])) = fun j=>decide (w1 j ≠ [] \/ w2 j ≠ []):=by
   funext j
   rw [decide_eq_decide,Ne,zon]
   constructor
   . intro h
     by_cases z : w1 j = []
     . exact .inr fun y=>h ⟨z,y⟩
     . exact .inl z
   . rintro (z | z) ⟨y1,y2⟩
     . exact z y1
     . exact z y2
 rw [e]
 refine List.map_congr_left fun j _=>?_
 show (j + 1,zce n (w1 j) (w2 j)) = (((j : Int) + 1).toNat,zce n (w1 (((j : Int) + 1).toNat - 1)) (w2 (((j : Int) + 1).toNat - 1)))
 have : ((j : Int) + 1).toNat = j + 1:=by omega
 rw [this,Nat.add_sub_cancel]
theorem zlM {w1 w2 : Nat -> List (List Nat)} {k : Nat} {m : Int} (h : m ∈ zcB w1 w2 k) : ∃ j : Nat,j < k /\ m = (j : Int) + 1:=by
 obtain ⟨j,hj,rfl⟩:=List.mem_map.mp h
 rw [List.mem_filter,List.mem_range] at hj
 exact ⟨j,hj.1,rfl⟩
theorem zmm {w1 w2 : Nat -> List (List Nat)} {k : Nat} {x : Int} : x ∈ ((zaC w1 k).map fun r=>(r.1 : Int)) ++ ((zaC w2 k).map fun r=>(r.1 : Int)) ↔ x ∈ zcB w1 w2 k:=by
 rw [List.mem_append,List.mem_map,List.mem_map,zcB,List.mem_map]
 constructor
 . rintro (⟨⟨m,v⟩,hm,rfl⟩ | ⟨⟨m,v⟩,hm,rfl⟩) <;> obtain ⟨j,h1,h2,h3,_⟩:=zbK.mp hm
   . exact ⟨j,List.mem_filter.mpr ⟨List.mem_range.mpr h1,by rw [decide_eq_true_eq]; exact .inl h2⟩,by show (j : Int) + 1 = (m : Int); omega⟩
   . exact ⟨j,List.mem_filter.mpr ⟨List.mem_range.mpr h1,by rw [decide_eq_true_eq]; exact .inr h2⟩,by show (j : Int) + 1 = (m : Int); omega⟩
 . rintro ⟨j,hj,rfl⟩
   rw [List.mem_filter,List.mem_range,decide_eq_true_eq] at hj
   rcases hj.2 with z | z
   . exact .inl ⟨(j + 1,w1 j),zbK.mpr ⟨j,hj.1,z,rfl,rfl⟩,by simp⟩
   . exact .inr ⟨(j + 1,w2 j),zbK.mpr ⟨j,hj.1,z,rfl,rfl⟩,by simp⟩
def zcv (L : List (Nat × List (List Nat))) (j : Nat) : Nat × List (List Nat):=L.getD j (0,[])
theorem zn9 {L : List (Nat × List (List Nat))} {j : Nat} (h : j < L.length) : zcv L j ∈ L:=GM.getD_mem h
theorem zi1 {K : PySem.W.Frag} {H : Hp} {us : List V} {L : List (Nat × List (List Nat))} (t : IsAll K H us (L.map zcz)) : ∃ val : Nat -> V,∀ j u,us[j]? = some u -> zlj K H u ((zcv L j).1 : Int) (val j) /\ Is K H (val j) (TWs (zcv L j).2):=by
 have hx : ∀ j : Nat,∃ x : V,∀ u,us[j]? = some u -> zlj K H u ((zcv L j).1 : Int) x /\ Is K H x (TWs (zcv L j).2):=fun j=>by
   cases e : us[j]? with
   | none=>exact ⟨.non,fun u h=>by cases h⟩
   | some u =>
     obtain ⟨hj,iu⟩:=zcC t e
     rw [List.length_map] at hj
     have e2 : (L.map zcz).getD j .none = zcz (zcv L j):=by
       rw [zcv,List.getD_eq_getElem?_getD,List.getElem?_map,List.getD_eq_getElem?_getD,List.getElem?_eq_getElem hj]; rfl
     rw [e2] at iu
     obtain ⟨q,xs,rfl,hs,tt⟩:=zaH.mp iu
     obtain ⟨x1,x2,rfl⟩ : ∃ x1 x2,xs = [x1,x2]:=by
       have hl:=tt.length
       match xs,hl with
       | [x1,x2],_=>exact ⟨x1,x2,rfl⟩
     obtain ⟨y1,ey1,i1⟩:=tt.get (i:=0) (show _ = some (PyData.int ((zcv L j).1 : Int)) from rfl)
     obtain ⟨y2,ey2,i2⟩:=tt.get (i:=1) (show _ = some (TWs (zcv L j).2) from rfl)
     cases ey1
     cases ey2
     have:=zaT.mp i1
     subst this
     exact ⟨_,fun u h=>by cases h; exact ⟨⟨q,rfl,hs⟩,i2⟩⟩
 exact ⟨fun j=>(hx j).choose,fun j=>(hx j).choose_spec⟩
theorem ziW {w : Nat -> List (List Nat)} {k i j : Nat} (hi : i < (zaC w k).length) (hj : j < (zaC w k).length) (e : ((zcv (zaC w k) i).1 : Int) = ((zcv (zaC w k) j).1 : Int)) : i = j:=by
 have h:=znS (w:=w) (k:=k)
 rw [List.pairwise_iff_getElem] at h
 have g : ∀ i (hi : i < (zaC w k).length),(zcv (zaC w k) i).1 = ((zaC w k).map (·.1))[i]'(by rw [List.length_map]; exact hi):=fun i hi=>by
   rw [List.getElem_map,zcv,List.getD_eq_getElem?_getD,List.getElem?_eq_getElem hi]; rfl
 rw [g i hi,g j hj] at e
 rcases Nat.lt_trichotomy i j with z | z | z
 . have:=h i j (by rw [List.length_map]; exact hi) (by rw [List.length_map]; exact hj) z
   omega
 . exact z
 . have:=h j i (by rw [List.length_map]; exact hj) (by rw [List.length_map]; exact hi) z
   omega
theorem zgk {K : PySem.W.Frag} {H : Hp} {w : Nat -> List (List Nat)} {k m0 n : Nat} {val : Nat -> V} {z : V} (hm : m0 < k) (hn : n = (zaC w k).length) (hv : ∀ j,j < n -> Is K H (val j) (TWs (zcv (zaC w k) j).2)) (hz : Is K H z (TWs [])) :
   Is K H ((zen ((List.range n).map fun j=>((.inl ((zcv (zaC w k) j).1 : Int) : Key),val j)) (.inl ((m0 : Int) + 1))).getD z) (TWs (w m0)):=by
 unfold zen
 cases e : ((List.range n).map fun j=>((.inl ((zcv (zaC w k) j).1 : Int) : Key),val j)).find? fun kv=>decide (kv.1 = .inl ((m0 : Int) + 1)) with
 | some kv =>
   have h1:=List.find?_some e
   obtain ⟨j,hj,rfl⟩:=List.mem_map.mp (List.mem_of_find?_eq_some e)
   have hj:=List.mem_range.mp hj
   have h1:=Sum.inl.inj (of_decide_eq_true h1)
   obtain ⟨j',_,_,h3,h4⟩:=zbK.mp (show ((zcv (zaC w k) j).1,(zcv (zaC w k) j).2) ∈ zaC w k from zn9 (by omega))
   have : j' = m0:=by omega
   subst this
   have:=hv j hj
   rw [h4] at this
   exact this
 | none =>
   have h1:=List.find?_eq_none.mp e
   have : w m0 = []:=Decidable.of_not_not fun z=>by
     obtain ⟨j,hj,ej⟩:=List.getElem_of_mem (zbK.mpr ⟨m0,hm,z,rfl,rfl⟩)
     refine h1 _ (List.mem_map.mpr ⟨j,List.mem_range.mpr (by omega),rfl⟩) ?_
     rw [decide_eq_true_eq]
     have : zcv (zaC w k) j = (m0 + 1,w m0):=by rw [zcv,List.getD_eq_getElem?_getD,List.getElem?_eq_getElem hj,ej]; rfl
     rw [this]
     rfl
   rw [this]
   exact hz
theorem zg0 {L : List (Nat × List (List Nat))} {val : Nat -> V} {n : Nat} (hn : n = L.length) : ((List.range n).map fun j=>((.inl ((zcv L j).1 : Int) : Key),val j)).map (fun kv=>kV kv.1) = (L.map fun r=>(r.1 : Int)).map V.int:=by
 subst hn
 refine List.ext_getElem (by simp) fun j h1 h2=>?_
 have hj : j < L.length:=by simpa using h2
 simp only [List.getElem_map,List.getElem_range,zcv,List.getD_eq_getElem?_getD,List.getElem?_eq_getElem hj]
 rfl
def zfD (K : PySem.W.Frag) : Sp:=fun vs H Q _=>∃ x0 x1 x2,vs = [x0,x1,x2] /\ ∃ (l1 l2 : Addr) (r1 r2 : List V) (w1 w2 : Nat -> List (List Nat)) (k n : Nat),x0 = .ref l1 /\ x1 = .ref l2 /\ x2 = .int (n : Int) /\ H l1 = some (.lst r1) /\ IsAll K H r1 ((zaC w1 k).map zcz) /\ H l2 = some (.lst r2) /\ IsAll K H r2 ((zaC w2 k).map zcz) /\ k <= 60 /\ n <= 8 /\ (∀ j,(w1 j).length <= 8 /\ ∀ r ∈ w1 j,r.length <= 8) /\ (∀ j,(w2 j).length <= 8 /\ ∀ r ∈ w2 j,r.length <= 8 /\ ∀ w ∈ r,w < 8) /\ ∀ l us H',zaf H H' -> H' l = some (.lst us) -> IsAll K H' us ((zaC (fun j=>zce n (w1 j) (w2 j)) k).map zcz) -> Q (.ref l) H'
theorem zjg {K : PySem.W.Frag} {H : Hp} {Q : VK} {E : XK} {l1 l2 : Addr} {r1 r2 : List V} {w1 w2 : Nat -> List (List Nat)} {k n : Nat} (e1 : H l1 = some (.lst r1)) (t1 : IsAll K H r1 ((zaC w1 k).map zcz)) (e2 : H l2 = some (.lst r2)) (t2 : IsAll K H r2 ((zaC w2 k).map zcz)) (hk : k <= 60) (hn : n <= 8) (b1 : ∀ j,(w1 j).length <= 8 /\ ∀ r ∈ w1 j,r.length <= 8) (b2 : ∀ j,(w2 j).length <= 8 /\ ∀ r ∈ w2 j,r.length <= 8 /\ ∀ w ∈ r,w < 8) (q : ∀ l us H',zaf H H' -> H' l = some (.lst us) -> IsAll K H' us ((zaC (fun j=>zce n (w1 j) (w2 j)) k).map zcz) -> Q (.ref l) H') : zfD K [.ref l1,.ref l2,.int (n : Int)] H Q E:=⟨_,_,_,rfl,l1,l2,r1,r2,w1,w2,k,n,rfl,rfl,rfl,e1,t1,e2,t2,hk,hn,b1,b2,q⟩
set_option maxHeartbeats 4000000 in
theorem ziX (T : Txt K mg a) : zbr P w K mg base CX0 2 a.law_both a.fd_law_both ["_law_mine","_law_yours","_law_many"] (zfD K):=by
 refine T.F_law_both.ok zc8 (fun vs H Q E h=>by obtain ⟨_,_,_,rfl,_⟩:=h; rfl) (fun cdv A outer s H vs Q E hr h=>?_)
 obtain ⟨x0,x1,x2,rfl,h⟩:=h
 have hu:=hr.units
 refine ⟨_,(zae (zap (i:=3) zc8.nd rfl (Or.inr rfl) (zan (show zaj _ (.type "dict") (zie K) from zfO rfl) rfl T.z_dict zlC (zaa (pv 0) zab)))
     (zae (zap (i:=4) zc8.nd rfl (Or.inr rfl) (zan (show zaj _ (.type "dict") (zie K) from zfO rfl) rfl T.z_dict zlC (zaa (pv 1) zab)))
     (zae (zap (i:=5) zc8.nd rfl (Or.inl rfl) (zam (show zaj _ (.builtin "sorted") (zkN w) from zku rfl) rfl T.z_sorted zh2 (zaa (zan (show zaj _ (.type "set") (znI K w) from zkd rfl) rfl T.z_set zn3 (zaa (zaq zaR (zan (show zaj _ (.type "list") zia from zfv rfl) rfl T.z_list zfZ (zaa (pv 3) zab)) (zan (show zaj _ (.type "list") zia from zfv rfl) rfl T.z_list zfZ (zaa (pv 4) zab))) zab)) zab)))
     (zai (zaB (zaU rfl (zaL.by (N':=["_law_at","_law_many","_law_first","_law_second"]) (src:=[none,some 2,some 3,some 4]) rfl (show zaF _ (zac zbV).names ["_law_mine","_law_yours","_law_many","_law_first","_law_second","_law_both_here"] ["_law_at","_law_many","_law_first","_law_second"] [none,some 2,some 3,some 4] = true from by decide +kernel)) (zcq (pv 5)) (fun _ _ _ _ _=>(zak (i:=0) (show (["_law_at","_law_many","_law_first","_law_second"] : List Str).Nodup from by decide) rfl (Or.inl rfl))) (fun _ _ _ _ _=>zaY) (fun _ _ _ _ _=>by exact (show PE _ _ (zfI K _) from zaS (zaa (pv 0) (zaa (zag (zjv (K:=K) (mg:=mg) (a:=a) T) (hr.mono (by decide)) rfl T.g_law_laid T.F_law_laid.kp T.b_law_laid .nil zat (zaa (zjW (Nat.lt_of_le_of_lt (Nat.add_le_add_left (by decide) _) hu) (pv 2) (pv 0) (show PE _ _ (zfI K _) from zaS zab) ⟨rfl,rfl,rfl,rfl⟩) (zaa (zjW (Nat.lt_of_le_of_lt (Nat.add_le_add_left (by decide) _) hu) (pv 3) (pv 0) (show PE _ _ (zfI K _) from zaS zab) ⟨rfl,rfl,rfl,rfl⟩) (zaa (pv 1) zab)))) zab)))))))))),?_⟩
 clear hu
 try clear hgd
 try dsimp only [zbp,zbc]
 rw [show start ["_law_mine","_law_yours","_law_many","_law_first","_law_second","_law_both_here"] [x0,x1,x2] = [some x0,some x1,some x2,none,none,none] from rfl]
 obtain ⟨l1,l2,r1,r2,w1,w2,k,n,rfl,rfl,rfl,e1,t1,e2,t2,hk,hn,b1,b2,q⟩:=h
 obtain ⟨v1,p1⟩:=zi1 t1
 obtain ⟨v2,p2⟩:=zi1 t2
 have ln1 : r1.length = (zaC w1 k).length:=by rw [t1.length,List.length_map]
 have ln2 : r2.length = (zaC w2 k).length:=by rw [t2.length,List.length_map]
 have lk1:=zd4 w1 k
 have lk2:=zd4 w2 k
 wtm_at "gg"
 refine zjc (.of e1) (by omega) (fun j u hu=>(p1 j u hu).1) (fun i j hi hj e=>ziW (by omega) (by omega) e) (fun d1 H3 n3 S3 e3=>?_)
 wtm_at "gg"
 refine zjc (.of (S3 _ _ e2)) (by omega) (fun j u hu=>let ⟨qq,e,s⟩:=(p2 j u hu).1; ⟨qq,e,S3.sqT s⟩) (fun i j hi hj e=>ziW (by omega) (by omega) e) (fun d2 H4 n4 S4 e4=>?_)
 wtm_at "gg"
 refine zjp (S4 _ _ e3) (fun l5 H5 n5 S5 e5=>?_)
 rw [zg0 ln1] at e5
 wtm_at "gg"
 refine zjp (S5 _ _ e4) (fun l6 H6 n6 S6 e6=>?_)
 rw [zg0 ln2] at e6
 wtm_at "gg"
 refine zfV (S6 _ _ e5) e6 (Nat.le_of_lt (zbH (by simp only [List.length_map]; omega))) (fun l7 H7 n7 S7 e7=>?_)
 rw [<- List.map_append] at e7
 wtm_at "gg"
 refine zoV (.of e7) (by simp only [List.length_append,List.length_map]; omega) (fun l8 H8 ks n8 S8 e8 nd8 m8=>?_)
 have hkl:=Nat.le_trans (zeJ nd8 fun x hx=>zmm.mp ((m8 x).mp hx)) (zhH w1 w2 k)
 wtm_at "gg"
 refine zm9 e8 (by omega) (fun l9 H9 ms n9 S9 e9 pm so=>?_)
 have hms : ms = zcB w1 w2 k:=znJ so (pm.nodup_iff.mpr nd8) fun x=>by rw [pm.mem_iff]; exact m8 x
 subst hms
 have S49:=S5.trans (S6.trans (S7.trans (S8.trans S9)))
 have e3':=S49 _ _ (S4 _ _ e3)
 have e4':=S49 _ _ e4
 have S09:=S3.trans (S4.trans S49)
 have hml:=zhH w1 w2 k
 clear S5 S6 S7 S8 S9 e5 e6 e7 e8 n5 n6 n7 n8 n9 S49 m8 nd8 hkl pm so
 wtm_at "gg"
 refine zeR (.of e9) (o0:=none) (tl:=[some (.int (n : Int)),some (.ref d1),some (.ref d2)]) rfl (fun j y H'=>Is K H' y (zcz (((zcB w1 w2 k).getD j 0).toNat,zce n (w1 (((zcB w1 w2 k).getD j 0).toNat - 1)) (w2 (((zcB w1 w2 k).getD j 0).toNat - 1))))) ?_ ?_
 . intro D i x ys o H10 hx inv
   obtain ⟨hi,rfl⟩:=int_at hx
   obtain ⟨m0,hm0,em⟩:=zlM (GM.getD_mem (d:=0) hi)
   have et : ((zcB w1 w2 k).getD i 0).toNat = m0 + 1:=by omega
   have S10:=inv.same
   have hv1 : ∀ H',zaf H10 H' -> ∀ j,j < r1.length -> Is K H' (v1 j) (TWs (zcv (zaC w1 k) j).2):=fun H' S j hj=>((p1 j _ (List.getElem?_eq_getElem hj)).2.by (S09.trans S10)).by S
   have hv2 : ∀ H',zaf H10 H' -> ∀ j,j < r2.length -> Is K H' (v2 j) (TWs (zcv (zaC w2 k) j).2):=fun H' S j hj=>((p2 j _ (List.getElem?_eq_getElem hj)).2.by (S09.trans S10)).by S
   rw [em]
   wtm_at "gg"
   refine zjT ?_
   wtm_at "gg"
   refine ⟨d1,rfl,zp9 (S10 _ _ e3'),?_⟩
   wtm_at "gg"
   refine zaQ (ds:=[]) (by simp) .nil (fun v11 H11 S11 i11=>?_)
   refine ⟨_,zhb.k (k:=.inl ((m0 : Int) + 1)) ((S10.trans S11) _ _ e3'),?_⟩
   have ia:=zgk hm0 ln1 (hv1 H11 S11) i11
   generalize (zen ((List.range r1.length).map fun j=>((.inl ((zcv (zaC w1 k) j).1 : Int) : Key),v1 j)) (.inl ((m0 : Int) + 1))).getD v11 = va at *
   wtm_at "gg"
   refine zjT ?_
   wtm_at "gg"
   refine ⟨d2,rfl,zp9 ((S10.trans S11) _ _ e4'),?_⟩
   wtm_at "gg"
   refine zaQ (ds:=[]) (by simp) .nil (fun v12 H12 S12 i12=>?_)
   refine ⟨_,zhb.k (k:=.inl ((m0 : Int) + 1)) ((S10.trans (S11.trans S12)) _ _ e4'),?_⟩
   have ib:=zgk hm0 ln2 (hv2 H12 (S11.trans S12)) i12
   generalize (zen ((List.range r2.length).map fun j=>((.inl ((zcv (zaC w2 k) j).1 : Int) : Key),v2 j)) (.inl ((m0 : Int) + 1))).getD v12 = vb at *
   wtm_at "gg"
   refine zjG (ia.by S12) ib (b1 m0).1 (b2 m0).1 hn (b1 m0).2 (b2 m0).2 (fun v13 H13 S13 i13=>?_)
   wtm_at "gg"
   refine zaQ (ds:=[.int ((m0 : Int) + 1),TWs (zce n (w1 m0) (w2 m0))]) (by simp) (.cons (zaT.mpr rfl) (.cons i13 .nil)) (fun v14 H14 S14 i14=>?_)
   refine zbE inv (by omega) (fun _ _ _ _ k' z=>z.byK k' (zeS _)) ⟨_,rfl⟩ (S11.trans (S12.trans (S13.trans S14))) ?_
   rw [et,Nat.add_sub_cancel]
   exact i14
 . intro D ys H10 n10 S10 e10 hl10 hr10
   wtm_at "gg"
   refine q D ys H10 (S09.trans S10) e10 ?_
   rw [zlN,List.map_map]
   rw [List.length_map] at hl10
   refine zds (by rw [List.length_map]; exact hl10) fun j x hx=>?_
   have hj : j < (zcB w1 w2 k).length:=by rw [<- hl10]; exact zdO hx
   have:=hr10 j x hx
   rw [List.getD_eq_getElem?_getD,List.getElem?_map,List.getElem?_eq_getElem hj]
   rw [List.getD_eq_getElem?_getD,List.getElem?_eq_getElem hj] at this
   exact this
theorem zlb {rs : List Int} {us ts : List (List Int)} {ps cs : List Int} (n8 : rs.length <= 8) : ∀ (f : Nat) (g : List Nat),zhc rs.length g -> (zbP rs us ts ps cs f g).length + g.length <= rs.length /\ ∀ w ∈ zbP rs us ts ps cs f g,w.length <= 8 /\ ∀ x ∈ w,x < 8
 | 0,g,h=>⟨by have:=h.len; simp only [zbP,List.length_nil]; omega,fun w hw=>by cases hw⟩
 | f + 1,g,h=>by
   by_cases e : GM.fresh rs us ts ps cs g = []
   . rw [(zaI e _).1]
     exact ⟨by have:=h.len; rw [List.length_nil]; omega,fun w hw=>by cases hw⟩
   . rw [(zaE e f).1]
     obtain ⟨h1,h2⟩:=zlb n8 (rs:=rs) (us:=us) (ts:=ts) (ps:=ps) (cs:=cs) f (g ++ GM.fresh rs us ts ps cs g) h.app
     have hp : 0 < (GM.fresh rs us ts ps cs g).length:=List.length_pos_iff.mpr e
     rw [List.length_append] at h1
     refine ⟨by rw [List.length_cons]; omega,fun w hw=>?_⟩
     rcases List.mem_cons.mp hw with z | z
     . subst z
       refine ⟨by omega,fun x hx=>by have:=(zdU hx).1; omega⟩
     . exact h2 w z
theorem ziJ {rs ps : List Int} {us ts cm : List (List Int)} (ok : zaN rs us ts) (j : Nat) : (wvN rs us ts ps cm j).length <= 8 /\ ∀ r ∈ wvN rs us ts ps cm j,r.length <= 8 /\ ∀ w ∈ r,w < 8:=by
 obtain ⟨h1,h2⟩:=zlb (us:=us) (ts:=ts) (ps:=(stN rs us ts ps cm j).1) (cs:=(stN rs us ts ps cm j).2.getD 0 []) ok.n8 9 [] ⟨List.nodup_nil,fun w hw=>by cases hw⟩
 exact ⟨Nat.le_trans (Nat.le_trans (Nat.le_add_right _ _) h1) ok.n8,h2⟩
theorem zir (rs : List Int) (us ts : List (List Int)) (ps : List Int) (cm : List (List Int)) (c : Nat) : ∀ j,stN rs us ts (stN rs us ts ps cm c).1 (stN rs us ts ps cm c).2 j = stN rs us ts ps cm (c + j)
 | 0=>rfl
 | j + 1=>by
   rw [stN,zir rs us ts ps cm c j]
   rfl
theorem zhz (w : Nat -> List (List Nat)) (c : Nat) : ∀ d,zaC w c ++ (zaC (fun j=>w (c + j)) d).map (fun r=>(r.1 + c,r.2)) = zaC w (c + d)
 | 0=>by rw [show zaC (fun j=>w (c + j)) 0 = [] from rfl,List.map_nil,List.append_nil]; rfl
 | d + 1=>by
   have e : ∀ (w : Nat -> List (List Nat)) k,zaC w (k + 1) = zaC w k ++ if w k = [] then [] else [(k + 1,w k)]:=fun w k=>by
     rw [zaC,zaC,List.range_succ,List.filter_append,List.map_append]
     congr 1
     by_cases h : w k = []
     . rw [if_pos h,List.filter_cons_of_neg (by simp [h])]; rfl
     . rw [if_neg h,List.filter_cons_of_pos (by simp [h])]; rfl
   rw [e,List.map_append,<- List.append_assoc,zhz w c d,show c + (d + 1) = (c + d) + 1 from rfl,e]
   congr 1
   split
   . rfl
   . show [(d + 1 + c,w (c + d))] = _
     rw [show d + 1 + c = c + d + 1 from by omega]
theorem zpk (n m : Nat) : zdh (zaD n) (zaD m) = zaD (n + m):=by
 unfold zdh zaD
 rw [show List.range 4 = [0,1,2,3] from rfl]
 simp [List.replicate_append_replicate,List.replicate]
theorem zn1 (ps : List Int) (cm : List (List Int)) : Sh 4 (StD ps cm):=zfl fun d hd=>by
 simp only [List.mem_cons,List.not_mem_nil,or_false] at hd
 rcases hd with rfl | rfl
 . exact (zqi _).mono (by decide)
 . exact zfl fun d hd=>by
     obtain ⟨r,_,rfl⟩:=List.mem_map.mp hd
     exact zqi r
theorem zli (l : List (Nat × List (List Nat))) : Sh 6 (.list (l.map zcz)):=zrs fun d hd=>by
 obtain ⟨r,_,rfl⟩:=List.mem_map.mp hd
 exact zfl fun d hd=>by
   simp only [List.mem_cons,List.not_mem_nil,or_false] at hd
   rcases hd with rfl | rfl
   . exact (zkI _).mono (by decide)
   . exact zrk _
theorem zlv (l : List (Nat × List (List Nat))) : PyData.eqv (.list (l.map zcz)) (.list (l.map zcz)) = true:=zrh fun d hd=>by
 obtain ⟨r,_,rfl⟩:=List.mem_map.mp hd
 exact zgm fun d hd=>by
   simp only [List.mem_cons,List.not_mem_nil,or_false] at hd
   rcases hd with rfl | rfl
   . simp [PyData.eqv]
   . exact zrE _
abbrev zrC:=List Int × List (List Int) × List (List Int)
def wD (w : zrC) : PyData:=zbb w.1 w.2.1 w.2.2
theorem zmD (l : List zrC) : ImmAll (l.map wD) = true:=zdz _ (fun w=>zjO _ _ _) l
abbrev StT:=List Int × Nat
def sD (x : StT) : PyData:=StD x.1 (zaD x.2)
theorem zl9 (l : List StT) : ImmAll (l.map sD) = true:=zdz _ (fun x=>zk5 _ _) l
theorem zii {α : Type} {l : List α} (h : l.length = 2) : ∃ a b,l = [a,b]:=by
 match l,h with
 | [a,b],_=>exact ⟨a,b,rfl⟩
theorem zdm {K : PySem.W.Frag} {H : Hp} {ys : List V} {d e : PyData} (t : IsAll K H ys [d,e]) : ∃ x y,ys = [x,y] /\ Is K H x d /\ Is K H y e:=by
 obtain ⟨x,y,rfl⟩:=zii t.length
 obtain ⟨x',e1,i1⟩:=t.get (i:=0) (show _ = some d from rfl)
 obtain ⟨y',e2,i2⟩:=t.get (i:=1) (show _ = some e from rfl)
 cases e1
 cases e2
 exact ⟨_,_,rfl,i1,i2⟩
def zil (K : PySem.W.Frag) : Sp:=fun vs H Q _=>∃ x0,vs = [x0] /\ ∃ (a : Addr) (ns : List Int),x0 = .ref a /\ SqF K H a (ns.map V.int) /\ ns.length <= 63 /\ ∀ H',Q (.bl true) H'
set_option maxHeartbeats 4000000 in
theorem zrj (T : Txt K mg a) : zbr P w K mg base CX0 7 a.law a.fd_law ["_law_script"] (zil K):=by
 refine T.F_law.ok zbQ (fun vs H Q E h=>by obtain ⟨_,rfl,_⟩:=h; rfl) (fun cdv A outer s H vs Q E hr h=>?_)
 obtain ⟨x0,rfl,h⟩:=h
 have hu:=hr.units
 refine ⟨_,(zae (zcP (i:=1) zbQ.nd rfl (Or.inl rfl) rfl (zaL.by (N':=["_law_k","_law_script"]) (src:=[none,some 0]) rfl (show zaF _ (zac zdX).names ["_law_script","_law_drawn","_law_webs","_law_stands","_law_both_here","_law_web_here","_law_stand","_law_pen_here","_law_many","_law_told","_law_last","_law_one","_law_other","_law_cut","_law_there","_law_rest"] ["_law_k","_law_script"] [none,some 0] = true from by decide +kernel)) (zbd rfl T.z_range (zaa zad zab)) (fun _ _ _ _ _=>(zak (i:=0) (show (["_law_k","_law_script"] : List Str).Nodup from by decide) rfl (Or.inl rfl))) (fun _ _ _ _ _=>zaY) (fun _ _ _ _ _=>(zag (zkg (K:=K) (mg:=mg) (a:=a) T) (hr.mono (by decide)) rfl T.g_law_web T.F_law_web.kp T.b_law_web .nil zat (zaa (zag (zeu (K:=K) (mg:=mg) (a:=a) T) (hr.mono (by decide)) rfl T.g_law_pen T.F_law_pen.kp T.b_law_pen .nil zat (zaa (pv 1) (zaa (zaq zcF zad (pv 0)) zab))) (zaa zad zab)))))
     (zae (zap (i:=2) zbQ.nd rfl (Or.inr rfl) (zaU rfl (zaL.by (N':=["_law_one"]) (src:=[none]) rfl (show zaF _ (zac zdX).names ["_law_script","_law_drawn","_law_webs","_law_stands","_law_both_here","_law_web_here","_law_stand","_law_pen_here","_law_many","_law_told","_law_last","_law_one","_law_other","_law_cut","_law_there","_law_rest"] ["_law_one"] [none] = true from by decide +kernel)) (zcq (pv 1)) (fun _ _ _ _ _=>(zak (i:=0) (show (["_law_one"] : List Str).Nodup from by decide) rfl (Or.inl rfl))) (fun _ _ _ _ _=>zaY) (fun _ _ _ _ _=>(zag (zhN (K:=K) (mg:=mg) (a:=a) T) (hr.mono (by decide)) rfl T.g_web_of T.F_web_of.kp T.b_web_of .nil znE (zaa (zal (show IxR _ (rIx K) from zah) (pv 0) zad (fun _ _=>rfl)) (zaa (zal (show IxR _ (rIx K) from zah) (pv 0) zad (fun _ _=>rfl)) (zaa (zal (show IxR _ (rIx K) from zah) (pv 0) zad (fun _ _=>rfl)) zab)))))))
     (zae (zcP (i:=3) zbQ.nd rfl (Or.inl rfl) rfl (zaL.by (N':=["_law_k","_law_script","_law_webs"]) (src:=[none,some 0,some 2]) rfl (show zaF _ (zac zdX).names ["_law_script","_law_drawn","_law_webs","_law_stands","_law_both_here","_law_web_here","_law_stand","_law_pen_here","_law_many","_law_told","_law_last","_law_one","_law_other","_law_cut","_law_there","_law_rest"] ["_law_k","_law_script","_law_webs"] [none,some 0,some 2] = true from by decide +kernel)) (zbd rfl T.z_range (zaa zad zab)) (fun _ _ _ _ _=>(zak (i:=0) (show (["_law_k","_law_script","_law_webs"] : List Str).Nodup from by decide) rfl (Or.inl rfl))) (fun _ _ _ _ _=>zaY) (fun _ _ _ _ _=>(zag (ziw (K:=K) (mg:=mg) (a:=a) T) (hr.mono (by decide)) rfl T.g_law_begin T.F_law_begin.kp T.b_law_begin .nil zat (zaa (zag (zeu (K:=K) (mg:=mg) (a:=a) T) (hr.mono (by decide)) rfl T.g_law_pen T.F_law_pen.kp T.b_law_pen .nil zat (zaa (pv 1) (zaa (zaq zaR (zaq zcF zad (pv 0)) zad) zab))) (zaa (zal (show IxR _ (rIx K) from zah) (pv 2) (pv 0) (fun _ _=>rfl)) zab)))))
     (zae (zap (i:=4) zbQ.nd rfl (Or.inl rfl) (zag (zhe T) (hr.mono (by decide)) rfl T.g_law_beside T.F_law_beside.kp T.b_law_beside .nil zat (zaa (zal zah (pv 2) zad (fun _ _=>rfl)) (zaa (zal zah (pv 2) zad (fun _ _=>rfl)) zab))))
     (zae (zap (i:=5) zbQ.nd rfl (Or.inl rfl) (zag (zhN T) (hr.mono (by decide)) rfl T.g_web_of T.F_web_of.kp T.b_web_of .nil znE (zaa (zal zah (pv 4) zad (fun _ _=>rfl)) (zaa (zal zah (pv 4) zad (fun _ _=>rfl)) (zaa (zal zah (pv 4) zad (fun _ _=>rfl)) zab)))))
     (zae (zap (i:=6) zbQ.nd rfl (Or.inl rfl) (zag (zjK T) (hr.mono (by decide)) rfl T.g_stand_of T.F_stand_of.kp T.b_stand_of .nil znE (zaa (pv 5) (zaa (zaq (show OpR _ (binaryOp .Add) (zdE K) from zcr) (zal zah (zal zah (pv 3) zad (fun _ _=>rfl)) zad (fun _ _=>rfl)) (zal zah (zal zah (pv 3) zad (fun _ _=>rfl)) zad (fun _ _=>rfl))) zab))))
     (zae (zap (i:=7) zbQ.nd rfl (Or.inl rfl) (zag (zeu T) (hr.mono (by decide)) rfl T.g_law_pen T.F_law_pen.kp T.b_law_pen .nil zat (zaa (pv 0) (zaa zad zab))))
     (zae (zap (i:=8) zbQ.nd rfl (Or.inl rfl) (zag (za1 T) (hr.mono (by decide)) rfl T.g_law_draw T.F_law_draw.kp T.b_law_draw .nil zat (zaa (pv 7) (zaa zad zab))))
     (zae (zap (i:=9) zbQ.nd rfl (Or.inl rfl) (zag (zgr T) (hr.mono (by decide)) rfl T.g_run T.F_run.kp T.b_run .nil zat (zaa (pv 5) (zaa (pv 6) (zaa (pv 8) zab)))))
     (zae (zcU (zba (show OpR _ (compareOp .NotEq) (zgo K) from zem hu) (pv 9) (zag (ziX T) (hr.mono (by decide)) rfl T.g_law_both T.F_law_both.kp T.b_law_both .nil zat (zaa (zag (zgr T) (hr.mono (by decide)) rfl T.g_run T.F_run.kp T.b_run .nil zat (zaa (zal zah (pv 2) zad (fun _ _=>rfl)) (zaa (zal zah (pv 3) zad (fun _ _=>rfl)) (zaa (pv 8) zab)))) (zaa (zag (zgr T) (hr.mono (by decide)) rfl T.g_run T.F_run.kp T.b_run .nil zat (zaa (zal zah (pv 2) zad (fun _ _=>rfl)) (zaa (zal zah (pv 3) zad (fun _ _=>rfl)) (zaa (pv 8) zab)))) (zaa (zam (show zaj _ (.builtin "len") (zcb K) from zax) rfl T.z_len za8 (zaa (zal zah (zal zah (pv 2) zad (fun _ _=>rfl)) zad (fun _ _=>rfl)) zab)) zab)))) (zbq _)) (zai (zaB zeC)) zbu)
     (zae (zap (i:=10) zbQ.nd rfl (Or.inl rfl) (zag (zbx T) (hr.mono (by decide)) rfl T.g_stand_behind T.F_stand_behind.kp T.b_stand_behind .nil zat (zaa (pv 5) (zaa (pv 6) (zaa (pv 8) zab)))))
     (zae (zap (i:=11) zbQ.nd rfl (Or.inl rfl) (zag (zbx T) (hr.mono (by decide)) rfl T.g_stand_behind T.F_stand_behind.kp T.b_stand_behind .nil zat (zaa (zal zah (pv 2) zad (fun _ _=>rfl)) (zaa (zal zah (pv 3) zad (fun _ _=>rfl)) (zaa (pv 8) zab)))))
     (zae (zap (i:=12) zbQ.nd rfl (Or.inl rfl) (zag (zbx T) (hr.mono (by decide)) rfl T.g_stand_behind T.F_stand_behind.kp T.b_stand_behind .nil zat (zaa (zal zah (pv 2) zad (fun _ _=>rfl)) (zaa (zal zah (pv 3) zad (fun _ _=>rfl)) (zaa (pv 8) zab)))))
     (zae (zcU (zba (show OpR _ (compareOp .NotEq) (zgo K) from zem hu) (pv 10) (zaS (zaa (zaq (show OpR _ (binaryOp .Add) (zdE K) from zcr) (zal zah (pv 11) zad (fun _ _=>rfl)) (zal zah (pv 12) zad (fun _ _=>rfl))) (zaa (zan (show zaj _ (.type "tuple") (zas K) from zao) rfl T.z_tuple zaG (zaa (zaU rfl (zaL.by (N':=["_law_a","_law_b"]) (src:=[none,none]) rfl (show zaF _ (zac zdX).names ["_law_script","_law_drawn","_law_webs","_law_stands","_law_both_here","_law_web_here","_law_stand","_law_pen_here","_law_many","_law_told","_law_last","_law_one","_law_other","_law_cut","_law_there","_law_rest"] ["_law_a","_law_b"] [none,none] = true from by decide +kernel)) (zoH rfl T.z_zip (zaa (zal zah (pv 11) zad (fun _ _=>rfl)) (zaa (zal zah (pv 12) zad (fun _ _=>rfl)) zab))) (fun _ _ _ _ _=>by exact (show PG _ _ (ziI K 2 _) from zdM (n:=2) rfl (zaZ (zak (i:=0) (show (["_law_a","_law_b"] : List Str).Nodup from by decide) rfl (Or.inl rfl)) (zaZ (zak (i:=1) (show (["_law_a","_law_b"] : List Str).Nodup from by decide) rfl (Or.inl rfl)) zcZ)))) (fun _ _ _ _ _=>zaY) (fun _ _ _ _ _=>(zaq (show OpR _ (binaryOp .Add) (zdE K) from zcr) (pv 0) (pv 1)))) zab)) zab))) (zbq _)) (zai (zaB zeC)) zbu)
     (zae (zap (i:=13) zbQ.nd rfl (Or.inr rfl) (zag (za1 T) (hr.mono (by decide)) rfl T.g_law_draw T.F_law_draw.kp T.b_law_draw .nil zat (zaa (pv 7) (zaa (zaq zaR (pv 8) zad) zab))))
     (zae (zap (i:=14) zbQ.nd rfl (Or.inl rfl) (zag (zbx T) (hr.mono (by decide)) rfl T.g_stand_behind T.F_stand_behind.kp T.b_stand_behind .nil zat (zaa (pv 5) (zaa (pv 6) (zaa (pv 13) zab)))))
     (zae (zcP (i:=15) zbQ.nd rfl (Or.inl rfl) rfl (zaL.by (N':=["_law_at","_law_waves","_law_cut"]) (src:=[none,none,some 13]) rfl (show zaF _ (zac zdX).names ["_law_script","_law_drawn","_law_webs","_law_stands","_law_both_here","_law_web_here","_law_stand","_law_pen_here","_law_many","_law_told","_law_last","_law_one","_law_other","_law_cut","_law_there","_law_rest"] ["_law_at","_law_waves","_law_cut"] [none,none,some 13] = true from by decide +kernel)) (zcq (zag (zgr T) (hr.mono (by decide)) rfl T.g_run T.F_run.kp T.b_run .nil zat (zaa (pv 5) (zaa (pv 14) (zaa (zaq zfr (pv 8) (pv 13)) zab))))) (fun _ _ _ _ _=>by exact (show PG _ _ (ziI K 2 _) from zdM (n:=2) rfl (zaZ (zak (i:=0) (show (["_law_at","_law_waves","_law_cut"] : List Str).Nodup from by decide) rfl (Or.inl rfl)) (zaZ (zak (i:=1) (show (["_law_at","_law_waves","_law_cut"] : List Str).Nodup from by decide) rfl (Or.inl rfl)) zcZ)))) (fun _ _ _ _ _=>zaY) (fun _ _ _ _ _=>by exact (show PE _ _ (zfI K _) from zaS (zaa (zaq zaR (pv 0) (pv 2)) (zaa (pv 1) zab)))))
     (zai (zaB (zew (ze1 (show OpR _ (compareOp .Eq) (zhh K) from ze8 hu) (zaq zaR (zag (zgr T) (hr.mono (by decide)) rfl T.g_run T.F_run.kp T.b_run .nil zat (zaa (pv 5) (zaa (pv 6) (zaa (pv 13) zab)))) (pv 15)) (pv 9) (zbq _)) (zez (ze1 (show OpR _ (compareOp .Eq) (zhh K) from ze8 hu) (zag (zbx T) (hr.mono (by decide)) rfl T.g_stand_behind T.F_stand_behind.kp T.b_stand_behind .nil zat (zaa (pv 5) (zaa (pv 14) (zaa (zaq zfr (pv 8) (pv 13)) zab)))) (pv 10) (zbq _))))))))))))))))))))))),?_⟩
 clear hu
 try clear hgd
 try dsimp only [zbp,zbc]
 rw [show start ["_law_script","_law_drawn","_law_webs","_law_stands","_law_both_here","_law_web_here","_law_stand","_law_pen_here","_law_many","_law_told","_law_last","_law_one","_law_other","_law_cut","_law_there","_law_rest"] [x0] = [some x0,none,none,none,none,none,none,none,none,none,none,none,none,none,none,none] from rfl]
 obtain ⟨a',ns0,rfl,hs,hl,q⟩:=h
 wtm_at "gg"
 refine zch (n:=2) (by decide) (by decide) (fun D i ys σ' H'=>(∃ o,σ' = [o,some (.ref a')]) /\ za7 H H' /\ H' D = some (.lst ys) /\ ∃ L : List zrC,L.length = i /\ IsAll K H' ys (L.map wD) /\ ∀ w ∈ L,zaN w.1 w.2.1 w.2.2 /\ w.1.length <= 4 /\ w.2.2.length <= 8) (fun D H' n s e=>⟨⟨_,rfl⟩,s.keep,e,[],rfl,.nil,fun w hw=>by cases hw⟩) ?_ ?_
 . rintro D i ys σ' H1 hi ⟨⟨o,rfl⟩,K1,eD,L,hL,t1,ok⟩
   have hi : i < 2:=hi
   wtm_at "gg"
   refine zey (K1.sqF hs) hl (by omega) (by omega) (fun p H2 hp2 S2 P2=>?_)
   wtm_at "gg"
   refine zj3 P2 (by decide) (by decide) (fun vd H3 rs us ts E3 K3 P3 id ok0 l4 l8=>?_)
   have nDp : D ≠ p:=fun z=>by subst z; rw [eD] at hp2; cases hp2
   have eD3:=E3.at nDp (S2 _ _ eD)
   have hyl:=t1.length
   rw [List.length_map,hL] at hyl
   refine zbA eD3 (by omega) (fun H4 E4 e4=>⟨⟨_,rfl⟩,?_,e4,L ++ [(rs,us,ts)],by rw [List.length_append,hL]; rfl,?_,fun w hw=>?_⟩)
   . exact K1.trans (S2.keep.trans (K3.trans (E4.keep eD3)))
   . have k14:=S2.keep.trans (K3.trans (E4.keep eD3))
     rw [List.map_append]
     exact (IsAll.keep k14 _ _ (zmD _) t1).append (.cons (id.thruW (E4.keep eD3)) .nil)
   . rcases List.mem_append.mp hw with z | z
     . exact ok w z
     . rw [List.mem_singleton.mp z]
       exact ⟨ok0,by have : (rs.length : Int) <= 4:=l4; show rs.length <= 4; omega,l8⟩
 rintro l1 ys1 σ' H1 ⟨_,K1,e1,L,hL,t1,okL⟩
 obtain ⟨⟨rs1,us1,tu1⟩,⟨rs2,us2,tu2⟩,rfl⟩:=zii (show L.length = 2 from hL)
 obtain ⟨y1,y2,rfl,i1,i2⟩:=zdm t1
 obtain ⟨ok1,n41,m81⟩:=okL _ (.head _)
 obtain ⟨ok2,n42,m82⟩:=okL _ (.tail _ (.head _))
 have i1 : Is K H1 y1 (zbb rs1 us1 tu1):=i1
 have i2 : Is K H1 y2 (zbb rs2 us2 tu2):=i2
 have ok1 : zaN rs1 us1 tu1:=ok1
 have ok2 : zaN rs2 us2 tu2:=ok2
 have n41 : rs1.length <= 4:=n41
 have n42 : rs2.length <= 4:=n42
 have m81 : tu1.length <= 8:=m81
 have m82 : tu2.length <= 8:=m82
 clear okL t1 hL
 wtm_at "gg"
 refine zeR (.of e1) (o0:=none) (tl:=[]) rfl (fun j y H'=>(j = 0 -> ∃ ts,ts.Perm tu1 /\ Is K H' y (zbb rs1 us1 ts)) /\ (j = 1 -> ∃ ts,ts.Perm tu2 /\ Is K H' y (zbb rs2 us2 ts))) ?_ ?_
 . intro D i x ys o H2 hx inv
   have S2:=inv.same
   have hi : i < 2:=zdO hx
   obtain ⟨rs,us,tu,ix,okx,c0,c1⟩ : ∃ rs us tu,Is K H2 x (zbb rs us tu) /\ zaN rs us tu /\ (i = 0 -> rs = rs1 /\ us = us1 /\ tu = tu1) /\ (i = 1 -> rs = rs2 /\ us = us2 /\ tu = tu2):=by
     rcases (show i = 0 \/ i = 1 by omega) with rfl | rfl
     . cases hx
       exact ⟨rs1,us1,tu1,i1.by S2,ok1,fun _=>⟨rfl,rfl,rfl⟩,fun z=>by cases z⟩
     . cases hx
       exact ⟨rs2,us2,tu2,i2.by S2,ok2,(fun z=>by cases z),fun _=>⟨rfl,rfl,rfl⟩⟩
   wtm_at "gg"
   refine zbJ ix (fun z0 j0=>?_)
   wtm_at "gg"
   refine zec ix (fun z1 j1=>?_)
   wtm_at "gg"
   refine zeN ix (fun z2 j2=>?_)
   wtm_at "gg"
   refine zhE (zjs j0 j1 j2 okx) (fun vw H3 ts S3 pm iw=>?_)
   wtm_at "gg"
   refine zbE inv (by omega) (fun _ _ _ _ k' z=>⟨fun e=>let ⟨ts,a,b⟩:=z.1 e; ⟨ts,a,b.thruW k'⟩,fun e=>let ⟨ts,a,b⟩:=z.2 e; ⟨ts,a,b.thruW k'⟩⟩) ⟨_,rfl⟩ S3 ⟨fun e=>?_,fun e=>?_⟩
   . obtain ⟨rfl,rfl,rfl⟩:=c0 e
     exact ⟨ts,pm,iw⟩
   . obtain ⟨rfl,rfl,rfl⟩:=c1 e
     exact ⟨ts,pm,iw⟩
 intro l2 ys2 H2 nl2 S2 e2 hl2 hr2
 obtain ⟨w1,w2,rfl⟩:=zii (show ys2.length = 2 from hl2)
 obtain ⟨ts1,pm1,iw1⟩:=(hr2 0 w1 rfl).1 rfl
 obtain ⟨ts2,pm2,iw2⟩:=(hr2 1 w2 rfl).2 rfl
 have ok1:=ok1.perm pm1
 have ok2:=ok2.perm pm2
 have m81 : ts1.length <= 8:=by rw [pm1.length_eq]; exact m81
 have m82 : ts2.length <= 8:=by rw [pm2.length_eq]; exact m82
 have K2:=K1.trans S2.keep
 clear hr2 hl2 pm1 pm2 S2 i1 i2 e1 K1 nl2
 wtm_at "gg"
 refine zch (n:=2) (by decide) (by decide) (fun D i ys σ' H'=>(∃ o,σ' = [o,some (.ref a'),some (.ref l2)]) /\ za7 H2 H' /\ H' D = some (.lst ys) /\ H' l2 = some (.lst [w1,w2]) /\ D ≠ l2 /\ ∃ L : List StT,L.length = i /\ IsAll K H' ys (L.map sD) /\ ∀ j x,L[j]? = some x -> (j = 0 -> x.2 = rs1.length /\ x.1.length = rs1.length /\ ∀ i,i < rs1.length -> 0 <= x.1.getD i 0 /\ x.1.getD i 0 < rs1.getD i 0) /\ (j = 1 -> x.2 = rs2.length /\ x.1.length = rs2.length /\ ∀ i,i < rs2.length -> 0 <= x.1.getD i 0 /\ x.1.getD i 0 < rs2.getD i 0)) (fun D H' n s e=>⟨⟨_,rfl⟩,s.keep,e,s _ _ e2,(fun z=>by subst z; rw [e2] at n; cases n),[],rfl,.nil,fun j x hx=>by simp at hx⟩) ?_ ?_
 . rintro D i ys σ' H3 hi ⟨⟨o,rfl⟩,K3,eD,el2,nDl,L,hL,t3,ok⟩
   have hi : i < 2:=hi
   wtm_at "gg"
   refine zey ((K2.trans K3).sqF hs) hl (by omega) (by omega) (fun p H4 hp4 S4 P4=>?_)
   have nDp : D ≠ p:=fun z=>by subst z; rw [eD] at hp4; cases hp4
   have nlp : l2 ≠ p:=fun z=>by subst z; rw [el2] at hp4; cases hp4
   obtain ⟨wv,rs,us,ts,ew,iw,okx,c0,c1⟩ : ∃ wv rs us ts,[w1,w2][i]? = some wv /\ Is K H4 wv (zbb rs us ts) /\ zaN rs us ts /\ (i = 0 -> rs = rs1) /\ (i = 1 -> rs = rs2):=by
     rcases (show i = 0 \/ i = 1 by omega) with rfl | rfl
     . exact ⟨w1,rs1,us1,ts1,rfl,(iw1.thruW K3).by S4,ok1,fun _=>rfl,fun z=>by cases z⟩
     . exact ⟨w2,rs2,us2,ts2,rfl,(iw2.thruW K3).by S4,ok2,(fun z=>by cases z),fun _=>rfl⟩
   wtm_at "gg"
   refine zfd (.of (S4 _ _ el2)) (zc1 ew) ?_
   wtm_at "gg"
   refine zib P4 iw okx (fun vs H5 ps E5 K5 P5 is5 hpl hpp=>?_)
   have eD5:=E5.at nDp (S4 _ _ eD)
   have hyl:=t3.length
   rw [List.length_map,hL] at hyl
   refine zbA eD5 (by omega) (fun H6 E6 e6=>?_)
   have k6:=E6.keep eD5
   have k36:=S4.keep.trans (K5.trans k6)
   refine ⟨⟨_,rfl⟩,K3.trans k36,e6,E6.at (Ne.symm nDl) (E5.at nlp (S4 _ _ el2)),nDl,L ++ [(ps,rs.length)],by rw [List.length_append,hL]; rfl,?_,fun j x hx=>?_⟩
   . rw [List.map_append]
     exact (IsAll.keep k36 _ _ (zl9 _) t3).append (.cons (is5.thruS k6) .nil)
   . rcases Nat.lt_or_ge j L.length with z | z
     . rw [List.getElem?_append_left z] at hx
       exact ok j x hx
     . rw [List.getElem?_append_right z] at hx
       have : j = i:=by have:=zdO hx; rw [List.length_singleton] at this; omega
       subst this
       rw [hL,Nat.sub_self] at hx
       cases hx
       refine ⟨fun e=>?_,fun e=>?_⟩
       . have:=c0 e; subst this; exact ⟨rfl,hpl,hpp⟩
       . have:=c1 e; subst this; exact ⟨rfl,hpl,hpp⟩
 rintro l3 ys3 σ' H3 ⟨_,K3,e3,el2,n32,L,hL,t3,okL⟩
 obtain ⟨⟨ps1,x1⟩,⟨ps2,x2⟩,rfl⟩:=zii (show L.length = 2 from hL)
 obtain ⟨s1,s2,rfl,is1,is2⟩:=zdm t3
 obtain ⟨ex1,pl1,pp1⟩:=(okL 0 _ rfl).1 rfl
 obtain ⟨ex2,pl2,pp2⟩:=(okL 1 _ rfl).2 rfl
 have ex1 : x1 = rs1.length:=ex1
 have ex2 : x2 = rs2.length:=ex2
 subst ex1 ex2
 have so1 : zdq rs1 ps1 (zaD rs1.length):=zgM pl1 pp1
 have so2 : zdq rs2 ps2 (zaD rs2.length):=zgM pl2 pp2
 have is1 : Is K H3 s1 (StD ps1 (zaD rs1.length)):=is1
 have is2 : Is K H3 s2 (StD ps2 (zaD rs2.length)):=is2
 have iw1:=iw1.thruW K3
 have iw2:=iw2.thruW K3
 have K03:=K2.trans K3
 clear okL t3 hL K2 K3 e2
 wtm_at "gg"
 refine zhj iw1 iw2 ok1 ok2 (fun vb H4 S4 ib=>?_)
 have SD0 : zfc rs1 rs2 us1 us2 (ts1 ++ ts2.map (shT rs1.length)) ts1 ts2:=⟨ok1,ok2,.refl _⟩
 have okb:=zoS SD0 (by omega) (by omega)
 wtm_at "gg"
 refine zbJ ib (fun z0 j0=>?_)
 wtm_at "gg"
 refine zec ib (fun z1 j1=>?_)
 wtm_at "gg"
 refine zeN ib (fun z2 j2=>?_)
 wtm_at "gg"
 refine zhE (zjs j0 j1 j2 okb) (fun vw H5 ts S5 pm iw=>?_)
 have SD : zfc rs1 rs2 us1 us2 ts ts1 ts2:=⟨ok1,ok2,pm⟩
 have okw : zaN (rs1 ++ rs2) (us1 ++ us2) ts:=okb.perm pm
 have S35:=S4.trans S5
 have e35:=S35 _ _ e3
 clear okb SD0 pm ib j0 j1 j2 S4 S5
 wtm_at "gg"
 refine zgU (is1.by S35) (fun z3 j3=>?_)
 wtm_at "gg"
 refine zgU (is2.by S35) (fun z4 j4=>?_)
 wtm_at "gg"
 refine zbS j3 j4 (by simp only [List.length_map]; have : ps1.length = rs1.length:=pl1; have : ps2.length = rs2.length:=pl2; omega) (fun z5 H6 S6 j5=>?_)
 have j5 : Is K H6 z5 (TZ (ps1 ++ ps2)):=by rw [TZ,List.map_append]; exact j5
 wtm_at "gg"
 have so0 : zdq (rs1 ++ rs2) (ps1 ++ ps2) (zaD (rs1 ++ rs2).length):=by
   have q1 : ps1.length = rs1.length:=pl1
   have q2 : ps2.length = rs2.length:=pl2
   refine zgM (by rw [List.length_append,List.length_append,q1,q2]) fun i hi=>?_
   rw [List.length_append] at hi
   rcases Nat.lt_or_ge i rs1.length with z | z
   . rw [zby z,zby (by omega)]; exact pp1 i z
   . obtain ⟨j,rfl⟩ : ∃ j,i = rs1.length + j:=⟨i - rs1.length,by omega⟩
     rw [zbh rfl,zbh q1]; exact pp2 j (by omega)
 refine zjj (iw.by S6) okw.n8 j5 (.inr rfl) so0.pl so0.p (fun vs H7 S7 is7=>?_)
 rw [List.length_append,<- zpk] at is7 so0
 have S37:=S35.trans (S6.trans S7)
 have e37:=S37 _ _ e3
 have el27:=S37 _ _ el2
 have iw7:=iw.by (S6.trans S7)
 have K07:=K03.trans S37.keep
 clear j3 j4 j5 e35 S35 S6 S7 iw K03
 wtm_at "gg"
 refine zey (K07.sqF hs) hl (by decide) (by decide) (fun p H8 hp8 S8 P8=>?_)
 have nl2 : l2 ≠ p:=fun z=>by subst z; rw [el27] at hp8; cases hp8
 have nl3 : l3 ≠ p:=fun z=>by subst z; rw [e37] at hp8; cases hp8
 wtm_at "gg"
 rename_i r9 H9 r90 r91 E9 K9 P9
 obtain ⟨k,rfl⟩:=Int.eq_ofNat_of_zero_le r90
 have hk : k < 40:=by omega
 have K79:=S8.keep.trans K9
 have K39:=S37.keep.trans K79
 have e39:=E9.at nl3 (S8 _ _ e37)
 have el29:=E9.at nl2 (S8 _ _ el27)
 have iw9:=iw7.thruW K79
 have is9:=is7.thruS K79
 have iw19:=iw1.thruW K39
 have iw29:=iw2.thruW K39
 have is19:=is1.thruS K39
 have is29:=is2.thruS K39
 clear iw7 is7 K79 K39 e37 el27 S8 K9 E9 P8 r90 r91 S37 iw1 iw2 is1 is2 e3 el2 K07
 refine zgS iw9 okw is9 so0 (by omega) (fun l10 rows10 H10 n10 S10 e10 tr10=>?_)
 rw [zcV,show wvN (rs1 ++ rs2) (us1 ++ us2) ts (ps1 ++ ps2) (zdh (zaD rs1.length) (zaD rs2.length)) = fun j=>zce rs1.length (wvN rs1 us1 ts1 ps1 (zaD rs1.length) j) (wvN rs2 us2 ts2 ps2 (zaD rs2.length) j) from funext fun j=>zjm SD so1 so2 j] at tr10
 have e310:=S10 _ _ e39
 have el210:=S10 _ _ el29
 wtm_at "gg"
 refine zgS (iw19.by S10) ok1 (is19.by S10) so1 (by omega) (fun l11 rows11 H11 n11 S11 e11 tr11=>?_)
 have e311:=S11 _ _ e310
 have el211:=S11 _ _ el210
 have S911:=S10.trans S11
 wtm_at "gg"
 refine zgS (iw29.by S911) ok2 (is29.by S911) so2 (by omega) (fun l12 rows12 H12 n12 S12 e12 tr12=>?_)
 have e312:=S12 _ _ e311
 have el212:=S12 _ _ el211
 have S912:=S911.trans S12
 rw [zcV] at tr11 tr12
 wtm_at "gg"
 refine zbJ (iw19.by S912) (fun z6 j6=>?_)
 wtm_at "gg"
 refine zgj j6 ?_
 wtm_at "gg"
 refine zjg (S12 _ _ e11) (IsAll.same S12 _ _ tr11) e12 tr12 (by omega) (by omega) (fun j=>⟨(ziJ ok1 j).1,fun r hr=>((ziJ ok1 j).2 r hr).1⟩) (fun j=>ziJ ok2 j) (fun l13 rows13 H13 S13 e13 tr13=>?_)
 have S1013:=S11.trans (S12.trans S13)
 have S913:=S912.trans S13
 have tr10':=IsAll.same S1013 _ _ tr10
 have e10':=S1013 _ _ e10
 wtm_at "gg"
 refine zlB (zaM.mpr ⟨l10,rows10,rfl,.of e10',tr10'⟩) (zaM.mpr ⟨l13,rows13,rfl,.of e13,tr13⟩) (zli _) (by decide) (zlv _) ?_
 have e313:=S13 _ _ e312
 have el213:=S13 _ _ el212
 clear S10 S11 S12 S13 S911 S912 S1013 e310 el210 e311 el211 e312 el212 e11 e12 e13 tr11 tr12 tr13 e10 tr10 j6 n11 n12
 wtm_at "gg"
 refine zbw (iw9.by S913) okw (is9.by S913) so0 (by omega) (fun v14 H14 S14 i14=>?_)
 have i14':=i14
 rw [zgb SD so1 so2] at i14
 have S914:=S913.trans S14
 have e314:=S14 _ _ e313
 have el214:=S14 _ _ el213
 wtm_at "gg"
 refine zbw (iw19.by S914) ok1 (is19.by S914) so1 (by omega) (fun v15 H15 S15 i15=>?_)
 have S915:=S914.trans S15
 have e315:=S15 _ _ e314
 have el215:=S15 _ _ el214
 wtm_at "gg"
 refine zbw (iw29.by S915) ok2 (is29.by S915) so2 (by omega) (fun v16 H16 S16 i16=>?_)
 have S916:=S915.trans S16
 have t1:=zc9 ok1 so1 k
 have t2:=zc9 ok2 so2 k
 wtm_at "gg"
 refine zgU (i15.by S16) (fun z7 j7=>?_)
 wtm_at "gg"
 refine zgU i16 (fun z8 j8=>?_)
 wtm_at "gg"
 refine zbS j7 j8 (by simp only [List.length_map,t1.pl,t2.pl]; omega) (fun z9 H17 S17 j9=>?_)
 wtm_at "gg"
 refine ziQ ((i15.by S16).by S17) (fun z10 j10=>?_)
 wtm_at "gg"
 refine ziQ (i16.by S17) (fun z11 j11=>?_)
 obtain ⟨b1,xs1,rfl,hs1,q1⟩:=zaH.mp j10
 obtain ⟨b2,xs2,rfl,hs2,q2⟩:=zaH.mp j11
 have hx1:=q1.length
 have hx2:=q2.length
 rw [List.length_map,t1.cl] at hx1
 rw [List.length_map,t2.cl] at hx2
 wtm_at "gg"
 refine ziA (show SqK true K H17 b1 xs1 from hs1) (show SqK true K H17 b2 xs2 from hs2) (by omega) (o0:=none) (o0':=none) (tl:=[]) rfl (fun j y H'=>Is K H' y (TZ ((stN rs1 us1 ts1 ps1 (zaD rs1.length) k).2.getD j [] ++ (stN rs2 us2 ts2 ps2 (zaD rs2.length) k).2.getD j []))) (fun _ _ _ _ k' z=>z.thruI k') ?_ ?_
 . intro D i x y zs o1 o2 H18 c hx hy inv ec
   obtain ⟨hi,ix⟩:=zcC q1 hx
   obtain ⟨hj,iy⟩:=zcC q2 hy
   have hi4 : i < 4:=by have:=zdO hx; omega
   have lx:=(t1.c i hi4).1
   have ly:=(t2.c i hi4).1
   rw [List.length_map] at hi hj
   rw [List.getD_eq_getElem?_getD,List.getElem?_map,List.getElem?_eq_getElem hi] at ix
   rw [List.getD_eq_getElem?_getD,List.getElem?_map,List.getElem?_eq_getElem hj] at iy
   have g1 : (stN rs1 us1 ts1 ps1 (zaD rs1.length) k).2.getD i [] = (stN rs1 us1 ts1 ps1 (zaD rs1.length) k).2[i]:=by rw [List.getD_eq_getElem?_getD,List.getElem?_eq_getElem hi]; rfl
   have g2 : (stN rs2 us2 ts2 ps2 (zaD rs2.length) k).2.getD i [] = (stN rs2 us2 ts2 ps2 (zaD rs2.length) k).2[i]:=by rw [List.getD_eq_getElem?_getD,List.getElem?_eq_getElem hj]; rfl
   have ix : Is K H17 x (TZ (stN rs1 us1 ts1 ps1 (zaD rs1.length) k).2[i]):=ix
   have iy : Is K H17 y (TZ (stN rs2 us2 ts2 ps2 (zaD rs2.length) k).2[i]):=iy
   rw [<- g1] at ix
   rw [<- g2] at iy
   have S18:=inv.2.2.1
   refine zcN (zdu (.of ec) rfl ?_)
   wtm_at "gg"
   refine zbS (ix.by S18) (iy.by S18) (by simp only [List.length_map,lx,ly]; omega) (fun z19 H19 S19 j19=>?_)
   refine ze9 inv (by omega) (fun _ _ _ _ k' z=>z.thruI k') ⟨_,_,rfl⟩ S19 ?_
   rw [TZ,List.map_append]
   exact j19
 intro D18 zs18 H18 n18 S18 e18 hl18 hr18
 have tz18 : IsAll K H18 zs18 ((zdh (stN rs1 us1 ts1 ps1 (zaD rs1.length) k).2 (stN rs2 us2 ts2 ps2 (zaD rs2.length) k).2).map TZ):=by
   refine zds (by rw [hl18,hx1]; simp [zdh]) fun j x hx=>?_
   have hj : j < 4:=by have:=zdO hx; omega
   have:=hr18 j x hx
   rw [<- zeK _ _ hj] at this
   have hjc : j < (zdh (stN rs1 us1 ts1 ps1 (zaD rs1.length) k).2 (stN rs2 us2 ts2 ps2 (zaD rs2.length) k).2).length:=by simp [zdh]; exact hj
   rw [List.getD_eq_getElem?_getD,List.getElem?_eq_getElem hjc] at this
   rw [List.getD_eq_getElem?_getD,List.getElem?_map,List.getElem?_eq_getElem hjc]
   exact this
 wtm_at "gg"
 refine za5 (zaM.mpr ⟨D18,zs18,rfl,.of e18,tz18⟩) (fun z19 H19 S19 i19=>?_)
 wtm_at "gg"
 refine zaQ (ds:=[TZ ((stN rs1 us1 ts1 ps1 (zaD rs1.length) k).1 ++ (stN rs2 us2 ts2 ps2 (zaD rs2.length) k).1),TTr (zdh (stN rs1 us1 ts1 ps1 (zaD rs1.length) k).2 (stN rs2 us2 ts2 ps2 (zaD rs2.length) k).2)]) (by simp) (.cons (by rw [TZ,List.map_append]; exact (j9.by S18).by S19) (.cons i19 .nil)) (fun z20 H20 S20 i20=>?_)
 have S1620:=S17.trans (S18.trans (S19.trans S20))
 have S1420:=S15.trans (S16.trans S1620)
 wtm_at "gg"
 refine zlB (i14.by S1420) (show Is K H20 z20 (StD _ _) from i20) (zn1 _ _) (by decide) (znq _ _) ?_
 have S920:=S914.trans S1420
 have P20:=P9.same S920
 have i14b:=i14'.by S1420
 have e10b:=(S14.trans S1420) _ _ e10'
 have tr10b:=IsAll.same (S14.trans S1420) _ _ tr10'
 have n10p : l10 ≠ p:=Pen.ne n10 P9
 have iw20:=iw9.by S920
 have is20:=is9.by S920
 clear i14 i14' tr10' e10' S14 S15 S16 S17 S18 S19 S20 S1620 S1420 S920 S913 S914 S915 S916 i15 i16 j7 j8 j9 q1 q2 hs1 hs2 e18 tz18 hr18 i19 i20 t1 t2 j10 j11 e313 el213 e314 el214 e315 el215 e39 el29 iw9 is9 iw19 iw29 is19 is29 P9
 wtm_at "gg"
 rename_i r21 H21 r210 r211 E21 K21 P21
 obtain ⟨c,rfl⟩:=Int.eq_ofNat_of_zero_le r210
 have hc : c <= k:=by omega
 obtain ⟨d,rfl⟩ : ∃ d,k = c + d:=⟨k - c,by omega⟩
 have i14c:=i14b.thruS K21
 have e10c:=E21.at n10p e10b
 have tr10c:=IsAll.keep K21 _ _ (zdQ _) tr10b
 have iw21:=iw20.thruW K21
 have is21:=is20.thruS K21
 rw [show (fun j=>zce rs1.length (wvN rs1 us1 ts1 ps1 (zaD rs1.length) j) (wvN rs2 us2 ts2 ps2 (zaD rs2.length) j)) = wvN (rs1 ++ rs2) (us1 ++ us2) ts (ps1 ++ ps2) (zdh (zaD rs1.length) (zaD rs2.length)) from (funext fun j=>(zjm SD so1 so2 j).symm)] at tr10c
 clear i14b e10b tr10b iw20 is20 P20 P21 E21 K21 r210 r211
 generalize ps1 ++ ps2 = ps at *
 generalize zdh (zaD rs1.length) (zaD rs2.length) = cm at *
 clear SD so1 so2 ok1 ok2
 generalize rs1 ++ rs2 = rs at *
 generalize us1 ++ us2 = us at *
 have soc:=zc9 okw so0 c
 refine zbw iw21 okw is21 so0 (by omega) (fun v22 H22 S22 i22=>?_)
 wtm_at "gg"
 rw [show ((c + d : Nat) : Int) - (c : Int) = (d : Int) by omega]
 refine zgS (iw21.by S22) okw i22 soc (by omega) (fun l23 rows23 H23 n23 S23 e23 tr23=>?_)
 rw [zcV,show wvN rs us ts (stN rs us ts ps cm c).1 (stN rs us ts ps cm c).2 = fun j=>wvN rs us ts ps cm (c + j) from funext fun j=>by unfold wvN; rw [zir]] at tr23
 have S2123:=S22.trans S23
 generalize hR : zaC (fun j=>wvN rs us ts ps cm (c + j)) d = R at tr23
 have hRl : R.length <= d:=by rw [<- hR]; exact zd4 _ _
 have hrl:=tr23.length
 rw [List.length_map] at hrl
 have hRm : ∀ r ∈ R,r.1 <= d:=fun r hr=>by
   rw [<- hR] at hr
   obtain ⟨j,h1,_,h3,_⟩:=zbK.mp (show (r.1,r.2) ∈ _ from hr)
   omega
 wtm_at "gg"
 refine zcT (.of e23) (fun D j ys σ' H'=>(∃ o1 o2,σ' = [o1,o2,some (.int (c : Int))]) /\ H23 D = none /\ zaf H23 H' /\ H' D = some (.lst ys) /\ IsAll K H' ys (((R.take j).map (fun r=>(r.1 + c,r.2))).map zcz)) (fun D H' n s e=>⟨⟨_,_,rfl⟩,n,s,e,.nil⟩) (fun D j ys σ' H' h=>.of (h.2.2.1 _ _ e23)) ?_ ?_
 . rintro D j x ys σ' H24 hx ⟨⟨o1',o2',rfl⟩,n24,S24,e24,t24⟩
   obtain ⟨hj,ix⟩:=zcC tr23 hx
   rw [List.length_map] at hj
   rw [List.getD_eq_getElem?_getD,List.getElem?_map,List.getElem?_eq_getElem hj] at ix
   have ix : Is K H24 x (zcz R[j]):=Is.by S24 ix
   have hm:=hRm _ (List.getElem_mem hj)
   have hyl:=t24.length
   rw [List.length_map,List.length_map,List.length_take] at hyl
   have tk : R.take (j + 1) = R.take j ++ [R[j]]:=by rw [List.take_succ,List.getElem?_eq_getElem hj]; rfl
   generalize R[j] = r at *
   obtain ⟨m,ws⟩:=r
   wtm_at "gg"
   refine zjh ix rfl (fun zs tz=>?_)
   obtain ⟨x1,x2,rfl,ix1,ix2⟩:=zdm tz
   have:=zaT.mp ix1
   subst this
   have hm : m <= d:=hm
   wtm_at "gg"
   refine zaQ (ds:=[.int ((m : Int) + (c : Int)),TWs ws]) (by simp) (.cons (zaT.mpr rfl) (.cons ix2 .nil)) (fun v25 H25 S25 i25=>?_)
   refine zbA (S25 _ _ e24) (by omega) (fun H26 E26 e26=>⟨⟨_,_,rfl⟩,n24,(S24.trans S25).grow n24 E26,e26,?_⟩)
   have k26:=E26.keep (S25 _ _ e24)
   rw [tk,List.map_append,List.map_append]
   refine (IsAll.keep (S25.keep.trans k26) _ _ (zdQ _) t24).append (.cons ?_ .nil)
   have i25 : Is K H25 v25 (zcz (m + c,ws)):=by
     have e : ((m + c : Nat) : Int) = (m : Int) + (c : Int):=by omega
     show Is K H25 v25 (.tuple [.int ((m + c : Nat) : Int),TWs ws])
     rw [e]; exact i25
   exact i25.byK k26 (zeS _)
 rintro D ys σ' H24 ⟨_,n24,S24,e24,t24⟩
 rw [hrl,List.take_length] at t24
 have S2124:=S2123.trans S24
 have hyl:=t24.length
 rw [List.length_map,List.length_map] at hyl
 wtm_at "gg"
 refine zgS (iw21.by S2124) okw (is21.by S2124) so0 (by omega) (fun l25 rows25 H25 n25 S25 e25 tr25=>?_)
 rw [zcV] at tr25
 have hrl2:=tr25.length
 rw [List.length_map] at hrl2
 have hw2:=zd4 (wvN rs us ts ps cm) c
 wtm_at "gg"
 refine zfV e25 (S25 _ _ e24) (Nat.le_of_lt (zbH (by omega))) (fun l26 H26 n26 S26 e26=>?_)
 have S2126:=S2124.trans (S25.trans S26)
 have t26 : IsAll K H26 (rows25 ++ ys) ((zaC (wvN rs us ts ps cm) (c + d)).map zcz):=by
   rw [<- zhz,hR,List.map_append]
   exact (IsAll.same S26 _ _ tr25).append (IsAll.same (S25.trans S26) _ _ t24)
 wtm_at "gg"
 refine zls (zaM.mpr ⟨l26,_,rfl,.of e26,t26⟩) (zaM.mpr ⟨l10,rows10,rfl,.of (S2126 _ _ e10c),IsAll.same S2126 _ _ tr10c⟩) (zli _) (by decide) (zlv _) ?_
 wtm_at "gg"
 rw [show ((c + d : Nat) : Int) - (c : Int) = (d : Int) by omega]
 refine zbw (iw21.by S2126) okw (i22.by (S23.trans (S24.trans (S25.trans S26)))) soc (by omega) (fun v27 H27 S27 i27=>?_)
 rw [zir] at i27
 wtm_at "gg"
 refine zls i27 (i14c.by (S2126.trans S27)) (zn1 _ _) (by decide) (znq _ _) ?_
 wtm_at "gg"
 exact q _
end
end G
namespace G
open PySem PySem.Spec PyProof.Rows L2 GM
theorem zhM {us : List Value} (h : us.length = 1) : ∃ a,us = [a]:=by
 cases us with
 | nil=>cases h
 | cons a t=>exact ⟨a,by rw [List.length_eq_zero_iff.mp (Nat.succ.inj h)]⟩
theorem zc0 {us : List Value} (h : us.length = 2) : ∃ a0 a1,us = [a0,a1]:=by
 cases us with
 | nil=>cases h
 | cons a0 t =>
   obtain ⟨a1,e⟩:=zhM (Nat.succ.inj h)
   exact ⟨a0,a1,by rw [e]⟩
theorem zdF {us : List Value} (h : us.length = 3) : ∃ a0 a1 a2,us = [a0,a1,a2]:=by
 cases us with
 | nil=>cases h
 | cons a0 t =>
   obtain ⟨a1,a2,e⟩:=zc0 (Nat.succ.inj h)
   exact ⟨a0,a1,a2,by rw [e]⟩
theorem zrM {us : List Value} (h : us.length = 4) : ∃ a0 a1 a2 a3,us = [a0,a1,a2,a3]:=by
 cases us with
 | nil=>cases h
 | cons a0 t =>
   obtain ⟨a1,a2,a3,e⟩:=zdF (Nat.succ.inj h)
   exact ⟨a0,a1,a2,a3,by rw [e]⟩
set_option maxHeartbeats 8000000 in
theorem all_mk {l : PySem.W.OpenLaw} {w : World} {K : PySem.W.Frag} {h : Heap} {mg : Str -> Option Value} {fa : Addr} (X : K.In h) (G : h.Ns mainGlobals mg) (hfa : mg "law" = some (.ref fa))
   {f0 : Addr} {od0 an0 : Option Addr} {sl0 : Array (Option Value)} {oc0 kV0 dc0 pm0 cd0 ct0 : Value}
   {f1 : Addr} {od1 an1 : Option Addr} {sl1 : Array (Option Value)} {oc1 kV1 dc1 pm1 cd1 ct1 : Value}
   {f2 : Addr} {od2 an2 : Option Addr} {sl2 : Array (Option Value)} {oc2 kV2 dc2 pm2 cd2 ct2 : Value}
   {f3 : Addr} {od3 an3 : Option Addr} {sl3 : Array (Option Value)} {oc3 kV3 dc3 pm3 cd3 ct3 : Value}
   {f4 : Addr} {od4 an4 : Option Addr} {sl4 : Array (Option Value)} {oc4 kV4 dc4 pm4 cd4 ct4 : Value}
   {f5 : Addr} {od5 an5 : Option Addr} {sl5 : Array (Option Value)} {oc5 kV5 dc5 pm5 cd5 ct5 : Value}
   {f6 : Addr} {od6 an6 : Option Addr} {sl6 : Array (Option Value)} {oc6 kV6 dc6 pm6 cd6 ct6 : Value}
   {f7 : Addr} {od7 an7 : Option Addr} {sl7 : Array (Option Value)} {oc7 kV7 dc7 pm7 cd7 ct7 : Value}
   {f8 : Addr} {od8 an8 : Option Addr} {sl8 : Array (Option Value)} {oc8 kV8 dc8 pm8 cd8 ct8 : Value}
   {f9 : Addr} {od9 an9 : Option Addr} {sl9 : Array (Option Value)} {oc9 kV9 dc9 pm9 cd9 ct9 : Value}
   {f10 : Addr} {od10 an10 : Option Addr} {sl10 : Array (Option Value)} {oc10 kV10 dc10 pm10 cd10 ct10 : Value}
   {f11 : Addr} {od11 an11 : Option Addr} {sl11 : Array (Option Value)} {oc11 kV11 dc11 pm11 cd11 ct11 : Value}
   {f12 : Addr} {od12 an12 : Option Addr} {sl12 : Array (Option Value)} {oc12 kV12 dc12 pm12 cd12 ct12 : Value}
   {f13 : Addr} {od13 an13 : Option Addr} {sl13 : Array (Option Value)} {oc13 kV13 dc13 pm13 cd13 ct13 : Value}
   {f14 : Addr} {od14 an14 : Option Addr} {sl14 : Array (Option Value)} {oc14 kV14 dc14 pm14 cd14 ct14 : Value}
   {f15 : Addr} {od15 an15 : Option Addr} {sl15 : Array (Option Value)} {oc15 kV15 dc15 pm15 cd15 ct15 : Value}
   {f16 : Addr} {od16 an16 : Option Addr} {sl16 : Array (Option Value)} {oc16 kV16 dc16 pm16 cd16 ct16 : Value}
   {f17 : Addr} {od17 an17 : Option Addr} {sl17 : Array (Option Value)} {oc17 kV17 dc17 pm17 cd17 ct17 : Value}
   {f18 : Addr} {od18 an18 : Option Addr} {sl18 : Array (Option Value)} {oc18 kV18 dc18 pm18 cd18 ct18 : Value}
   {f19 : Addr} {od19 an19 : Option Addr} {sl19 : Array (Option Value)} {oc19 kV19 dc19 pm19 cd19 ct19 : Value}
   {f20 : Addr} {od20 an20 : Option Addr} {sl20 : Array (Option Value)} {oc20 kV20 dc20 pm20 cd20 ct20 : Value}
   {f21 : Addr} {od21 an21 : Option Addr} {sl21 : Array (Option Value)} {oc21 kV21 dc21 pm21 cd21 ct21 : Value}
   {f22 : Addr} {od22 an22 : Option Addr} {sl22 : Array (Option Value)} {oc22 kV22 dc22 pm22 cd22 ct22 : Value}
   {f23 : Addr} {od23 an23 : Option Addr} {sl23 : Array (Option Value)} {oc23 kV23 dc23 pm23 cd23 ct23 : Value}
   {f24 : Addr} {od24 an24 : Option Addr} {sl24 : Array (Option Value)} {oc24 kV24 dc24 pm24 cd24 ct24 : Value}
   {f25 : Addr} {od25 an25 : Option Addr} {sl25 : Array (Option Value)} {oc25 kV25 dc25 pm25 cd25 ct25 : Value}
   {f26 : Addr} {od26 an26 : Option Addr} {sl26 : Array (Option Value)} {oc26 kV26 dc26 pm26 cd26 ct26 : Value}
   {f27 : Addr} {od27 an27 : Option Addr} {sl27 : Array (Option Value)} {oc27 kV27 dc27 pm27 cd27 ct27 : Value}
   {f28 : Addr} {od28 an28 : Option Addr} {sl28 : Array (Option Value)} {oc28 kV28 dc28 pm28 cd28 ct28 : Value}
   {f29 : Addr} {od29 an29 : Option Addr} {sl29 : Array (Option Value)} {oc29 kV29 dc29 pm29 cd29 ct29 : Value}
   {e0 : Addr}
   {e1 : Addr}
   {tk0 : Tok}
   {tk1 : Tok}
   {tk2 : Tok}
   {tk3 : Tok}
   {tk4 : Tok}
   (a0 : PySem.W.nsIn K mainGlobals "is_whole" = some (some (.ref f0)))
   (l0 : K.lookup f0 = some ⟨oc0,od0,.func (PySem.W.fnOf "is_whole" "is_whole" (zaw zci) (zau zci) (zac zci) .none kV0 dc0 pm0 an0 cd0 ct0),sl0⟩)
   (c0 : PySem.W.codeIn K cd0 "is_whole" = true)
   (k0 : PySem.W.keepIn K (.ref f0) = true)
   (a1 : PySem.W.nsIn K mainGlobals "is_whole_from" = some (some (.ref f1)))
   (l1 : K.lookup f1 = some ⟨oc1,od1,.func (PySem.W.fnOf "is_whole_from" "is_whole_from" (zaw zbe) (zau zbe) (zac zbe) .none kV1 dc1 pm1 an1 cd1 ct1),sl1⟩)
   (c1 : PySem.W.codeIn K cd1 "is_whole_from" = true)
   (k1 : PySem.W.keepIn K (.ref f1) = true)
   (a2 : PySem.W.nsIn K mainGlobals "is_listed" = some (some (.ref f2)))
   (l2 : K.lookup f2 = some ⟨oc2,od2,.func (PySem.W.fnOf "is_listed" "is_listed" (zaw zb2) (zau zb2) (zac zb2) .none kV2 dc2 pm2 an2 cd2 ct2),sl2⟩)
   (c2 : PySem.W.codeIn K cd2 "is_listed" = true)
   (k2 : PySem.W.keepIn K (.ref f2) = true)
   (a3 : PySem.W.nsIn K mainGlobals "are_whole_from" = some (some (.ref f3)))
   (l3 : K.lookup f3 = some ⟨oc3,od3,.func (PySem.W.fnOf "are_whole_from" "are_whole_from" (zaw zaW) (zau zaW) (zac zaW) .none kV3 dc3 pm3 an3 cd3 ct3),sl3⟩)
   (c3 : PySem.W.codeIn K cd3 "are_whole_from" = true)
   (k3 : PySem.W.keepIn K (.ref f3) = true)
   (a4 : PySem.W.nsIn K mainGlobals "are_rounds" = some (some (.ref f4)))
   (l4 : K.lookup f4 = some ⟨oc4,od4,.func (PySem.W.fnOf "are_rounds" "are_rounds" (zaw zbM) (zau zbM) (zac zbM) .none kV4 dc4 pm4 an4 cd4 ct4),sl4⟩)
   (c4 : PySem.W.codeIn K cd4 "are_rounds" = true)
   (k4 : PySem.W.keepIn K (.ref f4) = true)
   (a5 : PySem.W.nsIn K mainGlobals "are_ups" = some (some (.ref f5)))
   (l5 : K.lookup f5 = some ⟨oc5,od5,.func (PySem.W.fnOf "are_ups" "are_ups" (zaw zcj) (zau zcj) (zac zcj) .none kV5 dc5 pm5 an5 cd5 ct5),sl5⟩)
   (c5 : PySem.W.codeIn K cd5 "are_ups" = true)
   (k5 : PySem.W.keepIn K (.ref f5) = true)
   (a6 : PySem.W.nsIn K mainGlobals "is_tie" = some (some (.ref f6)))
   (l6 : K.lookup f6 = some ⟨oc6,od6,.func (PySem.W.fnOf "is_tie" "is_tie" (zaw zdj) (zau zdj) (zac zdj) .none kV6 dc6 pm6 an6 cd6 ct6),sl6⟩)
   (c6 : PySem.W.codeIn K cd6 "is_tie" = true)
   (k6 : PySem.W.keepIn K (.ref f6) = true)
   (a7 : PySem.W.nsIn K mainGlobals "are_ties" = some (some (.ref f7)))
   (l7 : K.lookup f7 = some ⟨oc7,od7,.func (PySem.W.fnOf "are_ties" "are_ties" (zaw zbF) (zau zbF) (zac zbF) .none kV7 dc7 pm7 an7 cd7 ct7),sl7⟩)
   (c7 : PySem.W.codeIn K cd7 "are_ties" = true)
   (k7 : PySem.W.keepIn K (.ref f7) = true)
   (a8 : PySem.W.nsIn K mainGlobals "web_of" = some (some (.ref f8)))
   (l8 : K.lookup f8 = some ⟨oc8,od8,.func (PySem.W.fnOf "web_of" "web_of" (zaw zcw) (zau zcw) (zac zcw) .none kV8 dc8 pm8 an8 cd8 ct8),sl8⟩)
   (c8 : PySem.W.codeIn K cd8 "web_of" = true)
   (k8 : PySem.W.keepIn K (.ref f8) = true)
   (a9 : PySem.W.nsIn K mainGlobals "are_web_phases" = some (some (.ref f9)))
   (l9 : K.lookup f9 = some ⟨oc9,od9,.func (PySem.W.fnOf "are_web_phases" "are_web_phases" (zaw zaV) (zau zaV) (zac zaV) .none kV9 dc9 pm9 an9 cd9 ct9),sl9⟩)
   (c9 : PySem.W.codeIn K cd9 "are_web_phases" = true)
   (k9 : PySem.W.keepIn K (.ref f9) = true)
   (a10 : PySem.W.nsIn K mainGlobals "none_coming" = some (some (.ref f10)))
   (l10 : K.lookup f10 = some ⟨oc10,od10,.func (PySem.W.fnOf "none_coming" "none_coming" (zaw zbi) (zau zbi) (zac zbi) .none kV10 dc10 pm10 an10 cd10 ct10),sl10⟩)
   (c10 : PySem.W.codeIn K cd10 "none_coming" = true)
   (k10 : PySem.W.keepIn K (.ref f10) = true)
   (a11 : PySem.W.nsIn K mainGlobals "stand_of" = some (some (.ref f11)))
   (l11 : K.lookup f11 = some ⟨oc11,od11,.func (PySem.W.fnOf "stand_of" "stand_of" (zaw zbY) (zau zbY) (zac zbY) .none kV11 dc11 pm11 an11 cd11 ct11),sl11⟩)
   (c11 : PySem.W.codeIn K cd11 "stand_of" = true)
   (k11 : PySem.W.keepIn K (.ref f11) = true)
   (a12 : PySem.W.nsIn K mainGlobals "moved_up" = some (some (.ref f12)))
   (l12 : K.lookup f12 = some ⟨oc12,od12,.func (PySem.W.fnOf "moved_up" "moved_up" (zaw zcf) (zau zcf) (zac zcf) .none kV12 dc12 pm12 an12 cd12 ct12),sl12⟩)
   (c12 : PySem.W.codeIn K cd12 "moved_up" = true)
   (k12 : PySem.W.keepIn K (.ref f12) = true)
   (a13 : PySem.W.nsIn K mainGlobals "ended" = some (some (.ref f13)))
   (l13 : K.lookup f13 = some ⟨oc13,od13,.func (PySem.W.fnOf "ended" "ended" (zaw zdx) (zau zdx) (zac zdx) .none kV13 dc13 pm13 an13 cd13 ct13),sl13⟩)
   (c13 : PySem.W.codeIn K cd13 "ended" = true)
   (k13 : PySem.W.keepIn K (.ref f13) = true)
   (a14 : PySem.W.nsIn K mainGlobals "ties_from" = some (some (.ref f14)))
   (l14 : K.lookup f14 = some ⟨oc14,od14,.func (PySem.W.fnOf "ties_from" "ties_from" (zaw zbD) (zau zbD) (zac zbD) .none kV14 dc14 pm14 an14 cd14 ct14),sl14⟩)
   (c14 : PySem.W.codeIn K cd14 "ties_from" = true)
   (k14 : PySem.W.keepIn K (.ref f14) = true)
   (a15 : PySem.W.nsIn K mainGlobals "count_to" = some (some (.ref f15)))
   (l15 : K.lookup f15 = some ⟨oc15,od15,.func (PySem.W.fnOf "count_to" "count_to" (zaw zbX) (zau zbX) (zac zbX) .none kV15 dc15 pm15 an15 cd15 ct15),sl15⟩)
   (c15 : PySem.W.codeIn K cd15 "count_to" = true)
   (k15 : PySem.W.keepIn K (.ref f15) = true)
   (a16 : PySem.W.nsIn K mainGlobals "coming_behind" = some (some (.ref f16)))
   (l16 : K.lookup f16 = some ⟨oc16,od16,.func (PySem.W.fnOf "coming_behind" "coming_behind" (zaw za6) (zau za6) (zac za6) .none kV16 dc16 pm16 an16 cd16 ct16),sl16⟩)
   (c16 : PySem.W.codeIn K cd16 "coming_behind" = true)
   (k16 : PySem.W.keepIn K (.ref f16) = true)
   (a17 : PySem.W.nsIn K mainGlobals "phases_at_first" = some (some (.ref f17)))
   (l17 : K.lookup f17 = some ⟨oc17,od17,.func (PySem.W.fnOf "phases_at_first" "phases_at_first" (zaw za2) (zau za2) (zac za2) .none kV17 dc17 pm17 an17 cd17 ct17),sl17⟩)
   (c17 : PySem.W.codeIn K cd17 "phases_at_first" = true)
   (k17 : PySem.W.keepIn K (.ref f17) = true)
   (a18 : PySem.W.nsIn K mainGlobals "tick" = some (some (.ref f18)))
   (l18 : K.lookup f18 = some ⟨oc18,od18,.func (PySem.W.fnOf "tick" "tick" (zaw zdy) (zau zdy) (zac zdy) .none kV18 dc18 pm18 an18 cd18 ct18),sl18⟩)
   (c18 : PySem.W.codeIn K cd18 "tick" = true)
   (k18 : PySem.W.keepIn K (.ref f18) = true)
   (a19 : PySem.W.nsIn K mainGlobals "run" = some (some (.ref f19)))
   (l19 : K.lookup f19 = some ⟨oc19,od19,.func (PySem.W.fnOf "run" "run" (zaw zhQ) (zau zhQ) (zac zhQ) .none kV19 dc19 pm19 an19 cd19 ct19),sl19⟩)
   (c19 : PySem.W.codeIn K cd19 "run" = true)
   (k19 : PySem.W.keepIn K (.ref f19) = true)
   (a20 : PySem.W.nsIn K mainGlobals "stand_behind" = some (some (.ref f20)))
   (l20 : K.lookup f20 = some ⟨oc20,od20,.func (PySem.W.fnOf "stand_behind" "stand_behind" (zaw zbl) (zau zbl) (zac zbl) .none kV20 dc20 pm20 an20 cd20 ct20),sl20⟩)
   (c20 : PySem.W.codeIn K cd20 "stand_behind" = true)
   (k20 : PySem.W.keepIn K (.ref f20) = true)
   (a21 : PySem.W.nsIn K mainGlobals "_law_pen" = some (some (.ref f21)))
   (l21 : K.lookup f21 = some ⟨oc21,od21,.func (PySem.W.fnOf "_law_pen" "_law_pen" (zaw zcI) (zau zcI) (zac zcI) .none kV21 dc21 pm21 an21 cd21 ct21),sl21⟩)
   (c21 : PySem.W.codeIn K cd21 "_law_pen" = true)
   (k21 : PySem.W.keepIn K (.ref f21) = true)
   (a22 : PySem.W.nsIn K mainGlobals "_law_draw" = some (some (.ref f22)))
   (l22 : K.lookup f22 = some ⟨oc22,od22,.func (PySem.W.fnOf "_law_draw" "_law_draw" (zaw zco) (zau zco) (zac zco) .none kV22 dc22 pm22 an22 cd22 ct22),sl22⟩)
   (c22 : PySem.W.codeIn K cd22 "_law_draw" = true)
   (k22 : PySem.W.keepIn K (.ref f22) = true)
   (a23 : PySem.W.nsIn K mainGlobals "_law_ties" = some (some (.ref f23)))
   (l23 : K.lookup f23 = some ⟨oc23,od23,.func (PySem.W.fnOf "_law_ties" "_law_ties" (zaw zbW) (zau zbW) (zac zbW) .none kV23 dc23 pm23 an23 cd23 ct23),sl23⟩)
   (c23 : PySem.W.codeIn K cd23 "_law_ties" = true)
   (k23 : PySem.W.keepIn K (.ref f23) = true)
   (a24 : PySem.W.nsIn K mainGlobals "_law_web" = some (some (.ref f24)))
   (l24 : K.lookup f24 = some ⟨oc24,od24,.func (PySem.W.fnOf "_law_web" "_law_web" (zaw zb1) (zau zb1) (zac zb1) .none kV24 dc24 pm24 an24 cd24 ct24),sl24⟩)
   (c24 : PySem.W.codeIn K cd24 "_law_web" = true)
   (k24 : PySem.W.keepIn K (.ref f24) = true)
   (a25 : PySem.W.nsIn K mainGlobals "_law_begin" = some (some (.ref f25)))
   (l25 : K.lookup f25 = some ⟨oc25,od25,.func (PySem.W.fnOf "_law_begin" "_law_begin" (zaw zb3) (zau zb3) (zac zb3) .none kV25 dc25 pm25 an25 cd25 ct25),sl25⟩)
   (c25 : PySem.W.codeIn K cd25 "_law_begin" = true)
   (k25 : PySem.W.keepIn K (.ref f25) = true)
   (a26 : PySem.W.nsIn K mainGlobals "_law_beside" = some (some (.ref f26)))
   (l26 : K.lookup f26 = some ⟨oc26,od26,.func (PySem.W.fnOf "_law_beside" "_law_beside" (zaw zbt) (zau zbt) (zac zbt) .none kV26 dc26 pm26 an26 cd26 ct26),sl26⟩)
   (c26 : PySem.W.codeIn K cd26 "_law_beside" = true)
   (k26 : PySem.W.keepIn K (.ref f26) = true)
   (a27 : PySem.W.nsIn K mainGlobals "_law_laid" = some (some (.ref f27)))
   (l27 : K.lookup f27 = some ⟨oc27,od27,.func (PySem.W.fnOf "_law_laid" "_law_laid" (zaw zbZ) (zau zbZ) (zac zbZ) .none kV27 dc27 pm27 an27 cd27 ct27),sl27⟩)
   (c27 : PySem.W.codeIn K cd27 "_law_laid" = true)
   (k27 : PySem.W.keepIn K (.ref f27) = true)
   (a28 : PySem.W.nsIn K mainGlobals "_law_both" = some (some (.ref f28)))
   (l28 : K.lookup f28 = some ⟨oc28,od28,.func (PySem.W.fnOf "_law_both" "_law_both" (zaw zbV) (zau zbV) (zac zbV) .none kV28 dc28 pm28 an28 cd28 ct28),sl28⟩)
   (c28 : PySem.W.codeIn K cd28 "_law_both" = true)
   (k28 : PySem.W.keepIn K (.ref f28) = true)
   (a29 : PySem.W.nsIn K mainGlobals "law" = some (some (.ref f29)))
   (l29 : K.lookup f29 = some ⟨oc29,od29,.func (PySem.W.fnOf "law" "law" (zaw zdX) (zau zdX) (zac zdX) .none kV29 dc29 pm29 an29 cd29 ct29),sl29⟩)
   (c29 : PySem.W.codeIn K cd29 "law" = true)
   (k29 : PySem.W.keepIn K (.ref f29) = true)
   (n_NoWeb : PySem.W.nsIn K mainGlobals "NoWeb" = some (some (.ref e0)))
   (n_NoStand : PySem.W.nsIn K mainGlobals "NoStand" = some (some (.ref e1)))
   (z_all : PySem.W.nsIn K mainGlobals "all" = some none)
   (z_bool : PySem.W.nsIn K mainGlobals "bool" = some none)
   (z_dict : PySem.W.nsIn K mainGlobals "dict" = some none)
   (z_enumerate : PySem.W.nsIn K mainGlobals "enumerate" = some none)
   (z_int : PySem.W.nsIn K mainGlobals "int" = some none)
   (z_isinstance : PySem.W.nsIn K mainGlobals "isinstance" = some none)
   (z_len : PySem.W.nsIn K mainGlobals "len" = some none)
   (z_list : PySem.W.nsIn K mainGlobals "list" = some none)
   (z_max : PySem.W.nsIn K mainGlobals "max" = some none)
   (z_min : PySem.W.nsIn K mainGlobals "min" = some none)
   (z_range : PySem.W.nsIn K mainGlobals "range" = some none)
   (z_set : PySem.W.nsIn K mainGlobals "set" = some none)
   (z_sorted : PySem.W.nsIn K mainGlobals "sorted" = some none)
   (z_tuple : PySem.W.nsIn K mainGlobals "tuple" = some none)
   (z_zip : PySem.W.nsIn K mainGlobals "zip" = some none)
   (h_x_NoWeb : PySem.W.excIn K e0 zjH "ValueError.__new__" = true)
   (h_x_NoStand : PySem.W.excIn K e1 zjH "ValueError.__new__" = true)
   (q0 : PySem.W.nsIn K mainGlobals "MOST_WORMS" = some (some (.int 8 tk0)))
   (q1 : PySem.W.nsIn K mainGlobals "MOST_ROUND" = some (some (.int 60 tk1)))
   (q2 : PySem.W.nsIn K mainGlobals "MOST_UP" = some (some (.int 60 tk2)))
   (q3 : PySem.W.nsIn K mainGlobals "MOST_TIES" = some (some (.int 60 tk3)))
   (q4 : PySem.W.nsIn K mainGlobals "MOST_DELAY" = some (some (.int 4 tk4)))
   : ∃ fd : FuncData,(∀ (s : Shared) (v : Value),BindsTo s fd ⟨[v],[]⟩ [("_law_script",v)]) /\ ∀ base : Heap,K.In base -> base.Ns mainGlobals mg -> zbr l.prog w K mg base CX0 7 fa fd ["_law_script"] (zil K):=by
 have e:=hfa.symm.trans (PySem.W.mg_of X G a29)
 cases e
 have F0:=zaP (st:=zci) l0 c0 k0
 have F1:=zaP (st:=zbe) l1 c1 k1
 have F2:=zaP (st:=zb2) l2 c2 k2
 have F3:=zaP (st:=zaW) l3 c3 k3
 have F4:=zaP (st:=zbM) l4 c4 k4
 have F5:=zaP (st:=zcj) l5 c5 k5
 have F6:=zaP (st:=zdj) l6 c6 k6
 have F7:=zaP (st:=zbF) l7 c7 k7
 have F8:=zaP (st:=zcw) l8 c8 k8
 have F9:=zaP (st:=zaV) l9 c9 k9
 have F10:=zaP (st:=zbi) l10 c10 k10
 have F11:=zaP (st:=zbY) l11 c11 k11
 have F12:=zaP (st:=zcf) l12 c12 k12
 have F13:=zaP (st:=zdx) l13 c13 k13
 have F14:=zaP (st:=zbD) l14 c14 k14
 have F15:=zaP (st:=zbX) l15 c15 k15
 have F16:=zaP (st:=za6) l16 c16 k16
 have F17:=zaP (st:=za2) l17 c17 k17
 have F18:=zaP (st:=zdy) l18 c18 k18
 have F19:=zaP (st:=zhQ) l19 c19 k19
 have F20:=zaP (st:=zbl) l20 c20 k20
 have F21:=zaP (st:=zcI) l21 c21 k21
 have F22:=zaP (st:=zco) l22 c22 k22
 have F23:=zaP (st:=zbW) l23 c23 k23
 have F24:=zaP (st:=zb1) l24 c24 k24
 have F25:=zaP (st:=zb3) l25 c25 k25
 have F26:=zaP (st:=zbt) l26 c26 k26
 have F27:=zaP (st:=zbZ) l27 c27 k27
 have F28:=zaP (st:=zbV) l28 c28 k28
 have F29:=zaP (st:=zdX) l29 c29 k29
 have T : Txt K mg ⟨f0,_,f1,_,f2,_,f3,_,f4,_,f5,_,f6,_,f7,_,f8,_,f9,_,f10,_,f11,_,f12,_,f13,_,f14,_,f15,_,f16,_,f17,_,f18,_,f19,_,f20,_,f21,_,f22,_,f23,_,f24,_,f25,_,f26,_,f27,_,f28,_,_,_,e0,e1⟩:=⟨F0,
   PySem.W.mg_of X G a0,
   (F0.binds (ps:=["thing"]) fun _ _ _ _ _ _ us hl=>by obtain ⟨_,rfl⟩:=zhM hl; rfl),
   F1,
   PySem.W.mg_of X G a1,
   (F1.binds (ps:=["least","most","thing"]) fun _ _ _ _ _ _ us hl=>by obtain ⟨_,_,_,rfl⟩:=zdF hl; rfl),
   F2,
   PySem.W.mg_of X G a2,
   (F2.binds (ps:=["thing"]) fun _ _ _ _ _ _ us hl=>by obtain ⟨_,rfl⟩:=zhM hl; rfl),
   F3,
   PySem.W.mg_of X G a3,
   (F3.binds (ps:=["least","most","thing"]) fun _ _ _ _ _ _ us hl=>by obtain ⟨_,_,_,rfl⟩:=zdF hl; rfl),
   F4,
   PySem.W.mg_of X G a4,
   (F4.binds (ps:=["thing"]) fun _ _ _ _ _ _ us hl=>by obtain ⟨_,rfl⟩:=zhM hl; rfl),
   F5,
   PySem.W.mg_of X G a5,
   (F5.binds (ps:=["thing","rounds"]) fun _ _ _ _ _ _ us hl=>by obtain ⟨_,_,rfl⟩:=zc0 hl; rfl),
   F6,
   PySem.W.mg_of X G a6,
   (F6.binds (ps:=["thing","worms"]) fun _ _ _ _ _ _ us hl=>by obtain ⟨_,_,rfl⟩:=zc0 hl; rfl),
   F7,
   PySem.W.mg_of X G a7,
   (F7.binds (ps:=["thing","worms"]) fun _ _ _ _ _ _ us hl=>by obtain ⟨_,_,rfl⟩:=zc0 hl; rfl),
   F8,
   PySem.W.mg_of X G a8,
   (F8.binds (ps:=["rounds","ups","ties"]) fun _ _ _ _ _ _ us hl=>by obtain ⟨_,_,_,rfl⟩:=zdF hl; rfl),
   F9,
   PySem.W.mg_of X G a9,
   (F9.binds (ps:=["thing","rounds"]) fun _ _ _ _ _ _ us hl=>by obtain ⟨_,_,rfl⟩:=zc0 hl; rfl),
   F10,
   PySem.W.mg_of X G a10,
   (F10.binds (ps:=["web"]) fun _ _ _ _ _ _ us hl=>by obtain ⟨_,rfl⟩:=zhM hl; rfl),
   F11,
   PySem.W.mg_of X G a11,
   (F11.binds (ps:=["web","phases"]) fun _ _ _ _ _ _ us hl=>by obtain ⟨_,_,rfl⟩:=zc0 hl; rfl),
   F12,
   PySem.W.mg_of X G a12,
   (F12.binds (ps:=["count","ups","phase","many"]) fun _ _ _ _ _ _ us hl=>by obtain ⟨_,_,_,_,rfl⟩:=zrM hl; rfl),
   F13,
   PySem.W.mg_of X G a13,
   (F13.binds (ps:=["web","worms","phases"]) fun _ _ _ _ _ _ us hl=>by obtain ⟨_,_,_,rfl⟩:=zdF hl; rfl),
   F14,
   PySem.W.mg_of X G a14,
   (F14.binds (ps:=["web","worms"]) fun _ _ _ _ _ _ us hl=>by obtain ⟨_,_,rfl⟩:=zc0 hl; rfl),
   F15,
   PySem.W.mg_of X G a15,
   (F15.binds (ps:=["ties","worm","delay"]) fun _ _ _ _ _ _ us hl=>by obtain ⟨_,_,_,rfl⟩:=zdF hl; rfl),
   F16,
   PySem.W.mg_of X G a16,
   (F16.binds (ps:=["web","coming","glowed"]) fun _ _ _ _ _ _ us hl=>by obtain ⟨_,_,_,rfl⟩:=zdF hl; rfl),
   F17,
   PySem.W.mg_of X G a17,
   (F17.binds (ps:=["web","stand"]) fun _ _ _ _ _ _ us hl=>by obtain ⟨_,_,rfl⟩:=zc0 hl; rfl),
   F18,
   PySem.W.mg_of X G a18,
   (F18.binds (ps:=["web","stand"]) fun _ _ _ _ _ _ us hl=>by obtain ⟨_,_,rfl⟩:=zc0 hl; rfl),
   F19,
   PySem.W.mg_of X G a19,
   (F19.binds (ps:=["web","stand","many"]) fun _ _ _ _ _ _ us hl=>by obtain ⟨_,_,_,rfl⟩:=zdF hl; rfl),
   F20,
   PySem.W.mg_of X G a20,
   (F20.binds (ps:=["web","stand","many"]) fun _ _ _ _ _ _ us hl=>by obtain ⟨_,_,_,rfl⟩:=zdF hl; rfl),
   F21,
   PySem.W.mg_of X G a21,
   (F21.binds (ps:=["_law_script","_law_k"]) fun _ _ _ _ _ _ us hl=>by obtain ⟨_,_,rfl⟩:=zc0 hl; rfl),
   F22,
   PySem.W.mg_of X G a22,
   (F22.binds (ps:=["_law_pen_here","_law_many"]) fun _ _ _ _ _ _ us hl=>by obtain ⟨_,_,rfl⟩:=zc0 hl; rfl),
   F23,
   PySem.W.mg_of X G a23,
   (F23.binds (ps:=["_law_pen_here","_law_many","_law_great"]) fun _ _ _ _ _ _ us hl=>by obtain ⟨_,_,_,rfl⟩:=zdF hl; rfl),
   F24,
   PySem.W.mg_of X G a24,
   (F24.binds (ps:=["_law_pen_here","_law_most"]) fun _ _ _ _ _ _ us hl=>by obtain ⟨_,_,rfl⟩:=zc0 hl; rfl),
   F25,
   PySem.W.mg_of X G a25,
   (F25.binds (ps:=["_law_pen_here","_law_web_here"]) fun _ _ _ _ _ _ us hl=>by obtain ⟨_,_,rfl⟩:=zc0 hl; rfl),
   F26,
   PySem.W.mg_of X G a26,
   (F26.binds (ps:=["_law_one","_law_other"]) fun _ _ _ _ _ _ us hl=>by obtain ⟨_,_,rfl⟩:=zc0 hl; rfl),
   F27,
   PySem.W.mg_of X G a27,
   (F27.binds (ps:=["_law_mine","_law_yours","_law_many"]) fun _ _ _ _ _ _ us hl=>by obtain ⟨_,_,_,rfl⟩:=zdF hl; rfl),
   F28,
   PySem.W.mg_of X G a28,
   (F28.binds (ps:=["_law_mine","_law_yours","_law_many"]) fun _ _ _ _ _ _ us hl=>by obtain ⟨_,_,_,rfl⟩:=zdF hl; rfl),
   F29,
   PySem.W.mg_of X G a29,
   (F29.binds (ps:=["_law_script"]) fun _ _ _ _ _ _ us hl=>by obtain ⟨_,rfl⟩:=zhM hl; rfl),
   PySem.W.mg_none_of X G z_all,
   PySem.W.mg_none_of X G z_bool,
   PySem.W.mg_none_of X G z_dict,
   PySem.W.mg_none_of X G z_enumerate,
   PySem.W.mg_none_of X G z_int,
   PySem.W.mg_none_of X G z_isinstance,
   PySem.W.mg_none_of X G z_len,
   PySem.W.mg_none_of X G z_list,
   PySem.W.mg_none_of X G z_max,
   PySem.W.mg_none_of X G z_min,
   PySem.W.mg_none_of X G z_range,
   PySem.W.mg_none_of X G z_set,
   PySem.W.mg_none_of X G z_sorted,
   PySem.W.mg_none_of X G z_tuple,
   PySem.W.mg_none_of X G z_zip,
   PySem.W.mg_of X G n_NoWeb,
   PySem.W.mg_of X G n_NoStand,
   h_x_NoWeb,
   h_x_NoStand,
   ⟨_,PySem.W.mg_of X G q0⟩,
   ⟨_,PySem.W.mg_of X G q1⟩,
   ⟨_,PySem.W.mg_of X G q2⟩,
   ⟨_,PySem.W.mg_of X G q3⟩,
   ⟨_,PySem.W.mg_of X G q4⟩⟩
 exact ⟨_,fun s v=>.of_eq rfl,fun base _ _=>zrj T⟩
theorem walk {l : PySem.W.OpenLaw} {q : Program} {loose : List Str} {XP : (Str -> Option Value) -> Heap -> Prop} {YP : World -> Heap -> Prop} {d : DefRec} {K : Params -> PySem.W.Frag} (hn : l.most = some 63) (hdf : d.params.defaults = [])
   (hY : ∀ (w : World) (h : Heap),YP w h -> (K w.params).In h)
   (F : ∀ (w : World) (mg : Str -> Option Value) (fa : Addr) (h : Heap),(K w.params).In h -> h.Ns mainGlobals mg -> mg d.name = some (.ref fa) ->
     ∃ fd : FuncData,(∀ (s : Shared) (u : Value),BindsTo s fd ⟨[u],[]⟩ [("_law_script",u)]) /\ ∀ base : Heap,(K w.params).In base -> base.Ns mainGlobals mg -> zbr l.prog w (K w.params) mg base CX0 7 fa fd ["_law_script"] (zil (K w.params))) :
   PySem.W.WalkO q loose XP YP l.row.toRowW d [] (fun f vs=>PySem.call f vs) :=
 L2.walk_of (n:=63) (k:=7) (x:="_law_script") (CX:=fun _=>CX0) (sp:=fun w=>zil (K w.params)) hn (by decide) hdf ⟨rfl,by decide,by decide,rfl⟩ hY F (fun _ H a ns hl hO hS=>⟨.ref a,rfl,a,ns,rfl,zqE hO hS,hl,fun _=>rfl⟩) fun _ _ _ _ _ z=>z
end G
open PySem PySem.W PyProof.Rows
set_option maxRecDepth 100000 in
set_option maxHeartbeats 0 in
theorem PySem.Challenge.cw_glowflock_k46_whole_webs_side_by_side_holds : PySem.Challenge.rw_glowflock_k46_whole_webs_side_by_side.Holds := by
 w_on; refine GH.head ?_
 k_fill
 refine G.walk (l:=PySem.Challenge.rw_glowflock_k46_whole_webs_side_by_side) rfl rfl (fun w h Y=>PySem.W.kIn_of Y) ?F
 case F =>
   intro w mg fa h KX GG hmg
   refine' G.all_mk KX GG hmg ?a0 ?l0 ?c0 ?k0 ?a1 ?l1 ?c1 ?k1 ?a2 ?l2 ?c2 ?k2 ?a3 ?l3 ?c3 ?k3 ?a4 ?l4 ?c4 ?k4 ?a5 ?l5 ?c5 ?k5 ?a6 ?l6 ?c6 ?k6 ?a7 ?l7 ?c7 ?k7 ?a8 ?l8 ?c8 ?k8 ?a9 ?l9 ?c9 ?k9 ?a10 ?l10 ?c10 ?k10 ?a11 ?l11 ?c11 ?k11 ?a12 ?l12 ?c12 ?k12 ?a13 ?l13 ?c13 ?k13 ?a14 ?l14 ?c14 ?k14 ?a15 ?l15 ?c15 ?k15 ?a16 ?l16 ?c16 ?k16 ?a17 ?l17 ?c17 ?k17 ?a18 ?l18 ?c18 ?k18 ?a19 ?l19 ?c19 ?k19 ?a20 ?l20 ?c20 ?k20 ?a21 ?l21 ?c21 ?k21 ?a22 ?l22 ?c22 ?k22 ?a23 ?l23 ?c23 ?k23 ?a24 ?l24 ?c24 ?k24 ?a25 ?l25 ?c25 ?k25 ?a26 ?l26 ?c26 ?k26 ?a27 ?l27 ?c27 ?k27 ?a28 ?l28 ?c28 ?k28 ?a29 ?l29 ?c29 ?k29 ?n_NoWeb ?n_NoStand ?z_all ?z_bool ?z_dict ?z_enumerate ?z_int ?z_isinstance ?z_len ?z_list ?z_max ?z_min ?z_range ?z_set ?z_sorted ?z_tuple ?z_zip ?h_x_NoWeb ?h_x_NoStand ?q0 ?q1 ?q2 ?q3 ?q4
   (case a0=>k_is)
   (case l0=>k_is)
   (case c0=>k_is)
   (case k0=>k_is)
   (case a1=>k_is)
   (case l1=>k_is)
   (case c1=>k_is)
   (case k1=>k_is)
   (case a2=>k_is)
   (case l2=>k_is)
   (case c2=>k_is)
   (case k2=>k_is)
   (case a3=>k_is)
   (case l3=>k_is)
   (case c3=>k_is)
   (case k3=>k_is)
   (case a4=>k_is)
   (case l4=>k_is)
   (case c4=>k_is)
   (case k4=>k_is)
   (case a5=>k_is)
   (case l5=>k_is)
   (case c5=>k_is)
   (case k5=>k_is)
   (case a6=>k_is)
   (case l6=>k_is)
   (case c6=>k_is)
   (case k6=>k_is)
   (case a7=>k_is)
   (case l7=>k_is)
   (case c7=>k_is)
   (case k7=>k_is)
   (case a8=>k_is)
   (case l8=>k_is)
   (case c8=>k_is)
   (case k8=>k_is)
   (case a9=>k_is)
   (case l9=>k_is)
   (case c9=>k_is)
   (case k9=>k_is)
   (case a10=>k_is)
   (case l10=>k_is)
   (case c10=>k_is)
   (case k10=>k_is)
   (case a11=>k_is)
   (case l11=>k_is)
   (case c11=>k_is)
   (case k11=>k_is)
   (case a12=>k_is)
   (case l12=>k_is)
   (case c12=>k_is)
   (case k12=>k_is)
   (case a13=>k_is)
   (case l13=>k_is)
   (case c13=>k_is)
   (case k13=>k_is)
   (case a14=>k_is)
   (case l14=>k_is)
   (case c14=>k_is)
   (case k14=>k_is)
   (case a15=>k_is)
   (case l15=>k_is)
   (case c15=>k_is)
   (case k15=>k_is)
   (case a16=>k_is)
   (case l16=>k_is)
   (case c16=>k_is)
   (case k16=>k_is)
   (case a17=>k_is)
   (case l17=>k_is)
   (case c17=>k_is)
   (case k17=>k_is)
   (case a18=>k_is)
   (case l18=>k_is)
   (case c18=>k_is)
   (case k18=>k_is)
   (case a19=>k_is)
   (case l19=>k_is)
   (case c19=>k_is)
   (case k19=>k_is)
   (case a20=>k_is)
   (case l20=>k_is)
   (case c20=>k_is)
   (case k20=>k_is)
   (case a21=>k_is)
   (case l21=>k_is)
   (case c21=>k_is)
   (case k21=>k_is)
   (case a22=>k_is)
   (case l22=>k_is)
   (case c22=>k_is)
   (case k22=>k_is)
   (case a23=>k_is)
   (case l23=>k_is)
   (case c23=>k_is)
   (case k23=>k_is)
   (case a24=>k_is)
   (case l24=>k_is)
   (case c24=>k_is)
   (case k24=>k_is)
   (case a25=>k_is)
   (case l25=>k_is)
   (case c25=>k_is)
   (case k25=>k_is)
   (case a26=>k_is)
   (case l26=>k_is)
   (case c26=>k_is)
   (case k26=>k_is)
   (case a27=>k_is)
   (case l27=>k_is)
   (case c27=>k_is)
   (case k27=>k_is)
   (case a28=>k_is)
   (case l28=>k_is)
   (case c28=>k_is)
   (case k28=>k_is)
   (case a29=>k_is)
   (case l29=>k_is)
   (case c29=>k_is)
   (case k29=>k_is)
   (case n_NoWeb=>k_is)
   (case n_NoStand=>k_is)
   (case z_all=>k_is)
   (case z_bool=>k_is)
   (case z_dict=>k_is)
   (case z_enumerate=>k_is)
   (case z_int=>k_is)
   (case z_isinstance=>k_is)
   (case z_len=>k_is)
   (case z_list=>k_is)
   (case z_max=>k_is)
   (case z_min=>k_is)
   (case z_range=>k_is)
   (case z_set=>k_is)
   (case z_sorted=>k_is)
   (case z_tuple=>k_is)
   (case z_zip=>k_is)
   (case h_x_NoWeb=>k_exc)
   (case h_x_NoStand=>k_exc)
   (case q0=>k_is)
   (case q1=>k_is)
   (case q2=>k_is)
   (case q3=>k_is)
   (case q4=>k_is)
#print axioms PySem.Challenge.cw_glowflock_k46_whole_webs_side_by_side_holds
